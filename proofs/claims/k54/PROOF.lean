import PyProof.Rows.All
import Wide.All
import OpenK.AllK
import Wide.FinOn
import HandS.ForMost
import HandS.IsInst
import HandS.Walk
import HandS.Codes
import HandS.EndTab
import KE.KxText
import HandS.AnyAll
import HandS.GenBody
import HandS.SetTxt0
import HandS.SetFor
import HandS.Strs
import HandS.More
import PyProof.AutoSeq1
import HandS.FStr
import HandS.Star
import HandS.TupAny
import HandS.TupMul
import HandS.CallLocal
import HandS.Style
import PySem.Challenge.RW_walkrooms_k54_what_is_mail
set_option Elab.async false
set_option linter.all false
set_option maxRecDepth 100000
set_option maxHeartbeats 2000000
/-! What all laws of this program share: drawn texts, rows of parts as data, how they stand in memory. -/
namespace Wk
open PySem PySem.Spec PyProof.Rows L2
theorem small {n : Nat} (h : n ≤ 1000) : n ≤ sizeLine := Nat.le_of_lt (small1000 h)
theorem big {n : Nat} (h : n ≤ 1000000) : n ≤ sizeLine := Nat.le_trans h (by decide)
theorem yes {σ : L2.St} {H : Hp} {Q : Bool → Hp → Prop} (h : Q true H) : tYes σ H Q := h
theorem kn {H : Hp} {a p : Addr} {o u : HO} (h : H a = some o) (n : H p = none) : upd H p u a = some o := by
  rw [upd_ne (ne_of_none h n)]
  exact h
theorem atX_lt {α : Type} {l : List α} {d : Int} (h0 : 0 ≤ d) (h1 : d < l.length) : ∃ c ∈ l, atI l d = some c ∧ l[d.toNat]? = some c := by
  have hd : d.toNat < l.length := by omega
  refine ⟨l[d.toNat], List.getElem_mem hd, ?_, List.getElem?_eq_getElem hd⟩
  have e : atI l ((d.toNat : Nat) : Int) = some l[d.toNat] := atI_nat (List.getElem?_eq_getElem hd)
  rw [show ((d.toNat : Nat) : Int) = d by omega] at e
  exact e
/-! ### texts -/
/-- at most k signs, plain ones -/
def Sh (k : Nat) (z : Str) : Prop := z.cps.toList.length ≤ k ∧ ∀ c ∈ z.cps.toList, c < 128
theorem Sh.len {k : Nat} {z : Str} (h : Sh k z) : z.length ≤ k := by
  have := h.1
  rw [Array.length_toList] at this
  exact this
theorem Sh.mono {k j : Nat} {z : Str} (h : Sh k z) (hk : k ≤ j) : Sh j z := ⟨Nat.le_trans h.1 hk, h.2⟩
theorem app_codes (y z : Str) : (y ++ z).cps.toList = y.cps.toList ++ z.cps.toList := by
  show (y.cps ++ z.cps).toList = _
  rw [Array.toList_append]
theorem app_len (y z : Str) : (y ++ z).length = y.length + z.length := by
  show (y.cps ++ z.cps).size = _
  rw [Array.size_append]
  rfl
theorem Sh.app {k j : Nat} {y z : Str} (h : Sh k y) (g : Sh j z) : Sh (k + j) (y ++ z) := by
  refine ⟨?_, fun c hc => ?_⟩
  · rw [app_codes, List.length_append]
    exact Nat.add_le_add h.1 g.1
  · rw [app_codes] at hc
    rcases List.mem_append.mp hc with q | q
    · exact h.2 c q
    · exact g.2 c q
theorem Sh.sign {c : Nat} (h : c < 128) : Sh 1 ⟨#[c]⟩ := ⟨Nat.le_refl 1, fun d hd => by
  have : d = c := by simpa using hd
  rw [this]
  exact h⟩
theorem Sh.ok {k : Nat} {z : Str} (h : Sh k z) : PyData.strOk z = true := by
  unfold PyData.strOk
  rw [Array.all_eq_true']
  intro c hc
  have := h.2 c (Array.mem_def.mp hc)
  simp
  omega
/-! ### one number in a list -/
/-- but for L, which holds a list of one number, what stood stands -/
def StL (L : Addr) (H H' : Hp) : Prop := (∀ b o, b ≠ L → H b = some o → H' b = some o) ∧ ∃ n : Int, H' L = some (.lst [.int n])
theorem StL.refl {L : Addr} {H : Hp} {n : Int} (h : H L = some (.lst [.int n])) : StL L H H := ⟨fun _ _ _ e => e, n, h⟩
theorem StL.trans {L : Addr} {H H1 H2 : Hp} (a : StL L H H1) (b : StL L H1 H2) : StL L H H2 := ⟨fun c o n e => b.1 c o n (a.1 c o n e), b.2⟩
theorem StL.put {L : Addr} {H : Hp} (n : Int) : StL L H (upd H L (.lst [.int n])) := ⟨fun b o nb e => by rw [upd_ne nb]; exact e, n, upd_same⟩
theorem StL.new {L p : Addr} {H : Hp} {n : Int} {o : HO} (h : H L = some (.lst [.int n])) (np : H p = none) : StL L H (upd H p o) :=
  ⟨fun b u _ e => by rw [upd_ne (ne_of_none e np)]; exact e, n, by rw [upd_ne (ne_of_none h np)]; exact h⟩
theorem StL.none {L p : Addr} {H H' : Hp} (x : StL L H H') (h : H' p = Option.none) : H p = Option.none := by
  cases q : H p with
  | none => rfl
  | some o =>
    by_cases e : p = L
    · obtain ⟨n, hn⟩ := x.2
      rw [e, hn] at h
      cases h
    · rw [x.1 p o e q] at h
      cases h
def spLeft : Sp := fun vs H Q _ => ∃ c : Int, vs = [.int c] ∧ ∀ (p : Addr) (n : Int), H p = none → Q (.ref p) (upd H p (.lst [.int n]))
def spDigit : Sp := fun vs H Q _ => ∃ (L : Addr) (n m : Int), vs = [.ref L, .int m] ∧ H L = some (.lst [.int n]) ∧ 0 < m ∧ m < 1073741824 ∧ ∀ d n' : Int, 0 ≤ d → d < m → Q (.int d) (upd H L (.lst [.int n']))
theorem pos1 : (0 : Int) < 2147483629 := by decide
theorem pos2 : (0 : Int) < 2147483647 := by decide
/-! ### rows of parts -/
inductive Wd where
  | room | inn | out | opn | hear | new
deriving DecidableEq
def Wd.str : Wd → Str
  | .room => "room"
  | .inn => "in"
  | .out => "out"
  | .opn => "open"
  | .hear => "hear"
  | .new => "new"
def Wd.binds : Wd → Bool
  | .hear => true
  | .new => true
  | _ => false
inductive Part where
  | say (n : Str)
  | again (r : List Part)
  | oth (w : Wd) (n : Str) (r : List Part)
mutual
def PartAt (H : Hp) : Part → V → Prop
  | .say n, v => ∃ a, v = .ref a ∧ H a = some (.tup [.str "say", .str n])
  | .again r, v => ∃ a b xs, v = .ref a ∧ H a = some (.tup [.str "again", .ref b]) ∧ H b = some (.tup xs) ∧ PartsAt H r xs
  | .oth w n r, v => ∃ a b xs, v = .ref a ∧ H a = some (.tup [.str w.str, .str n, .ref b]) ∧ H b = some (.tup xs) ∧ PartsAt H r xs
def PartsAt (H : Hp) : List Part → List V → Prop
  | [], vs => vs = []
  | p :: r, vs => ∃ v us, vs = v :: us ∧ PartAt H p v ∧ PartsAt H r us
end
def RowAt (H : Hp) (r : List Part) (v : V) : Prop := ∃ a xs, v = .ref a ∧ H a = some (.tup xs) ∧ PartsAt H r xs
/-- all tuples stay -/
def STup (H H' : Hp) : Prop := ∀ a xs, H a = some (.tup xs) → H' a = some (.tup xs)
theorem STup.refl (H : Hp) : STup H H := fun _ _ h => h
theorem STup.trans {H H1 H2 : Hp} (a : STup H H1) (b : STup H1 H2) : STup H H2 := fun c o h => b c o (a c o h)
theorem STup.of {H H' : Hp} (h : Same H H') : STup H H' := fun a xs e => h _ _ e
theorem STup.new {H : Hp} {p : Addr} {o : HO} (n : H p = none) : STup H (upd H p o) := fun a xs e => kn e n
theorem STup.lst {H : Hp} {p : Addr} {o : HO} {ys : List V} (h : H p = some (.lst ys)) : STup H (upd H p o) := fun a xs e => by
  rw [upd_ne (fun z => by rw [z, h] at e; cases e)]
  exact e
mutual
theorem PartAt.mono {H H' : Hp} (s : STup H H') : ∀ (p : Part) (v : V), PartAt H p v → PartAt H' p v
  | .say n, v, h => by
    obtain ⟨a, e, h1⟩ := h
    exact ⟨a, e, s _ _ h1⟩
  | .again r, v, h => by
    obtain ⟨a, b, xs, e, h1, h2, h3⟩ := h
    exact ⟨a, b, xs, e, s _ _ h1, s _ _ h2, PartsAt.mono s r xs h3⟩
  | .oth w n r, v, h => by
    obtain ⟨a, b, xs, e, h1, h2, h3⟩ := h
    exact ⟨a, b, xs, e, s _ _ h1, s _ _ h2, PartsAt.mono s r xs h3⟩
theorem PartsAt.mono {H H' : Hp} (s : STup H H') : ∀ (r : List Part) (vs : List V), PartsAt H r vs → PartsAt H' r vs
  | [], vs, h => h
  | p :: r, vs, h => by
    obtain ⟨v, us, e, h1, h2⟩ := h
    exact ⟨v, us, e, PartAt.mono s p v h1, PartsAt.mono s r us h2⟩
end
theorem RowAt.mono {H H' : Hp} {r : List Part} {v : V} (s : STup H H') (h : RowAt H r v) : RowAt H' r v := by
  obtain ⟨a, xs, e, h1, h2⟩ := h
  exact ⟨a, xs, e, s _ _ h1, PartsAt.mono s r xs h2⟩
theorem PartsAt.len {H : Hp} : ∀ {r : List Part} {vs : List V}, PartsAt H r vs → vs.length = r.length
  | [], vs, h => by rw [show vs = [] from h]; rfl
  | p :: r, vs, h => by
    obtain ⟨v, us, e, _, h2⟩ := h
    rw [e, List.length_cons, List.length_cons, PartsAt.len h2]
theorem PartsAt.get {H : Hp} : ∀ {r : List Part} {vs : List V}, PartsAt H r vs → ∀ {i : Nat} {v : V}, vs[i]? = some v → ∃ p, r[i]? = some p ∧ PartAt H p v
  | [], vs, h, i, v, e => by rw [show vs = [] from h] at e; simp at e
  | p :: r, vs, h, 0, v, e => by
    obtain ⟨u, us, rfl, h1, _⟩ := h
    exact ⟨p, rfl, by rw [← Option.some.inj (show some u = some v from e)]; exact h1⟩
  | p :: r, vs, h, i + 1, v, e => by
    obtain ⟨u, us, rfl, _, h2⟩ := h
    exact PartsAt.get h2 (i := i) (v := v) e
theorem PartsAt.app {H : Hp} {q : List Part} {us : List V} (g : PartsAt H q us) : ∀ {r : List Part} {vs : List V}, PartsAt H r vs → PartsAt H (r ++ q) (vs ++ us)
  | [], vs, h => by rw [show vs = [] from h]; exact g
  | p :: r, vs, h => by
    obtain ⟨v, ws, rfl, h1, h2⟩ := h
    exact ⟨v, ws ++ us, rfl, h1, PartsAt.app g h2⟩
theorem PartsAt.one {H : Hp} {p : Part} {v : V} (h : PartAt H p v) : PartsAt H [p] [v] := ⟨v, [], rfl, h, rfl⟩
/-! ### their data -/
mutual
def dP : Part → PyData
  | .say n => .tuple [.str "say", .str n]
  | .again r => .tuple [.str "again", .tuple (dR r)]
  | .oth w n r => .tuple [.str w.str, .str n, .tuple (dR r)]
def dR : List Part → List PyData
  | [] => []
  | p :: r => dP p :: dR r
end
mutual
theorem PartAt.dp {K : PySem.W.Frag} {H : Hp} : ∀ (p : Part) (v : V), PartAt H p v → Dp K H v (dP p)
  | .say n, v, h => by
    obtain ⟨a, rfl, h1⟩ := h
    exact .tup (SqT.of h1) (.cons (.str _) (.cons (.str _) .nil))
  | .again r, v, h => by
    obtain ⟨a, b, xs, rfl, h1, h2, h3⟩ := h
    exact .tup (SqT.of h1) (.cons (.str _) (.cons (.tup (SqT.of h2) (PartsAt.dp r xs h3)) .nil))
  | .oth w n r, v, h => by
    obtain ⟨a, b, xs, rfl, h1, h2, h3⟩ := h
    exact .tup (SqT.of h1) (.cons (.str _) (.cons (.str _) (.cons (.tup (SqT.of h2) (PartsAt.dp r xs h3)) .nil)))
theorem PartsAt.dp {K : PySem.W.Frag} {H : Hp} : ∀ (r : List Part) (vs : List V), PartsAt H r vs → DpAll K H vs (dR r)
  | [], vs, h => by
    rw [show vs = [] from h]
    exact .nil
  | p :: r, vs, h => by
    obtain ⟨v, us, rfl, h1, h2⟩ := h
    exact .cons (PartAt.dp p v h1) (PartsAt.dp r us h2)
end
theorem RowAt.dp {K : PySem.W.Frag} {H : Hp} {r : List Part} {v : V} (h : RowAt H r v) : Dp K H v (.tuple (dR r)) := by
  obtain ⟨a, xs, rfl, h1, h2⟩ := h
  exact .tup (SqT.of h1) (PartsAt.dp r xs h2)
/-! ### measures and looks -/
mutual
def okP (f : Str → Prop) : Part → Prop
  | .say n => f n
  | .again r => okR f r
  | .oth _ n r => f n ∧ okR f r
def okR (f : Str → Prop) : List Part → Prop
  | [] => True
  | p :: r => okP f p ∧ okR f r
end
mutual
def deepP : Part → Nat
  | .say _ => 1
  | .again r => deepR r + 1
  | .oth _ _ r => deepR r + 1
def deepR : List Part → Nat
  | [] => 0
  | p :: r => max (deepP p) (deepR r)
end
mutual
def sizeP : Part → Nat
  | .say _ => 1
  | .again r => sizeR r + 1
  | .oth _ _ r => sizeR r + 1
def sizeR : List Part → Nat
  | [] => 0
  | p :: r => sizeP p + sizeR r
end
/-! what is bound, in the order in which it is met -/
mutual
def bdP : Part → List Str
  | .say _ => []
  | .again r => bdR r
  | .oth w n r => (if w.binds then [n] else []) ++ bdR r
def bdR : List Part → List Str
  | [] => []
  | p :: r => bdP p ++ bdR r
end
/-! each calling that is not bound there stands in S -/
mutual
def scP : List Str → Part → Prop
  | S, .say n => n ∈ S
  | S, .again r => scR S r
  | S, .oth w n r => if w.binds = true then scR (n :: S) r else n ∈ S ∧ scR S r
def scR : List Str → List Part → Prop
  | _, [] => True
  | S, p :: r => scP S p ∧ scR S r
end
mutual
theorem scP.mono : ∀ (p : Part) {S S' : List Str}, (∀ n ∈ S, n ∈ S') → scP S p → scP S' p
  | .say n, S, S', h, g => h n g
  | .again r, S, S', h, g => scR.mono r h g
  | .oth w n r, S, S', h, g => by
    unfold scP at g ⊢
    by_cases e : w.binds = true
    · rw [if_pos e] at g ⊢
      exact scR.mono r (fun m hm => by
        rcases List.mem_cons.mp hm with q | q
        · rw [q]; exact List.mem_cons_self
        · exact List.mem_cons_of_mem _ (h m q)) g
    · rw [if_neg e] at g ⊢
      exact ⟨h n g.1, scR.mono r h g.2⟩
theorem scR.mono : ∀ (r : List Part) {S S' : List Str}, (∀ n ∈ S, n ∈ S') → scR S r → scR S' r
  | [], S, S', h, g => trivial
  | p :: r, S, S', h, g => ⟨scP.mono p h g.1, scR.mono r h g.2⟩
end
theorem okR_app {f : Str → Prop} : ∀ {r q : List Part}, okR f r → okR f q → okR f (r ++ q)
  | [], q, _, g => g
  | p :: r, q, h, g => ⟨h.1, okR_app h.2 g⟩
theorem deepR_app : ∀ (r q : List Part), deepR (r ++ q) = max (deepR r) (deepR q)
  | [], q => by show deepR q = max 0 (deepR q); omega
  | p :: r, q => by
    show max (deepP p) (deepR (r ++ q)) = max (max (deepP p) (deepR r)) (deepR q)
    rw [deepR_app r q]
    omega
theorem sizeR_app : ∀ (r q : List Part), sizeR (r ++ q) = sizeR r + sizeR q
  | [], q => by show sizeR q = 0 + sizeR q; omega
  | p :: r, q => by
    show sizeP p + sizeR (r ++ q) = sizeP p + sizeR r + sizeR q
    rw [sizeR_app r q]
    omega
theorem bdR_app : ∀ (r q : List Part), bdR (r ++ q) = bdR r ++ bdR q
  | [], q => rfl
  | p :: r, q => by
    show bdP p ++ bdR (r ++ q) = (bdP p ++ bdR r) ++ bdR q
    rw [bdR_app r q, List.append_assoc]
theorem scR_app {S : List Str} : ∀ {r q : List Part}, scR S r → scR S q → scR S (r ++ q)
  | [], q, _, g => g
  | p :: r, q, h, g => ⟨h.1, scR_app h.2 g⟩
mutual
theorem okP.imp {f g : Str → Prop} (i : ∀ n, f n → g n) : ∀ p : Part, okP f p → okP g p
  | .say n, h => i n h
  | .again r, h => okR.imp i r h
  | .oth _ n r, h => ⟨i n h.1, okR.imp i r h.2⟩
theorem okR.imp {f g : Str → Prop} (i : ∀ n, f n → g n) : ∀ r : List Part, okR f r → okR g r
  | [], _ => trivial
  | p :: r, h => ⟨okP.imp i p h.1, okR.imp i r h.2⟩
end
theorem okR.mem {f : Str → Prop} : ∀ {r : List Part}, okR f r → ∀ p ∈ r, okP f p
  | [], _, p, hp => nomatch hp
  | q :: r, h, p, hp => by
    rcases List.mem_cons.mp hp with e | e
    · rw [e]; exact h.1
    · exact okR.mem h.2 p e
theorem deepR.mem : ∀ {r : List Part}, ∀ p ∈ r, deepP p ≤ deepR r
  | [], p, hp => nomatch hp
  | q :: r, p, hp => by
    show deepP p ≤ max (deepP q) (deepR r)
    rcases List.mem_cons.mp hp with e | e
    · rw [e]; omega
    · have := deepR.mem (r := r) p e; omega
theorem sizeR.mem : ∀ {r : List Part}, ∀ p ∈ r, sizeP p ≤ sizeR r
  | [], p, hp => nomatch hp
  | q :: r, p, hp => by
    show sizeP p ≤ sizeP q + sizeR r
    rcases List.mem_cons.mp hp with e | e
    · rw [e]; omega
    · have := sizeR.mem (r := r) p e; omega
mutual
theorem size_posP : ∀ p : Part, 1 ≤ sizeP p
  | .say _ => Nat.le_refl 1
  | .again r => by show 1 ≤ sizeR r + 1; omega
  | .oth _ _ r => by show 1 ≤ sizeR r + 1; omega
end
theorem len_sizeR : ∀ r : List Part, r.length ≤ sizeR r
  | [] => Nat.le_refl 0
  | p :: r => by
    have h1 := size_posP p
    have h2 := len_sizeR r
    show r.length + 1 ≤ sizeP p + sizeR r
    omega
/-! ### data that may be compared -/
theorem wd_ok (w : Wd) : PyData.strOk w.str = true := by cases w <;> decide +kernel
mutual
theorem layP {f : Str → Prop} (hf : ∀ n, f n → PyData.strOk n = true) : ∀ p : Part, okP f p → PyData.canLay0 (dP p) = true
  | .say n, h => by
    have h1 : PyData.strOk "say" = true := by decide +kernel
    simp only [dP, PyData.canLay0, PyData.canLayAll0, h1, hf n h, Bool.and_self]
  | .again r, h => by
    have h1 : PyData.strOk "again" = true := by decide +kernel
    simp only [dP, PyData.canLay0, PyData.canLayAll0, h1, layR hf r h, Bool.and_self]
  | .oth w n r, h => by
    simp only [dP, PyData.canLay0, PyData.canLayAll0, wd_ok w, hf n h.1, layR hf r h.2, Bool.and_self]
theorem layR {f : Str → Prop} (hf : ∀ n, f n → PyData.strOk n = true) : ∀ r : List Part, okR f r → PyData.canLayAll0 (dR r) = true
  | [], _ => by simp only [dR, PyData.canLayAll0]
  | p :: r, h => by simp only [dR, PyData.canLayAll0, layP hf p h.1, layR hf r h.2, Bool.and_self]
end
mutual
theorem depP : ∀ p : Part, PyData.depth (dP p) ≤ 2 * deepP p
  | .say n => by
    simp only [dP, PyData.depth, PyData.depthAll, deepP]
    omega
  | .again r => by
    have := depR r
    simp only [dP, PyData.depth, PyData.depthAll, deepP]
    omega
  | .oth w n r => by
    have := depR r
    simp only [dP, PyData.depth, PyData.depthAll, deepP]
    omega
theorem depR : ∀ r : List Part, PyData.depthAll (dR r) ≤ 2 * deepR r
  | [] => by simp only [dR, PyData.depthAll, deepR]; omega
  | p :: r => by
    have h1 := depP p
    have h2 := depR r
    simp only [dR, PyData.depthAll, deepR]
    omega
end
theorem shapedR {f : Str → Prop} (hf : ∀ n, f n → PyData.strOk n = true) {r : List Part} (h : okR f r) (hd : deepR r ≤ 30) : SeqAt.shaped (.tuple (dR r)) = true := by
  unfold SeqAt.shaped
  have := depR r
  simp only [PyData.canLay0, layR hf r h, PyData.depth, Bool.true_and]
  exact decide_eq_true (by omega)
/-! ### called otherwise -/
mutual
def calledP (x c : Str) : Part → Part
  | .say n => .say (if n = x then c else n)
  | .again r => .again (calledR x c r)
  | .oth w n r => if w.binds = true ∧ n = x then .oth w n r else .oth w (if n = x then c else n) (calledR x c r)
def calledR (x c : Str) : List Part → List Part
  | [] => []
  | p :: r => calledP x c p :: calledR x c r
end
theorem calledR_map (x c : Str) : ∀ r : List Part, calledR x c r = r.map (calledP x c)
  | [] => rfl
  | p :: r => by
    show calledP x c p :: calledR x c r = calledP x c p :: r.map (calledP x c)
    rw [calledR_map x c r]
mutual
theorem calledP_deep (x c : Str) : ∀ p : Part, deepP (calledP x c p) = deepP p
  | .say n => rfl
  | .again r => by
    show deepR (calledR x c r) + 1 = deepR r + 1
    rw [calledR_deep x c r]
  | .oth w n r => by
    unfold calledP
    by_cases e : w.binds = true ∧ n = x
    · rw [if_pos e]
    · rw [if_neg e]
      show deepR (calledR x c r) + 1 = deepR r + 1
      rw [calledR_deep x c r]
theorem calledR_deep (x c : Str) : ∀ r : List Part, deepR (calledR x c r) = deepR r
  | [] => rfl
  | p :: r => by
    show max (deepP (calledP x c p)) (deepR (calledR x c r)) = max (deepP p) (deepR r)
    rw [calledP_deep x c p, calledR_deep x c r]
end
mutual
theorem calledP_size (x c : Str) : ∀ p : Part, sizeP (calledP x c p) = sizeP p
  | .say n => rfl
  | .again r => by
    show sizeR (calledR x c r) + 1 = sizeR r + 1
    rw [calledR_size x c r]
  | .oth w n r => by
    unfold calledP
    by_cases e : w.binds = true ∧ n = x
    · rw [if_pos e]
    · rw [if_neg e]
      show sizeR (calledR x c r) + 1 = sizeR r + 1
      rw [calledR_size x c r]
theorem calledR_size (x c : Str) : ∀ r : List Part, sizeR (calledR x c r) = sizeR r
  | [] => rfl
  | p :: r => by
    show sizeP (calledP x c p) + sizeR (calledR x c r) = sizeP p + sizeR r
    rw [calledP_size x c p, calledR_size x c r]
end
theorem pick {f : Str → Prop} {x c n : Str} (hc : f c) (hn : f n) : f (if n = x then c else n) := by
  by_cases e : n = x
  · rw [if_pos e]; exact hc
  · rw [if_neg e]; exact hn
mutual
theorem calledP_ok {f : Str → Prop} (x c : Str) (hc : f c) : ∀ p : Part, okP f p → okP f (calledP x c p)
  | .say n, h => pick (x := x) hc h
  | .again r, h => calledR_ok x c hc r h
  | .oth w n r, h => by
    unfold calledP
    by_cases e : w.binds = true ∧ n = x
    · rw [if_pos e]
      exact h
    · rw [if_neg e]
      exact ⟨pick hc h.1, calledR_ok x c hc r h.2⟩
theorem calledR_ok {f : Str → Prop} (x c : Str) (hc : f c) : ∀ r : List Part, okR f r → okR f (calledR x c r)
  | [], _ => trivial
  | p :: r, h => ⟨calledP_ok x c hc p h.1, calledR_ok x c hc r h.2⟩
end
end Wk

set_option Elab.async false
set_option linter.all false
set_option maxRecDepth 100000
set_option maxHeartbeats 2000000
/-! What the laws draw: names, and houses of them. -/
namespace Wk
open PySem PySem.Spec PyProof.Rows L2
abbrev abc : Str := "abcdefghijklmnopqrstuvwxyz"
abbrev vow : Str := "aeiouxyz"
theorem abc_at : ∀ j : Nat, j < 26 → abc.cps.toList[j]? = some (97 + j) := by decide +kernel
theorem abc_len : abc.cps.toList.length = 26 := by decide +kernel
theorem vow_len : vow.cps.toList.length = 8 := by decide +kernel
theorem vow_lt : ∀ c ∈ vow.cps.toList, 97 ≤ c ∧ c < 123 := by decide +kernel
/-- a letter by its number, and up to five of eight more -/
def NameOf (j : Nat) (z : Str) : Prop := ∃ r, z.cps.toList = (97 + j) :: r ∧ r.length ≤ 5 ∧ ∀ c ∈ r, c ∈ vow.cps.toList
theorem NameOf.sh {j : Nat} {z : Str} (h : NameOf j z) (hj : j < 26) : Sh 6 z := by
  obtain ⟨r, e, h1, h2⟩ := h
  refine ⟨by rw [e, List.length_cons]; omega, fun c hc => ?_⟩
  rw [e] at hc
  rcases List.mem_cons.mp hc with q | q
  · omega
  · have := vow_lt c (h2 c q)
    omega
theorem NameOf.inj {i j : Nat} {z : Str} (h : NameOf i z) (g : NameOf j z) : i = j := by
  obtain ⟨r, e, _⟩ := h
  obtain ⟨q, e2, _⟩ := g
  rw [e] at e2
  have := (List.cons.inj e2).1
  omega
def spNames : Sp := fun vs H Q _ => ∃ (L : Addr) (n : Int) (m : Nat), vs = [.ref L, .int m] ∧ H L = some (.lst [.int n]) ∧ m ≤ 100 ∧
  ∀ (H' : Hp) (p : Addr) (s : Nat) (zs : List Str), StL L H H' → H p = none → H' p = some (.lst (zs.map V.str)) → zs.length = m → s < 26 → (∀ i z, zs[i]? = some z → NameOf ((s + 5 * i) % 26) z) → Q (.ref p) H'
/-! ### houses -/
/-- but for L and S what stood stands; L holds one number, S the names that are left -/
def StG (L S : Addr) (H H' : Hp) (sp : List Str) : Prop := (∀ b o, b ≠ L → b ≠ S → H b = some o → H' b = some o) ∧ (∃ n : Int, H' L = some (.lst [.int n])) ∧ H' S = some (.lst (sp.map V.str))
section
variable {L S p : Addr} {H H1 H2 : Hp} {sp sp1 sp2 : List Str} {o : HO}
theorem LS_ne {n : Int} (h1 : H L = some (.lst [.int n])) (h2 : H S = some (.lst (sp.map V.str))) : L ≠ S := fun e => by
  rw [e, h2] at h1
  have q := HO.lst.inj (Option.some.inj h1)
  cases sp with
  | nil => cases q
  | cons a r => cases q
theorem StG.ne (x : StG L S H H1 sp) : L ≠ S := by
  obtain ⟨n, hn⟩ := x.2.1
  exact LS_ne hn x.2.2
theorem StG.refl {n : Int} (h1 : H L = some (.lst [.int n])) (h2 : H S = some (.lst (sp.map V.str))) : StG L S H H sp := ⟨fun _ _ _ _ e => e, ⟨n, h1⟩, h2⟩
theorem StG.trans (a : StG L S H H1 sp1) (b : StG L S H1 H2 sp2) : StG L S H H2 sp2 := ⟨fun c u n1 n2 e => b.1 c u n1 n2 (a.1 c u n1 n2 e), b.2⟩
theorem StG.put (x : StG L S H H1 sp) (n : Int) : StG L S H (upd H1 L (.lst [.int n])) sp :=
  ⟨fun b u nb nc e => by rw [upd_ne nb]; exact x.1 b u nb nc e, ⟨n, upd_same⟩, by rw [upd_ne (Ne.symm x.ne)]; exact x.2.2⟩
theorem StG.new (x : StG L S H H1 sp) (n : H1 p = none) : StG L S H (upd H1 p o) sp := by
  obtain ⟨i, hi⟩ := x.2.1
  exact ⟨fun b u nb nc e => kn (x.1 b u nb nc e) n, ⟨i, kn hi n⟩, kn x.2.2 n⟩
theorem StG.pop (x : StG L S H H1 sp) : StG L S H (upd H1 S (.lst (sp1.map V.str))) sp1 := by
  obtain ⟨i, hi⟩ := x.2.1
  exact ⟨fun b u nb nc e => by rw [upd_ne nc]; exact x.1 b u nb nc e, ⟨i, by rw [upd_ne x.ne]; exact hi⟩, upd_same⟩
theorem StG.tup {n : Int} (x : StG L S H H1 sp1) (h1 : H L = some (.lst [.int n])) (h2 : H S = some (.lst (sp.map V.str))) : STup H H1 := fun a xs e =>
  x.1 a _ (fun z => by rw [z, h1] at e; cases e) (fun z => by rw [z, h2] at e; cases e) e
theorem StG.none {n : Int} (x : StG L S H H1 sp1) (h : H1 p = Option.none) (h1 : H L = some (.lst [.int n])) (h2 : H S = some (.lst (sp.map V.str))) : H p = Option.none := by
  obtain ⟨i, hi⟩ := x.2.1
  cases q : H p with
  | none => rfl
  | some u =>
    by_cases e1 : p = L
    · rw [e1, hi] at h
      cases h
    · by_cases e2 : p = S
      · rw [e2, x.2.2] at h
        cases h
      · rw [x.1 p u e1 e2 q] at h
        cases h
end
/-- how many parts a row has at most -/
def cntR : Nat → Nat
  | 0 => 2
  | 1 => 6
  | m + 2 => 3 * (1 + cntR (m + 1))
def cntP : Nat → Nat
  | 0 => 1
  | m + 1 => 1 + cntR m
def most : Nat → Nat
  | 0 => 2
  | 1 => 2
  | _ + 2 => 3
theorem cnt_eq : ∀ m : Nat, most m * cntP m = cntR m
  | 0 => rfl
  | 1 => rfl
  | m + 2 => rfl
structure GP (m : Nat) (ss sp sp' : List Str) (p : Part) : Prop where
  deep : deepP p ≤ m + 1
  size : sizeP p ≤ cntP m
  sc : scP ss p
  bd : sp = sp' ++ (bdP p).reverse
  ok : okP (fun n => n ∈ ss ∨ n ∈ sp) p
structure GR (m k : Nat) (ss sp sp' : List Str) (r : List Part) : Prop where
  deep : deepR r ≤ m + 1
  size : sizeR r ≤ k * cntP m
  sc : scR ss r
  bd : sp = sp' ++ (bdR r).reverse
  ok : okR (fun n => n ∈ ss ∨ n ∈ sp) r
theorem GR.nil {m : Nat} {ss sp : List Str} : GR m 0 ss sp sp [] := ⟨Nat.zero_le _, Nat.zero_le _, trivial, by simp [bdR], trivial⟩
theorem GR.snoc {m k : Nat} {ss sp sp1 sp2 : List Str} {r : List Part} {p : Part} (h : GR m k ss sp sp1 r) (g : GP m ss sp1 sp2 p) : GR m (k + 1) ss sp sp2 (r ++ [p]) := by
  have mem1 : ∀ n ∈ sp1, n ∈ sp := fun n hn => by rw [h.bd]; exact List.mem_append_left _ hn
  refine ⟨?_, ?_, scR_app h.sc ⟨g.sc, trivial⟩, ?_, okR_app h.ok ⟨okP.imp (fun n q => ?_) p g.ok, trivial⟩⟩
  · rw [deepR_app]
    have h1 := h.deep
    have h2 := g.deep
    show max (deepR r) (max (deepP p) 0) ≤ m + 1
    omega
  · rw [sizeR_app, Nat.succ_mul]
    have h1 := h.size
    have h2 := g.size
    show sizeR r + (sizeP p + 0) ≤ _
    omega
  · rw [bdR_app, List.reverse_append, show bdR [p] = bdP p from List.append_nil _, ← List.append_assoc, ← g.bd]
    exact h.bd
  · rcases q with q | q
    · exact .inl q
    · exact .inr (mem1 n q)
theorem GR.up {m k j : Nat} {ss sp sp' : List Str} {r : List Part} (h : GR m k ss sp sp' r) (hk : k ≤ j) : GR m j ss sp sp' r :=
  ⟨h.deep, Nat.le_trans h.size (Nat.mul_le_mul_right _ hk), h.sc, h.bd, h.ok⟩
theorem most_at (m : Nat) : atI [V.int 3, V.int 4] (if decide ((m : Int) > 1) = true then 1 else 0) = some (.int ((most m + 1 : Nat) : Int)) := by
  match m with
  | 0 => exact atI_nat (j := 0) rfl
  | 1 => exact atI_nat (j := 0) rfl
  | m + 2 =>
    rw [decide_eq_true (show (((m + 2 : Nat) : Int) > 1) by omega)]
    exact atI_nat (j := 1) rfl
theorem most_le (m : Nat) : most m ≤ 3 := by
  match m with
  | 0 => exact (by decide : 2 ≤ 3)
  | 1 => exact (by decide : 2 ≤ 3)
  | m + 2 => exact Nat.le_refl 3
/-- what a whole row of room m keeps -/
theorem GR.weak {m k : Nat} {ss sp sp' : List Str} {r : List Part} (h : GR m k ss sp sp' r) (hk : k ≤ most m) : sizeR r ≤ cntR m := by
  rw [← cnt_eq]
  exact Nat.le_trans h.size (Nat.mul_le_mul_right _ hk)
/-- the arguments of _law_part and _law_row -/
def GArg (vs : List V) (H : Hp) (L S A : Addr) (nL : Int) (m : Nat) (ss sp : List Str) : Prop :=
  vs = [.ref L, .int m, .ref A, .ref S] ∧ H L = some (.lst [.int nL]) ∧ H S = some (.lst (sp.map V.str)) ∧ H A = some (.lst (ss.map V.str)) ∧ A ≠ L ∧ A ≠ S ∧ ss ≠ [] ∧ ss.length + 2 * m ≤ 1000 ∧ (∀ z ∈ sp, Sh 6 z)
def spPart (n : Nat) : Sp := fun vs H Q _ => ∃ (L S A : Addr) (nL : Int) (m : Nat) (ss sp : List Str), GArg vs H L S A nL m ss sp ∧ m ≤ n ∧
  ∀ (H' : Hp) (v : V) (sp' : List Str) (p : Part), StG L S H H' sp' → PartAt H' p v → GP m ss sp sp' p → Q v H'
def spRow (n : Nat) : Sp := fun vs H Q _ => ∃ (L S A : Addr) (nL : Int) (m : Nat) (ss sp : List Str), GArg vs H L S A nL m ss sp ∧ m < n ∧
  ∀ (H' : Hp) (v : V) (sp' : List Str) (r : List Part), StG L S H H' sp' → RowAt H' r v → GR m (most m) ss sp sp' r → Q v H'
theorem GP.say {m : Nat} {ss sp : List Str} {n : Str} (h : n ∈ ss) : GP m ss sp sp (.say n) := by
  refine ⟨?_, ?_, h, by simp [bdP], .inl h⟩
  · show 1 ≤ m + 1
    omega
  · show 1 ≤ cntP m
    cases m with
    | zero => exact Nat.le_refl 1
    | succ m => show 1 ≤ 1 + cntR m; omega
theorem GP.again {m : Nat} {ss sp sp' : List Str} {r : List Part} (h : GR m (most m) ss sp sp' r) : GP (m + 1) ss sp sp' (.again r) := by
  have h1 := h.deep
  have h2 := h.weak (Nat.le_refl _)
  refine ⟨?_, ?_, h.sc, h.bd, h.ok⟩
  · show deepR r + 1 ≤ m + 1 + 1
    omega
  · show sizeR r + 1 ≤ 1 + cntR m
    omega
theorem GP.free {m : Nat} {ss sp sp' : List Str} {r : List Part} {w : Wd} {n : Str} (hw : w.binds = false) (hn : n ∈ ss) (h : GR m (most m) ss sp sp' r) : GP (m + 1) ss sp sp' (.oth w n r) := by
  have h1 := h.deep
  have h2 := h.weak (Nat.le_refl _)
  have hw2 : ¬ w.binds = true := by rw [hw]; decide
  refine ⟨?_, ?_, ?_, ?_, .inl hn, h.ok⟩
  · show deepR r + 1 ≤ m + 1 + 1
    omega
  · show sizeR r + 1 ≤ 1 + cntR m
    omega
  · unfold scP
    rw [if_neg hw2]
    exact ⟨hn, h.sc⟩
  · unfold bdP
    rw [if_neg hw2, List.nil_append]
    exact h.bd
theorem GP.bound {m : Nat} {ss sp1 sp' : List Str} {r : List Part} {w : Wd} {n : Str} (hw : w.binds = true) (h : GR m (most m) (ss ++ [n, n]) sp1 sp' r) : GP (m + 1) ss (sp1 ++ [n]) sp' (.oth w n r) := by
  have h1 := h.deep
  have h2 := h.weak (Nat.le_refl _)
  refine ⟨?_, ?_, ?_, ?_, .inr (List.mem_append_right _ List.mem_cons_self), okR.imp (fun k q => ?_) r h.ok⟩
  · show deepR r + 1 ≤ m + 1 + 1
    omega
  · show sizeR r + 1 ≤ 1 + cntR m
    omega
  · unfold scP
    rw [if_pos hw]
    refine scR.mono r (fun k hk => ?_) h.sc
    rcases List.mem_append.mp hk with q | q
    · exact List.mem_cons_of_mem _ q
    · have : k = n := by simpa using q
      rw [this]
      exact List.mem_cons_self
  · unfold bdP
    rw [if_pos hw, List.reverse_append, List.reverse_singleton, ← List.append_assoc, ← h.bd]
  · rcases q with q | q
    · rcases List.mem_append.mp q with u | u
      · exact .inl u
      · have : k = n := by simpa using u
        rw [this]
        exact .inr (List.mem_append_right _ List.mem_cons_self)
    · exact .inr (List.mem_append_left _ q)
theorem strs_dp {K : PySem.W.Frag} {H : Hp} : ∀ zs : List Str, DpAll K H (zs.map V.str) (zs.map PyData.str)
  | [] => .nil
  | z :: r => .cons (.str _) (strs_dp r)
theorem strs_lay : ∀ zs : List Str, (∀ z ∈ zs, PyData.strOk z = true) → PyData.canLayAll0 (zs.map PyData.str) = true
  | [], _ => by simp only [List.map_nil, PyData.canLayAll0]
  | z :: r, h => by simp only [List.map_cons, PyData.canLayAll0, PyData.canLay0, h z List.mem_cons_self, strs_lay r (fun y hy => h y (List.mem_cons_of_mem _ hy)), Bool.and_self]
theorem strs_dep : ∀ zs : List Str, PyData.depthAll (zs.map PyData.str) = 0
  | [] => by simp only [List.map_nil, PyData.depthAll]
  | z :: r => by simp only [List.map_cons, PyData.depthAll, PyData.depth, strs_dep r, Nat.max_self]
theorem strs_shaped {zs : List Str} (h : ∀ z ∈ zs, PyData.strOk z = true) : SeqAt.shaped (.list (zs.map PyData.str)) = true := by
  unfold SeqAt.shaped
  simp only [PyData.canLay0, strs_lay zs h, PyData.depth, strs_dep zs, Bool.true_and]
  decide
theorem nil_shaped : SeqAt.shaped (.list []) = true := strs_shaped (zs := []) fun _ h => nomatch h
theorem eqv_nil : ∀ l : List PyData, PyData.eqv (.list l) (.list []) = l.isEmpty
  | [] => by simp only [PyData.eqv, PyData.eqvAll, List.isEmpty]
  | _ :: _ => by simp only [PyData.eqv, PyData.eqvAll, List.isEmpty]
end Wk

set_option Elab.async false
set_option linter.all false
set_option maxRecDepth 100000
set_option maxHeartbeats 2000000
/-! What the program's own called promises. -/
namespace Wk
open PySem PySem.Spec PyProof.Rows L2
def bindV : List V := [.str "hear", .str "new"]
def wordP : Part → Str
  | .say _ => "say"
  | .again _ => "again"
  | .oth w _ _ => w.str
def bindsP : Part → Bool
  | .oth w _ _ => w.binds
  | _ => false
theorem inV_binds : ∀ p : Part, inV (.str (wordP p)) bindV = bindsP p
  | .say _ => (by decide +kernel : inV (.str "say") bindV = false)
  | .again _ => (by decide +kernel : inV (.str "again") bindV = false)
  | .oth w _ _ => (by cases w <;> decide +kernel : inV (.str w.str) bindV = w.binds)
theorem wd_again (w : Wd) : decide (V.str w.str = V.str "again") = false := by cases w <;> decide +kernel
theorem wd_say (w : Wd) : decide (V.str w.str = V.str "say") = false := by cases w <;> decide +kernel
theorem say_again : decide (V.str "say" = V.str "again") = false := by decide +kernel
theorem iteD {b : Bool} {A B : Prop} (e : b = false) (h : B) : if b = true then A else B := by
  rw [e]
  exact iteF h
theorem iteU {b : Bool} {A B : Prop} (e : b = true) (h : A) : if b = true then A else B := by
  rw [e]
  exact iteT h
theorem str_eq {x y : Str} (h : decide (V.str x = V.str y) = true) : x = y := V.str.inj (of_decide_eq_true h)
theorem str_ne {x y : Str} (h : ¬ decide (V.str x = V.str y) = true) : x ≠ y := fun e => h (decide_eq_true (by rw [e]))
theorem PartAt.word {H : Hp} : ∀ {p : Part} {v : V}, PartAt H p v → ∃ a xs, v = .ref a ∧ H a = some (.tup xs) ∧ xs[0]? = some (.str (wordP p))
  | .say n, v, h => by
    obtain ⟨a, rfl, h1⟩ := h
    exact ⟨a, _, rfl, h1, rfl⟩
  | .again r, v, h => by
    obtain ⟨a, b, xs, rfl, h1, _⟩ := h
    exact ⟨a, _, rfl, h1, rfl⟩
  | .oth w n r, v, h => by
    obtain ⟨a, b, xs, rfl, h1, _⟩ := h
    exact ⟨a, _, rfl, h1, rfl⟩
def spBinder : Sp := fun vs H Q _ => ∃ (v : V) (p : Part), vs = [v] ∧ PartAt H p v ∧ Q (.bl (bindsP p)) H
def spCalled (n : Nat) : Sp := fun vs H Q _ => ∃ (v : V) (x c : Str) (r : List Part), vs = [v, .str x, .str c] ∧ RowAt H r v ∧ deepR r < n ∧ r.length ≤ 1000 ∧ sizeR r ≤ 1000 ∧
  ∀ (H' : Hp) (u : V), Same H H' → RowAt H' (calledR x c r) u → Q u H'
def spPCalled (n : Nat) : Sp := fun vs H Q _ => ∃ (v : V) (x c : Str) (p : Part), vs = [v, .str x, .str c] ∧ PartAt H p v ∧ (deepP p ≤ n ∧ sizeP p ≤ 1000) ∧
  ∀ (H' : Hp) (u : V), Same H H' → PartAt H' (calledP x c p) u → Q u H'
theorem same_new {H : Hp} {p : Addr} {o : HO} (n : H p = none) : Same H (upd H p o) := fun b u e => kn e n
end Wk

set_option Elab.async false
set_option linter.all false
set_option maxRecDepth 100000
set_option maxHeartbeats 2000000
/-! Free callings, and callings put back. -/
namespace Wk
open PySem PySem.Spec PyProof.Rows L2
/-- each x called otherwise, also where it is bound -/
def sub (x c n : Str) : Str := if n = x then c else n
mutual
def lcP (x c : Str) : Part → Part
  | .say n => .say (sub x c n)
  | .again r => .again (lcR x c r)
  | .oth w n r => .oth w (sub x c n) (lcR x c r)
def lcR (x c : Str) : List Part → List Part
  | [] => []
  | p :: r => lcP x c p :: lcR x c r
end
theorem lcR_map (x c : Str) : ∀ r : List Part, lcR x c r = r.map (lcP x c)
  | [] => rfl
  | p :: r => by
    show lcP x c p :: lcR x c r = lcP x c p :: r.map (lcP x c)
    rw [lcR_map x c r]
mutual
theorem called_lcP {x c : Str} : ∀ p : Part, x ∉ bdP p → calledP x c p = lcP x c p
  | .say n, _ => rfl
  | .again r, h => by
    show Part.again (calledR x c r) = Part.again (lcR x c r)
    rw [called_lcR r h]
  | .oth w n r, h => by
    unfold bdP at h
    have h1 : x ∉ bdR r := fun z => h (List.mem_append_right _ z)
    have h2 : ¬ (w.binds = true ∧ n = x) := fun z => h (by rw [if_pos z.1, z.2]; exact List.mem_append_left _ List.mem_cons_self)
    unfold calledP
    rw [if_neg h2, called_lcR r h1]
    rfl
theorem called_lcR {x c : Str} : ∀ r : List Part, x ∉ bdR r → calledR x c r = lcR x c r
  | [], _ => rfl
  | p :: r, h => by
    unfold bdR at h
    show calledP x c p :: calledR x c r = lcP x c p :: lcR x c r
    rw [called_lcP p (fun z => h (List.mem_append_left _ z)), called_lcR r (fun z => h (List.mem_append_right _ z))]
end
def lone (ar : List Str) (n : Str) : List Str := if n ∈ ar then [] else [n]
mutual
def freeP : List Str → Part → List Str
  | ar, .say n => lone ar n
  | ar, .again r => freeR ar r
  | ar, .oth w n r => if w.binds = true then freeR (ar ++ [n]) r else lone ar n ++ freeR ar r
def freeR : List Str → List Part → List Str
  | _, [] => []
  | ar, p :: r => freeP ar p ++ freeR ar r
end
theorem freeR_map (ar : List Str) : ∀ r : List Part, freeR ar r = (r.map (freeP ar)).flatten
  | [] => rfl
  | p :: r => by
    show freeP ar p ++ freeR ar r = _
    rw [freeR_map ar r]
    rfl
theorem lone_le (ar : List Str) (n : Str) : (lone ar n).length ≤ 1 := by
  unfold lone
  by_cases h : n ∈ ar
  · rw [if_pos h]; exact Nat.zero_le _
  · rw [if_neg h]; exact Nat.le_refl 1
mutual
theorem freeP_le : ∀ (p : Part) (ar : List Str), (freeP ar p).length ≤ sizeP p
  | .say n, ar => lone_le ar n
  | .again r, ar => by
    have := freeR_le r ar
    show (freeR ar r).length ≤ sizeR r + 1
    omega
  | .oth w n r, ar => by
    unfold freeP
    show _ ≤ sizeR r + 1
    by_cases h : w.binds = true
    · rw [if_pos h]
      have := freeR_le r (ar ++ [n])
      omega
    · rw [if_neg h, List.length_append]
      have := freeR_le r ar
      have := lone_le ar n
      omega
theorem freeR_le : ∀ (r : List Part) (ar : List Str), (freeR ar r).length ≤ sizeR r
  | [], ar => Nat.le_refl 0
  | p :: r, ar => by
    show (freeP ar p ++ freeR ar r).length ≤ sizeP p + sizeR r
    rw [List.length_append]
    have := freeP_le p ar
    have := freeR_le r ar
    omega
end
/-- c stands nowhere but where it is bound -/
abbrev noc (c : Str) : Str → Prop := fun n => n ≠ c
theorem lone_none {ar : List Str} {n c : Str} (h : c ∉ lone ar n) (ha : c ∉ ar) : n ≠ c := fun e => by
  unfold lone at h
  rw [e, if_neg ha] at h
  exact h List.mem_cons_self
mutual
theorem free_nocP {c : Str} : ∀ (p : Part) (ar : List Str), c ∉ freeP ar p → c ∉ ar → c ∉ bdP p → okP (noc c) p
  | .say n, ar, h, ha, hb => lone_none h ha
  | .again r, ar, h, ha, hb => free_nocR r ar h ha hb
  | .oth w n r, ar, h, ha, hb => by
    unfold freeP at h
    unfold bdP at hb
    have hb1 : c ∉ bdR r := fun z => hb (List.mem_append_right _ z)
    by_cases hw : w.binds = true
    · rw [if_pos hw] at h hb
      have hn : n ≠ c := fun e => hb (by rw [e]; exact List.mem_append_left _ List.mem_cons_self)
      refine ⟨hn, free_nocR r (ar ++ [n]) h (fun z => ?_) hb1⟩
      rcases List.mem_append.mp z with q | q
      · exact ha q
      · exact hn (List.mem_singleton.mp q).symm
    · rw [if_neg hw] at h
      exact ⟨lone_none (fun z => h (List.mem_append_left _ z)) ha, free_nocR r ar (fun z => h (List.mem_append_right _ z)) ha hb1⟩
theorem free_nocR {c : Str} : ∀ (r : List Part) (ar : List Str), c ∉ freeR ar r → c ∉ ar → c ∉ bdR r → okR (noc c) r
  | [], _, _, _, _ => trivial
  | p :: r, ar, h, ha, hb => ⟨free_nocP p ar (fun z => h (List.mem_append_left _ z)) ha (fun z => hb (List.mem_append_left _ z)), free_nocR r ar (fun z => h (List.mem_append_right _ z)) ha (fun z => hb (List.mem_append_right _ z))⟩
end
theorem sub_back {x c n : Str} (h : n ≠ c) : sub c x (sub x c n) = n := by
  unfold sub
  by_cases e : n = x
  · rw [if_pos e, if_pos rfl, e]
  · rw [if_neg e, if_neg h]
mutual
theorem backP {x c : Str} : ∀ p : Part, okP (noc c) p → lcP c x (lcP x c p) = p
  | .say n, h => by
    show Part.say (sub c x (sub x c n)) = _
    rw [sub_back h]
  | .again r, h => by
    show Part.again (lcR c x (lcR x c r)) = _
    rw [backR r h]
  | .oth w n r, h => by
    show Part.oth w (sub c x (sub x c n)) (lcR c x (lcR x c r)) = _
    rw [sub_back h.1, backR r h.2]
theorem backR {x c : Str} : ∀ r : List Part, okR (noc c) r → lcR c x (lcR x c r) = r
  | [], _ => rfl
  | p :: r, h => by
    show lcP c x (lcP x c p) :: lcR c x (lcR x c r) = _
    rw [backP p h.1, backR r h.2]
end
mutual
theorem lc_bdP {x c : Str} : ∀ p : Part, x ∉ bdP p → bdP (lcP x c p) = bdP p
  | .say n, _ => rfl
  | .again r, h => lc_bdR r h
  | .oth w n r, h => by
    unfold bdP at h
    have h1 : x ∉ bdR r := fun z => h (List.mem_append_right _ z)
    show (if w.binds then [sub x c n] else []) ++ bdR (lcR x c r) = (if w.binds then [n] else []) ++ bdR r
    rw [lc_bdR r h1]
    by_cases hw : w.binds = true
    · rw [if_pos hw] at h
      have hn : n ≠ x := fun e => h (by rw [e]; exact List.mem_append_left _ List.mem_cons_self)
      unfold sub
      rw [if_pos hw, if_pos hw, if_neg hn]
    · rw [if_neg hw, if_neg hw]
theorem lc_bdR {x c : Str} : ∀ r : List Part, x ∉ bdR r → bdR (lcR x c r) = bdR r
  | [], _ => rfl
  | p :: r, h => by
    unfold bdR at h
    show bdP (lcP x c p) ++ bdR (lcR x c r) = bdP p ++ bdR r
    rw [lc_bdP p (fun z => h (List.mem_append_left _ z)), lc_bdR r (fun z => h (List.mem_append_right _ z))]
end
/-- called, and called back -/
theorem called_back {x c : Str} {r : List Part} (hx : x ∉ bdR r) (hc : c ∉ bdR r) (hf : c ∉ freeR [] r) : calledR c x (calledR x c r) = r := by
  rw [called_lcR r hx, called_lcR _ (by rw [lc_bdR r hx]; exact hc)]
  exact backR r (free_nocR r [] hf (fun z => nomatch z) hc)
/-- the rest of a part -/
def restP : Part → List Part
  | .say _ => []
  | .again r => r
  | .oth _ _ r => r
theorem rest_bd {p : Part} {n : Str} (h : n ∈ bdR (restP p)) : n ∈ bdP p := by
  cases p with
  | say _ => cases h
  | again r => exact h
  | oth w m r => exact List.mem_append_right _ h
theorem bd_mem {n : Str} : ∀ {r : List Part}, ∀ p ∈ r, n ∈ bdP p → n ∈ bdR r
  | [], p, hp, _ => nomatch hp
  | q :: r, p, hp, h => by
    rcases List.mem_cons.mp hp with e | e
    · rw [← e]; exact List.mem_append_left _ h
    · exact List.mem_append_right _ (bd_mem p e h)
theorem rest_deep (p : Part) : deepR (restP p) ≤ deepP p := by
  cases p with
  | say _ => exact Nat.zero_le _
  | again r => exact Nat.le_succ _
  | oth w m r => exact Nat.le_succ _
theorem rest_size (p : Part) : sizeR (restP p) ≤ sizeP p := by
  cases p with
  | say _ => exact Nat.zero_le _
  | again r => exact Nat.le_succ _
  | oth w m r => exact Nat.le_succ _
theorem rest_ok {f : Str → Prop} {p : Part} (h : okP f p) : okR f (restP p) := by
  cases p with
  | say _ => trivial
  | again r => exact h
  | oth w m r => exact h.2
theorem num_sh {n : Int} (h0 : 0 ≤ n) (h1 : n < 10 ^ 10) : Sh 10 (Str.ofString (toString n)) := by
  refine ⟨?_, fun c hc => ?_⟩
  · rw [Array.length_toList]
    exact PySem.W.KT.len_num h0 h1
  · by_cases g : c < 128
    · exact g
    · exact absurd hc (int_text_free' c ⟨by omega, by omega⟩ n)
def spLCalled (n : Nat) : Sp := fun vs H Q _ => ∃ (v : V) (x c : Str) (r : List Part), vs = [v, .str x, .str c] ∧ RowAt H r v ∧ deepR r < n ∧ sizeR r ≤ 1000 ∧
  ∀ (H' : Hp) (u : V), Same H H' → RowAt H' (lcR x c r) u → Q u H'
def spFree (n : Nat) : Sp := fun vs H Q _ => ∃ (v : V) (a : Addr) (ar : List Str) (r : List Part), vs = [v, .ref a] ∧ RowAt H r v ∧ H a = some (.lst (ar.map V.str)) ∧ deepR r < n ∧ sizeR r ≤ 1000 ∧ ar.length + deepR r ≤ 1000 ∧
  ∀ (H' : Hp) (p : Addr), Same H H' → H p = none → H' p = some (.lst ((freeR ar r).map V.str)) → Q (.ref p) H'
theorem inV_strs (n : Str) : ∀ l : List Str, inV (.str n) (l.map V.str) = decide (n ∈ l)
  | [] => rfl
  | m :: l => by
    show (eqV (.str m) (.str n) || inV (.str n) (l.map V.str)) = _
    rw [inV_strs n l]
    show ((m == n) || decide (n ∈ l)) = _
    by_cases e : m = n
    · rw [e]; simp
    · have e2 : ¬ n = m := fun z => e z.symm
      simp [e, e2]
theorem flat_strs : ∀ l : List Str, (l.map V.str).all flatV = true
  | [] => rfl
  | m :: l => by
    show (true && (l.map V.str).all flatV) = true
    rw [flat_strs l]
    rfl
end Wk

set_option Elab.async false
set_option linter.all false
set_option maxRecDepth 100000
set_option maxHeartbeats 2000000
/-! A turn of a law that draws a house: what stands while it is drawn. -/
namespace Wk
open PySem PySem.Spec PyProof.Rows L2
theorem cut_ints {ns : List Int} {lo hi : Option Int} : ∀ v ∈ cutV (ns.map V.int) lo hi, ∃ i : Int, v = .int i := by
  intro v hv
  unfold cutV at hv
  obtain ⟨i, _, e⟩ := List.mem_map.mp (List.mem_of_mem_drop (List.mem_of_mem_take hv))
  exact ⟨i, e.symm⟩
theorem cut_len {ns : List Int} {lo hi : Option Int} (h : ns.length ≤ 63) : (cutV (ns.map V.int) lo hi).length ≤ 63 := by
  unfold cutV
  rw [List.length_take, List.length_drop, List.length_map]
  omega
theorem cut_to {zs : List Str} {k : Nat} (h : k ≤ zs.length) : cutV (zs.map V.str) none (some (k : Int)) = (zs.take k).map V.str := by
  unfold cutV
  rw [HT.sIx_none, HT.sIx_nat, List.length_map, Nat.min_eq_left h, List.drop_zero, Nat.sub_zero, List.map_take]
theorem cut_mid {zs : List Str} {i k : Nat} (h : k ≤ zs.length) (hi : i ≤ k) : cutV (zs.map V.str) (some (i : Int)) (some (k : Int)) = ((zs.drop i).take (k - i)).map V.str := by
  unfold cutV
  rw [HT.sIx_nat, HT.sIx_nat, List.length_map, Nat.min_eq_left h, Nat.min_eq_left (Nat.le_trans hi h), List.map_take, List.map_drop]
theorem cut_off {zs : List Str} {i : Nat} (hi : i ≤ zs.length) : cutV (zs.map V.str) (some (i : Int)) none = (zs.drop i).map V.str := by
  unfold cutV
  rw [HT.sIx_none, HT.sIx_nat, List.length_map, Nat.min_eq_left hi, List.map_drop]
  rw [List.take_of_length_le]
  rw [List.length_drop, List.length_map]
  exact Nat.le_refl _
/-- p holds the items, pn the names, L one number -/
structure Sit (p pn L : Addr) (items : List V) (zs : List Str) (H : Hp) : Prop where
  hp : H p = some (.lst items)
  hn : H pn = some (.lst (zs.map V.str))
  hL : ∃ n : Int, H L = some (.lst [.int n])
  pL : p ≠ L
  nL : pn ≠ L
section
variable {p pn L q : Addr} {items : List V} {zs : List Str} {H H' : Hp} {o : HO}
theorem Sit.new (x : Sit p pn L items zs H) (n : H q = none) : Sit p pn L items zs (upd H q o) := by
  obtain ⟨i, hi⟩ := x.hL
  exact ⟨kn x.hp n, kn x.hn n, ⟨i, kn hi n⟩, x.pL, x.nL⟩
theorem Sit.put (x : Sit p pn L items zs H) (n : Int) : Sit p pn L items zs (upd H L (.lst [.int n])) :=
  ⟨by rw [upd_ne x.pL]; exact x.hp, by rw [upd_ne x.nL]; exact x.hn, ⟨n, upd_same⟩, x.pL, x.nL⟩
theorem Sit.same (x : Sit p pn L items zs H) (s : Same H H') : Sit p pn L items zs H' := by
  obtain ⟨i, hi⟩ := x.hL
  exact ⟨s _ _ x.hp, s _ _ x.hn, ⟨i, s _ _ hi⟩, x.pL, x.nL⟩
theorem Sit.drawn {S : Addr} {sp : List Str} (x : Sit p pn L items zs H) (g : StG L S H H' sp) (h1 : p ≠ S) (h2 : pn ≠ S) : Sit p pn L items zs H' :=
  ⟨g.1 _ _ x.pL h1 x.hp, g.1 _ _ x.nL h2 x.hn, g.2.1, x.pL, x.nL⟩
end
theorem apart {zs : List Str} {s i j : Nat} {x : Str} (hn : ∀ i z, zs[i]? = some z → NameOf ((s + 5 * i) % 26) z) (hi : zs[i]? = some x) (hj : zs[j]? = some x) (li : i < 26) (lj : j < 26) : i = j := by
  have := (hn i x hi).inj (hn j x hj)
  omega
theorem names_sh {zs : List Str} {s : Nat} (hn : ∀ i z, zs[i]? = some z → NameOf ((s + 5 * i) % 26) z) : ∀ z ∈ zs, Sh 6 z := by
  intro z hz
  obtain ⟨i, hi⟩ := List.getElem?_of_mem hz
  exact (hn i z hi).sh (Nat.mod_lt _ (by decide))
theorem mid_mem {zs : List Str} {i k : Nat} {x : Str} (h : x ∈ (zs.drop i).take k) : ∃ j, i ≤ j ∧ j < i + k ∧ zs[j]? = some x := by
  obtain ⟨j, hj⟩ := List.getElem?_of_mem h
  have hl : j < k := by
    have := (List.getElem?_eq_some_iff.mp hj).1
    rw [List.length_take] at this
    omega
  rw [List.getElem?_take_of_lt hl, List.getElem?_drop] at hj
  exact ⟨i + j, by omega, by omega, hj⟩
theorem off_mem {zs : List Str} {i : Nat} {x : Str} (h : x ∈ zs.drop i) : ∃ j, i ≤ j ∧ j < zs.length ∧ zs[j]? = some x := by
  obtain ⟨j, hj⟩ := List.getElem?_of_mem h
  rw [List.getElem?_drop] at hj
  exact ⟨i + j, by omega, (List.getElem?_eq_some_iff.mp hj).1, hj⟩
theorem head_mem {zs : List Str} {k : Nat} {x : Str} (h : x ∈ zs.take k) : ∃ j, j < k ∧ zs[j]? = some x := by
  obtain ⟨j, hj⟩ := List.getElem?_of_mem h
  have hl : j < k := by
    have := (List.getElem?_eq_some_iff.mp hj).1
    rw [List.length_take] at this
    omega
  rw [List.getElem?_take_of_lt hl] at hj
  exact ⟨j, hl, hj⟩
theorem at_names {zs : List Str} {d : Int} (h0 : 0 ≤ d) (h1 : d < zs.length) : ∃ z, zs[d.toNat]? = some z ∧ atI (zs.map V.str) d = some (.str z) := by
  have hd : d.toNat < zs.length := by omega
  refine ⟨zs[d.toNat], List.getElem?_eq_getElem hd, ?_⟩
  have e : atI (zs.map V.str) ((d.toNat : Nat) : Int) = some (.str zs[d.toNat]) := atI_nat (by rw [List.getElem?_map, List.getElem?_eq_getElem hd]; rfl)
  rw [show ((d.toNat : Nat) : Int) = d by omega] at e
  exact e
/-- a row that is drawn, or the rest of one of its parts -/
structure ROk (bd : List Str) (f : Str → Prop) (d sz : Nat) (r : List Part) : Prop where
  bd : ∀ n ∈ bdR r, n ∈ bd
  deep : deepR r ≤ d
  size : sizeR r ≤ sz
  ok : okR f r
theorem ROk.rest {bd : List Str} {f : Str → Prop} {d sz : Nat} {r : List Part} (h : ROk bd f d sz r) {p : Part} (hp : p ∈ r) : ROk bd f d sz (restP p) :=
  ⟨fun n hn => h.bd n (bd_mem p hp (rest_bd hn)), Nat.le_trans (rest_deep p) (Nat.le_trans (deepR.mem p hp) h.deep), Nat.le_trans (rest_size p) (Nat.le_trans (sizeR.mem p hp) h.size), rest_ok (h.ok.mem p hp)⟩
theorem eqv_rows {f : Str → Prop} (hf : ∀ n, f n → PyData.strOk n = true) {r : List Part} (h : okR f r) : PyData.eqv (.tuple (dR r)) (.tuple (dR r)) = true :=
  SeqAt.eqv_refl _ (by simp only [PyData.canLay0]; exact layR hf r h)
end Wk

set_option Elab.async false
set_option linter.all false
set_option maxRecDepth 100000
set_option maxHeartbeats 2000000
/-! A generator expression whose element may call own defs: the generator's frame as a context of its own, each draw keeps it. -/
namespace Wk
open PySem PySem.Spec PyProof.Rows L2 GxR GenW
/-- the context of the generator's frame -/
abbrev gfx (X : Cx) (A' : Around) (s : Shared) (H : Hp) (cenv : Env) (fp : List Addr) (pn : List (Addr × Obj)) : Cx :=
  { X with A := A'.deeper cenv, s_0 := s, H_0 := H, env := cenv, outer := X.stack, stack := cenv :: X.stack, ex := fp, fn := fun _ => false, pn := pn, xe := fun _ _ => False }
theorem over_gen {A : Around} {elt : Expr} {cs : List Comprehension} {scope : Scope} {pos : Pos} {it : Value} {env : Env} :
    A.over (.compLoop (.GeneratorExp elt cs scope pos) 0 it .none env) [] = A.deeper env := by
  first
    | rfl
    | (obtain ⟨hd, d, fr, gs, u⟩ := A; simp [Around.over, Around.deeper, marksOver, frameCount, unitsOf, envsOf, guardsOf, pushEnvs, pushGuards, Code.envs, Code.env?, Code.isFrame, Code.guards, Code.isGuard, Code.weight, Code.frames, Code.isCreation, Code.isCaller, Code.cUnits])
theorem gen_start {X : Cx} {pins pins' : List (Addr × Obj)} {σ : L2.St} {H : Hp} {s s' : Shared} {scope : Scope} {own : List (Str × Nat)} {fp : List Addr} {pn : List (Addr × Obj)} {A' : Around} {code : Value} {cenv : Env} {m : Str → Option Value}
    (I : Inv X pins σ H s) (ok : BlkOk X.N X.env.scope scope own) (hN : X.N.Nodup) (hcell : ∀ y ∈ scope.names, y.2 ≠ .cell)
    (hfp : ∀ b ∈ fp, FpOk X pins H b ∧ b < s.heap.objs.size) (hA : A'.handled = none) (hA2 : A'.frames = some X.stack)
    (hce : cenv = genEnv scope (cloFrom X.env.cells scope.names []) s.heap.objs.size code builtinsNs X.env)
    (os : s'.os = s.os) (hb : AllBare s'.gens) (kp : ∀ b o, s.heap.get? b = some o → s'.heap.get? b = some o) (hn : s'.heap.Ns s.heap.objs.size m)
    (hpn : ∀ p ∈ pn ++ pins', s'.heap.get? p.1 = some p.2 ∧ H p.1 = none ∧ p.1 ≠ s.heap.objs.size ∧ p.1 ∉ frs X.stack ∧ ∀ v, p.2.data ≠ .cell v) :
    Inv (gfx X A' s H cenv fp pn) pins' (wipe σ (own.map (·.2))) H s' := by
  have hfree : ∀ y ∈ scope.names, y.2 = .free → ∃ c, X.env.cells.lookup y.1 = some c := fun y hy e => by
    rcases ok.free y hy e with k | k
    · exact I.ok.has _ (.inl k)
    · exact I.ok.has _ (.inr k)
  have hL : cenv.locals = s.heap.objs.size := by rw [hce]; rfl
  have hcl : cenv.cells = cloFrom X.env.cells scope.names [] := by rw [hce]; rfl
  have hsc : cenv.scope = scope := by rw [hce]; rfl
  have cm : ∀ {y c}, (y, c) ∈ cloFrom X.env.cells scope.names [] → X.env.cells.lookup y = some c ∧ c < s.heap.objs.size := fun {y c} hm => by
    rcases cloFrom_mem hm with hm | ⟨h1, rfl⟩
    · cases hm
    · obtain ⟨c, hc⟩ := hfree _ h1 rfl
      rw [hc]
      obtain ⟨w, z⟩ := I.cell _ _ hc
      exact ⟨rfl, z.lt⟩
  have mem : ∀ {y c}, cenv.cells.lookup y = some c → X.env.cells.lookup y = some c ∧ c < s.heap.objs.size := fun {y c} e => by
    rw [hcl] at e
    exact cm (PySem.mem_of_lookup e)
  have look : ∀ {y}, scope.names.lookup y = some .free → ∃ c, cenv.cells.lookup y = some c ∧ X.env.cells.lookup y = some c := fun {y} hl => by
    have hy : (y, NameKind.free) ∈ scope.names := PySem.mem_of_lookup hl
    obtain ⟨c', e'⟩ := mem_lookup (cloFrom_has (cells := X.env.cells) (acc := []) hy)
    rw [← hcl] at e'
    exact ⟨c', e', (mem e').1⟩
  have okB : (gfx X A' s H cenv fp pn).Ok := by
    refine ⟨I.ok.mod, by show cenv.scope.kind = _; rw [hsc]; exact ok.kind, by show cenv.globals = _; rw [hce]; exact I.ok.glob, by show cenv.builtins = _; rw [hce]; rfl, by show s.heap.objs.size ≤ cenv.locals; rw [hL]; exact Nat.le_refl _,
      fun y z c e1 e2 => I.ok.inj y z c (mem e1).1 (mem e2).1, fun y hy => ?_, fun y c z e => ?_, fun _ => hA, ?_, .inr ⟨rfl, by show cenv.frame = some cenv.locals; rw [hce]; rfl⟩, fun b hb => ⟨?_, fun y c e z => ?_⟩, I.bs, Nat.le_trans I.ok.bsz I.sz, fun b o e hb => ?_, fun b hb z => ?_, I.stack, I.stkFree⟩
    · have hy : scope.names.lookup y = some .cell ∨ scope.names.lookup y = some .free := by rw [← hsc]; exact hy
      rcases hy with hy | hy
      · exact absurd rfl (hcell _ (PySem.mem_of_lookup hy))
      · obtain ⟨c, e1, _⟩ := look hy
        exact ⟨c, e1⟩
    · have z : false = true := z
      cases z
    · show (A'.frames.map (cenv :: ·)) = some (cenv :: X.stack)
      rw [hA2]; rfl
    · show b ≠ cenv.locals
      rw [hL]; exact Nat.ne_of_lt (hfp b hb).2
    · exact (hfp b hb).1.2.2.2.2.1 y c (mem e).1 z
    · rcases (hfp b hb).1.2.2.2.1 with z | z
      · exact I.ok.noex b o e z
      · exact absurd (Nat.lt_of_lt_of_le (Heap.lt_size e) (Nat.le_trans I.ok.bsz z)) (Nat.lt_irrefl _)
    · rcases List.mem_cons.mp (I.stkSub b z) with z | z
      · exact (hfp b hb).1.2.1 z
      · exact (hfp b hb).1.2.2.1 z
  refine ⟨okB, os, hb, Un.kept kp, ⟨m, by show Heap.Ns _ cenv.locals _; rw [hL]; exact hn, fun i y av e1 e2 e3 => ?_⟩, fun y c e => ?_, ?_, fun y c e => I.freeC y c (mem e).1, fun p hp => ?_, I.hok.kept kp, by rw [wipe_length]; exact I.len⟩
  · obtain ⟨e2, hne⟩ := wipe_some e2
    have e3 : Vis scope y := by rw [← hsc]; exact e3
    have no : ∀ k', (k' = NameKind.local ∨ k' = .cell) → scope.names.lookup y ≠ some k' := fun k' hh e => by
      rcases ok.own _ (PySem.mem_of_lookup e) hh with e' | e'
      · obtain ⟨p, hp, hpy⟩ := List.mem_map.mp e'
        have e3 := ok.ix p hp
        have : p.1 = y := hpy
        rw [this] at e3
        exact hne (List.mem_map.mpr ⟨p, hp, nodup_ix hN e3 e1⟩)
      · exact e' (List.mem_of_getElem? e1)
    have hfr : scope.names.lookup y = some .free := by
      rcases e3 with e3 | e3 | e3
      · exact absurd e3 (no _ (.inl rfl))
      · exact absurd e3 (no _ (.inr rfl))
      · exact e3
    obtain ⟨m, hn, hl⟩ := I.loc
    have hvis : Vis X.env.scope y := (ok.free _ (PySem.mem_of_lookup hfr) rfl).elim (fun k => .inr (.inl k)) (fun k => .inr (.inr k))
    obtain ⟨w, r, q⟩ := hl i y av e1 e2 hvis
    refine ⟨w, r, .inr ⟨.inr (by show cenv.scope.names.lookup y = _; rw [hsc]; exact hfr), ?_⟩⟩
    obtain ⟨c, h1, h2⟩ := look hfr
    rcases q with ⟨k, _⟩ | ⟨_, c', e', z⟩
    · have k : X.env.scope.names.lookup y = some .local := k
      rcases ok.free _ (PySem.mem_of_lookup hfr) rfl with k' | k' <;> rw [show X.env.scope.names.lookup y = _ from k'] at k <;> cases k
    · rw [h2] at e'; cases e'
      exact ⟨c, h1, z.keeps kp⟩
  · obtain ⟨w, z⟩ := I.cell y c (mem e).1
    exact ⟨w, z.keeps kp⟩
  · show H cenv.locals = none
    rw [hL]; exact I.hok.fresh (Nat.le_refl _)
  · obtain ⟨p1, p2, p3, p4, p5⟩ := hpn p hp
    exact ⟨p1, p2, by show p.1 ≠ cenv.locals; rw [hL]; exact p3, p4, p5⟩

/-! ### while the generator sleeps -/
/-- the consumer's own objects at Ps may change, all else is kept -/
structure Slp (Ps : List Addr) (s s' : Shared) : Prop where
  os : s'.os = s.os
  bare : AllBare s'.gens
  keep : ∀ b o, b ∉ Ps → s.heap.get? b = some o → s'.heap.get? b = some o
  own : ∀ b ∈ Ps, ∃ o, s'.heap.get? b = some o ∧ ∀ v, o.data ≠ .cell v
def KeptP (Ps : List Addr) (s₀ s : Shared) : Prop := ∀ b ∈ Ps, ∀ o, s₀.heap.get? b = some o → s.heap.get? b = some o
theorem KeptP.refl (Ps : List Addr) (s : Shared) : KeptP Ps s s := fun _ _ _ e => e
theorem KeptP.trans {Ps : List Addr} {a b c : Shared} (x : KeptP Ps a b) (y : KeptP Ps b c) : KeptP Ps a c := fun d hd o e => y d hd o (x d hd o e)
/-- the consumer's objects are none of the generator's -/
structure Far (X : Cx) (fp Ps : List Addr) : Prop where
  old : ∀ b ∈ Ps, X.s_0.heap.objs.size ≤ b
  loc : ∀ b ∈ Ps, b ≠ X.env.locals
  cel : ∀ b ∈ Ps, ∀ x c, X.env.cells.lookup x = some c → c ≠ b
  apn : ∀ b ∈ Ps, ∀ p ∈ X.pn, p.1 ≠ b
  afs : ∀ b ∈ Ps, b ∉ X.fs
  afp : ∀ b ∈ fp, b ∉ Ps
  aex : ∀ b ∈ fp, b ∈ X.ex
  exp : ∀ b ∈ fp, ∀ p ∈ X.pn, p.1 ≠ b
/-- at turn i -/
structure GAt (X : Cx) (fp Ps : List Addr) (tn : Nat → Heap → Prop) (τ : L2.St) (W : Nat → Hp → Prop) (i : Nat) (H : Hp) (s : Shared) : Prop where
  inv : Inv X [] τ H s
  tn : tn i s.heap
  nfp : ∀ b ∈ fp, H b = none
  nps : ∀ b ∈ Ps, H b = none
  obj : ∀ b ∈ Ps, ∃ o, s.heap.get? b = some o ∧ ∀ v, o.data ≠ .cell v
  w : W i H
theorem GAt.slept {X : Cx} {fp Ps : List Addr} {tn : Nat → Heap → Prop} {τ : L2.St} {W : Nat → Hp → Prop} {i : Nat} {H : Hp} {s s' : Shared} (F : Far X fp Ps)
    (hk : ∀ i h h', tn i h → (∀ b ∈ fp, ∀ o, h.get? b = some o → h'.get? b = some o) → tn i h') (G : GAt X fp Ps tn τ W i H s) (z : Slp Ps s s') : GAt X fp Ps tn τ W i H s' := by
  obtain ⟨I, t, nf, np, ob, w⟩ := G
  obtain ⟨z1, z2, z3, z4⟩ := z
  have nt : ∀ b u, H b = some u → b ∉ Ps := fun b u q hb => by rw [np b hb] at q; cases q
  obtain ⟨hh, g, d, tk, o⟩ := s'
  have ho : o = s.os := z1
  subst ho
  refine ⟨?_, hk _ _ _ t fun b hb o e => z3 b o (F.afp b hb) e, nf, np, z4, w⟩
  refine I.step (g' := g) (t' := tk) (d' := d) (ch := Ps) (fun b hb => ⟨.inr (F.old b hb), F.loc b hb, F.cel b hb, fun p hp => F.apn b hb p (by simpa using hp)⟩)
    (fun b ob _ _ hc q _ => z3 b ob hc q) (fun b ob _ _ hc q _ => ⟨ob.slots, z3 b ob hc q⟩) (fun _ _ _ _ n => n) (fun b ob hc q => ⟨ob, z3 b ob hc q⟩)
    (fun _ _ q => q) (fun _ _ _ q => q) (fun b ps q => ⟨#[], by rw [q]; simp⟩) (fun m hm => ?_) (fun b u q => ?_) z2
  · obtain ⟨ob, es, ep, ho, r⟩ := hm
    exact ⟨ob, es, ep, z3 _ ob (fun z => F.loc _ z rfl) ho, r⟩
  · refine (I.hok b u q).stay (fun c v hc y => z3 c v ?_ y) (fun _ y => y) fun _ _ y => y
    rcases hc with y | y
    · rw [y]; exact nt b u q
    · exact nt c _ y
theorem Slp.refl_of {X : Cx} {fp Ps : List Addr} {tn : Nat → Heap → Prop} {τ : L2.St} {W : Nat → Hp → Prop} {i : Nat} {H : Hp} {s : Shared} (G : GAt X fp Ps tn τ W i H s) : Slp Ps s s :=
  ⟨rfl, G.inv.bare, fun _ _ _ e => e, G.obj⟩

/-! ### the generator's own run -/
section
variable {X : Cx} {A' : Around} {elt tg iter : Expr} {scope : Scope} {pos : Pos} {it : Addr} {fp Ps : List Addr} {tn : Nat → Heap → Prop} {J : It} {τ : L2.St} {vs : List Nat} {W : Nat → Hp → Prop} {n₀ : Nat} {val : Nat → V} {g : TG} {te : TE}
def gEnd (X : Cx) (fp Ps : List Addr) (τ : L2.St) (W : Nat → Hp → Prop) (n₀ : Nat) : Nat → Shared → Shared → Prop := fun n s₀ s₁ => n = 0 ∧ (∃ H, GAt X fp Ps (fun _ _ => True) τ W n₀ H s₁) ∧ KeptP Ps s₀ s₁
def gPro (X : Cx) (fp Ps : List Addr) (tn : Nat → Heap → Prop) (τ : L2.St) (W : Nat → Hp → Prop) (n₀ : Nat) (val : Nat → V) : Protocol := fun n s₀ v s₁ kap =>
  RelV (val (n₀ - 1 - n)) v ∧ (∃ H, GAt X fp Ps tn τ W (n₀ - n) H s₁) ∧ KeptP Ps s₀ s₁ ∧ ∀ s₂, Slp Ps s₁ s₂ → kap (.send .none) s₂
/-- what each turn does -/
def Turns (J : It) (W : Nat → Hp → Prop) (n₀ : Nat) (g : TG) (te : TE) (τ : L2.St) (vs : List Nat) (val : Nat → V) : Prop :=
  ∀ i H, i ≤ n₀ → W i H → (i = n₀ ∧ J.stop i H) ∨ (i < n₀ ∧ J.go i H ∧ ∀ x H', J.yld i H x H' → g x τ H' fun σ2 H2 => wipe σ2 vs = τ ∧ te σ2 H2 fun y H3 => y = val i ∧ W (i + 1) H3)
theorem seg_gx (hA : X.A = A'.over (.compLoop (.GeneratorExp elt [⟨tg, iter, [], 0⟩] scope pos) 0 (.ref it) .none X.env) []) (hc : X.calm = true) (hxe : X.xe = fun _ _ => False) (hco : X.env.scope.isCoroutine = false)
    (T : Turn X.prog X.w X.K tg J fp it tn) (pg : PG X tg g) (pe : PE X elt te) (F : Far X fp Ps) (hτ : ∀ σ : L2.St, wipe σ vs = τ → τ.length = σ.length ∧ ∀ (j : Nat) v, τ[j]? = some (some v) → σ[j]? = some (some v)) (turn : Turns J W n₀ g te τ vs val) :
    ∀ (k i : Nat) (s₀ s : Shared) (H : Hp), n₀ - i = k → i ≤ n₀ → GAt X fp Ps tn τ W i H s → KeptP Ps s₀ s →
      Seg (model X.prog X.w) A' (fun n s₀ r s₁ => r = .ok .next ∧ gEnd X fp Ps τ W n₀ n s₀ s₁) (gPro X fp Ps tn τ W n₀ val) (n₀ - i) s₀
        (.compLoop (.GeneratorExp elt [⟨tg, iter, [], 0⟩] scope pos) 0 (.ref it) .none X.env)
        ((model X.prog X.w).den (.compLoop (.GeneratorExp elt [⟨tg, iter, [], 0⟩] scope pos) 0 (.ref it) .none X.env)) [] s := by
  have stat : ∀ {pins : List (Addr × Obj)} {H' : Hp} {s' : Shared}, Inv X pins τ H' s' → (∀ b ∈ fp, H' b = none) → (∀ p ∈ pins, p.1 ∈ Ps) → ∀ b ∈ fp, FpOk X pins H' b := fun {pins H' s'} I' hn hp b hb =>
    ⟨hn b hb, (I'.ok.exf b (F.aex b hb)).1, I'.ok.exfs b (F.aex b hb), .inl (F.aex b hb), fun x c e => (I'.ok.exf b (F.aex b hb)).2 x c e, fun p hp' => by
      rcases List.mem_append.mp hp' with z | z
      · exact F.exp b hb p z
      · exact fun e => F.afp b hb (e ▸ hp p z)⟩
  have pin0 : ∀ {i : Nat} {H : Hp} {s : Shared}, GAt X fp Ps tn τ W i H s → Inv X (pinsAt Ps s.heap) τ H s := fun {i H s} G => G.inv.pins_of fun p hp => by
    obtain ⟨hb, e⟩ := of_pinsAt hp
    obtain ⟨o, e', d⟩ := G.obj p.1 hb
    rw [e] at e'; cases e'
    exact ⟨e, G.nps _ hb, F.loc _ hb, F.afs _ hb, d⟩
  have npsOf : ∀ {i : Nat} {H H' : Hp} {s s' : Shared} {pins : List (Addr × Obj)} {σ' : L2.St}, GAt X fp Ps tn τ W i H s → Inv X (pinsAt Ps s.heap ++ pins) σ' H' s' →
      KeptP Ps s s' ∧ (∀ b ∈ Ps, H' b = none) ∧ ∀ b ∈ Ps, ∃ o, s'.heap.get? b = some o ∧ ∀ v, o.data ≠ .cell v := fun {i H H' s s' pins σ'} G I' => by
    have q : ∀ b ∈ Ps, ∀ o, s.heap.get? b = some o → s'.heap.get? b = some o ∧ H' b = none ∧ ∀ v, o.data ≠ .cell v := fun b hb o e =>
      let z := I'.pin (b, o) (List.mem_append_right _ (List.mem_append_left _ (mem_pinsAt hb e)))
      ⟨z.1, z.2.1, z.2.2.2.2⟩
    refine ⟨fun b hb o e => (q b hb o e).1, fun b hb => ?_, fun b hb => ?_⟩
    · obtain ⟨o, e, _⟩ := G.obj b hb
      exact (q b hb o e).2.1
    · obtain ⟨o, e, _⟩ := G.obj b hb
      exact ⟨o, (q b hb o e).1, (q b hb o e).2.2⟩
  intro k
  induction k with
  | zero =>
    intro i s₀ s H hk hi G kp
    have hin : i = n₀ := by omega
    subst hin
    have stop : J.stop i H := by
      rcases turn i H hi G.w with ⟨_, stop⟩ | ⟨z, _⟩
      · exact stop
      · omega
    show Seg _ A' _ _ _ s₀ _ ((compTurn (.GeneratorExp elt [⟨tg, iter, [], 0⟩] scope pos) 0 (.ref it) .none X.env).onRaise (leaving X.env)) [] s
    rw [compTurn_gen, Sem.onRaise_eq_wrap]
    refine seg_bind_wrap (wpAny_standAt ?_)
    refine seg_bind_wrap ?_
    rw [← hA]
    have I0 := pin0 G
    refine thnF (T.done X rfl rfl rfl hc i (pinsAt Ps s.heap) s τ H (fun _ _ => False) I0 (stat I0 G.nfp fun p hp => (of_pinsAt hp).1) G.tn stop) fun r s6 ⟨hr, I6⟩ => ?_
    subst hr
    have I6' : Inv X (pinsAt Ps s.heap ++ []) τ H s6 := by rw [List.append_nil]; exact I6
    obtain ⟨q1, q2, q3⟩ := npsOf G I6'
    exact seg_end (.ok .next) ⟨rfl, by omega, ⟨H, I6.pins_of (fun p hp => by cases hp), True.intro, G.nfp, q2, q3, G.w⟩, kp.trans q1⟩
  | succ k ih =>
    intro i s₀ s H hk hi G kp
    have hlt : i < n₀ := by omega
    obtain ⟨go, step⟩ : J.go i H ∧ ∀ x H', J.yld i H x H' → g x τ H' fun σ2 H2 => wipe σ2 vs = τ ∧ te σ2 H2 fun y H3 => y = val i ∧ W (i + 1) H3 := by
      rcases turn i H hi G.w with ⟨z, _⟩ | ⟨_, z⟩
      · omega
      · exact z
    obtain ⟨m, hm⟩ : ∃ m, n₀ - i = m + 1 := ⟨n₀ - i - 1, by omega⟩
    rw [hm]
    show Seg _ A' _ _ _ s₀ _ ((compTurn (.GeneratorExp elt [⟨tg, iter, [], 0⟩] scope pos) 0 (.ref it) .none X.env).onRaise (leaving X.env)) [] s
    rw [compTurn_gen, Sem.onRaise_eq_wrap]
    refine seg_bind_wrap (wpAny_standAt ?_)
    refine seg_bind_wrap ?_
    rw [← hA]
    have I0 := pin0 G
    refine thnF (T.item X rfl rfl rfl hc i (pinsAt Ps s.heap) s τ H (fun _ _ => False) I0 (stat I0 G.nfp fun p hp => (of_pinsAt hp).1) G.tn go) fun r s6 ⟨u, hr, h6⟩ => ?_
    subst hr
    refine seg_bind_wrap ?_
    rw [← hA]
    refine thnF h6 fun _ s7 ⟨x, H7, I7, r7, y7, st7, n7⟩ => ?_
    have I7' := I7.pinned (stat I7 n7 fun p hp => (of_pinsAt hp).1) (T.obj _ _ st7)
    refine seg_bind_wrap ?_
    rw [← hA]
    have w8 := pg.run _ s7 _ H7 x u _ I7' r7 (step x H7 y7)
    rw [hxe] at w8
    refine thnF w8 fun _ s8 ⟨σ8, H8, I8, hw8, q8⟩ => ?_
    simp only [List.forIn_nil]
    refine seg_bind_wrap (wpAny_pure ?_)
    simp only [if_true]
    have hy : ∀ v, yieldOut X.env v = yieldValue v := fun v => by simp only [yieldOut, hco, Bool.false_eq_true, if_false]
    simp only [hy]
    rw [Sem.bind_eq_wrap', Sem.bind_eq_wrap', Sem.wrap_wrap, Sem.wrap_wrap]
    refine seg_wrap ?_
    rw [← hA]
    have w9 := pe.run _ s8 σ8 H8 _ I8 q8
    rw [hxe] at w9
    refine thnF w9 fun z s10 ⟨yv, H10, I10, r10, hv, nx⟩ => ?_
    subst hv
    obtain ⟨q1, q2, q3⟩ := npsOf G I10
    obtain ⟨hl, hw⟩ := hτ σ8 hw8
    have pinF : ∀ b ∈ fp, ∀ o, s7.heap.get? b = some o → s10.heap.get? b = some o ∧ H10 b = none := fun b hb o e =>
      let z := I10.pin (b, o) (List.mem_append_right _ (List.mem_append_right _ (mem_pinsAt hb e)))
      ⟨z.1, z.2.1⟩
    have G10 : GAt X fp Ps tn τ W (i + 1) H10 s10 := by
      refine ⟨(I10.pins_of (fun p hp => by cases hp)).weak hl hw, T.keep _ _ _ st7 fun b hb o e => (pinF b hb o e).1, fun b hb => ?_, q2, q3, nx⟩
      obtain ⟨o, e, _⟩ := T.obj _ _ st7 b hb
      exact (pinF b hb o e).2
    have e1 : n₀ - 1 - m = i := by omega
    have e2 : n₀ - m = i + 1 := by omega
    refine seg_at (seg_yield rfl rfl rfl ⟨?_, ?_, kp.trans q1, fun s'' hal => ?_⟩)
    · rw [e1]; exact r10
    · rw [e2]; exact ⟨H10, G10⟩
    · have r := ih (i + 1) s'' s'' H10 (by omega) hlt (G10.slept F T.keep hal) (KeptP.refl _ _)
      rw [show n₀ - (i + 1) = m from by omega] at r
      exact seg_again rfl r
end
end Wk

set_option Elab.async false
set_option linter.all false
set_option maxRecDepth 100000
set_option maxHeartbeats 2000000
namespace Wk
open PySem PySem.Spec PyProof.Rows L2 GxR GenW
section
variable {X : Cx} {A' A : Around} {elt tg iter : Expr} {scope : Scope} {pos : Pos} {it a : Addr} {gn : Nat} {go : Obj} {fp Ps : List Addr} {tn : Nat → Heap → Prop} {J : It} {τ : L2.St} {vs : List Nat} {W : Nat → Hp → Prop} {n₀ : Nat} {val : Nat → V} {g : TG} {te : TE}
theorem seg_gs (hA : X.A = A'.over (.compLoop (.GeneratorExp elt [⟨tg, iter, [], 0⟩] scope pos) 0 (.ref it) .none X.env) []) (hc : X.calm = true) (hxe : X.xe = fun _ _ => False) (hco : X.env.scope.isCoroutine = false)
    (T : Turn X.prog X.w X.K tg J fp it tn) (pg : PG X tg g) (pe : PE X elt te) (F : Far X fp Ps) (hτ : ∀ σ : L2.St, wipe σ vs = τ → τ.length = σ.length ∧ ∀ (j : Nat) v, τ[j]? = some (some v) → σ[j]? = some (some v)) (turn : Turns J W n₀ g te τ vs val)
    {s₀ s : Shared} {H : Hp} (G : GAt X fp Ps tn τ W 0 H s) (kp : KeptP Ps s₀ s) :
    Seg (model X.prog X.w) A' (fun n s₀ r s₁ => r = .ok .next ∧ gEnd X fp Ps τ W n₀ n s₀ s₁) (gPro X fp Ps tn τ W n₀ val) n₀ s₀
      (.compStart (.GeneratorExp elt [⟨tg, iter, [], 0⟩] scope pos) 0 (.ref it) .none X.env)
      ((model X.prog X.w).den (.compStart (.GeneratorExp elt [⟨tg, iter, [], 0⟩] scope pos) 0 (.ref it) .none X.env)) [] s := by
  have loop := seg_gx (iter := iter) (scope := scope) (pos := pos) hA hc hxe hco T pg pe F hτ turn n₀ 0 s₀ s H (Nat.sub_zero _) (Nat.zero_le _) G kp
  rw [Nat.sub_zero] at loop
  show Seg _ A' _ _ _ s₀ _ ((compStart (.GeneratorExp elt [⟨tg, iter, [], 0⟩] scope pos) 0 (.ref it) .none X.env).onRaise (leaving X.env)) [] s
  unfold compStart
  rw [Sem.onRaise_eq_wrap]
  show Seg _ A' _ _ _ s₀ _ ((ask >>= _).wrap _ _ _ _) [] s
  refine seg_bind_wrap (wpAny_askSetting ?_)
  split
  · exact seg_again rfl loop
  · first
      | exact seg_bind_wrap (wpAny_rule (seg_bind_wrap (wpAny_standAt (seg_bind_wrap (T.self _ 0 s _ _ G.tn (seg_again rfl loop))))))
      | (refine seg_bind_wrap (wpAny_rule ?_); show Seg _ A' _ _ _ s₀ _ ((standAt iter.pos >>= _).wrap _ _ _ _) [] s; exact seg_bind_wrap (wpAny_standAt (seg_bind_wrap (T.self _ 0 s _ _ G.tn (seg_again rfl loop)))))
/-- asleep at turn i, ready to be woken -/
structure Awk (X : Cx) (A' : Around) (fp Ps : List Addr) (tn : Nat → Heap → Prop) (τ : L2.St) (W : Nat → Hp → Prop) (n₀ : Nat) (val : Nat → V) (gn : Nat) (i : Nat) (s : Shared) : Prop where
  ate : ∃ H, GAt X fp Ps tn τ W i H s
  rdy : ∃ gs, s.gens[gn]? = some gs ∧ ∀ s', Slp Ps s s' → gs.Goes (model X.prog X.w) A' (fun n s₀ r s₁ => r = .ok .next ∧ gEnd X fp Ps τ W n₀ n s₀ s₁) (gPro X fp Ps tn τ W n₀ val) (n₀ - i) (.send .none) s'
theorem Slp.trans {Ps : List Addr} {s s' s'' : Shared} (x : Slp Ps s s') (y : Slp Ps s' s'') : Slp Ps s s'' := ⟨y.os.trans x.os, y.bare, fun b o hb e => y.keep b o hb (x.keep b o hb e), y.own⟩
/-- the consumer's own doings -/
theorem Awk.slept {i : Nat} {s s' : Shared} (F : Far X fp Ps) (hk : ∀ i h h', tn i h → (∀ b ∈ fp, ∀ o, h.get? b = some o → h'.get? b = some o) → tn i h') (w : Awk X A' fp Ps tn τ W n₀ val gn i s) (z : Slp Ps s s') (hg : s'.gens = s.gens) : Awk X A' fp Ps tn τ W n₀ val gn i s' := by
  obtain ⟨⟨H, G⟩, gs, e, r⟩ := w
  exact ⟨⟨H, G.slept F hk z⟩, gs, by rw [hg]; exact e, fun s'' z' => r s'' (z.trans z')⟩
theorem GAt.top {i : Nat} {H : Hp} {s : Shared} (G : GAt X fp Ps tn τ W i H s) : GAt X fp Ps (fun _ _ => True) τ W i H s := ⟨G.inv, True.intro, G.nfp, G.nps, G.obj, G.w⟩
theorem Awk.item (hA1 : A' = A.in1) (hh : A.handled = none) (hroom : A.depth < recursionLimit) (F : Far X fp Ps) (hk : ∀ i h h', tn i h → (∀ b ∈ fp, ∀ o, h.get? b = some o → h'.get? b = some o) → tn i h') (hpn : (a, go) ∈ X.pn) (hG : ∀ h : Heap, h.get? a = some go → h.IsGen a gn)
    {i : Nat} {s : Shared} {Q : Option Value → Shared → Prop} {E : Value → Shared → Prop} (hi : i < n₀) (w : Awk X A' fp Ps tn τ W n₀ val gn i s)
    (hQ : ∀ v s', RelV (val i) v → Awk X A' fp Ps tn τ W n₀ val gn (i + 1) s' → KeptP Ps s s' → Q (some v) s') : wpAny (model X.prog X.w) A (pyNext (.ref a)) Q E s := by
  subst hA1
  obtain ⟨⟨H, G⟩, gs, hgs, hgo⟩ := w
  obtain ⟨m, hm⟩ : ∃ m, n₀ - i = m + 1 := ⟨n₀ - i - 1, by omega⟩
  rw [hm] at hgo
  have hg := hG _ (G.inv.pin (a, go) (List.mem_append_left _ hpn)).1
  have z0 : Slp Ps s (s.setGen gn .running) := ⟨rfl, G.inv.bare.moved (GenOnlyQ.of (GenOnly.setGen s gn .running) (setGen_self hgs) rfl), fun _ _ _ e => e, G.obj⟩
  have hlt : gn < s.gens.size := by
    rcases Nat.lt_or_ge gn s.gens.size with z | z
    · exact z
    · rw [Array.getElem?_eq_none z] at hgs; cases hgs
  refine wpAny_gsz (Nat.le_refl s.gens.size) ?_
  refine wpAny_pyNext_genexpQ (P := gEnd X fp Ps τ W n₀) hh G.inv.nolimit hroom hg hgs (hgo _ z0) (fun v s₁ gs' hb hv => ?_) (fun s₁ hp h' hk => ?_)
  · obtain ⟨rv, ⟨H1, G1⟩, kp, hkap⟩ := hv
    have e1 : n₀ - 1 - (m + 1 - 1) = i := by omega
    have e2 : n₀ - (m + 1 - 1) = i + 1 := by omega
    rw [e1] at rv
    rw [e2] at G1
    intro hsz
    have hsz1 : s.gens.size ≤ s₁.gens.size := by rw [setGen_size] at hsz; exact hsz
    have hlt1 : gn < s₁.gens.size := Nat.lt_of_lt_of_le hlt hsz1
    have hs1 : (s₁.setGen gn gs').gens[gn]? = some gs' := setGen_self (Array.getElem?_eq_getElem hlt1)
    have z1 : Slp Ps s₁ (s₁.setGen gn gs') := ⟨rfl, G1.inv.bare.moved (GenOnlyQ.of (GenOnly.setGen s₁ gn gs') hs1 hb), fun _ _ _ e => e, G1.obj⟩
    refine hQ v _ rv ⟨⟨H1, G1.slept F hk z1⟩, gs', hs1, fun s'' hal => ?_⟩ kp
    have e : n₀ - (i + 1) = m := by omega
    rw [e]
    exact hkap s'' (z1.trans hal)
  · exact absurd hp.1 (Nat.succ_ne_zero m)
theorem Awk.done (hA1 : A' = A.in1) (hh : A.handled = none) (hroom : A.depth < recursionLimit) (F : Far X fp Ps) (hpn : (a, go) ∈ X.pn) (hG : ∀ h : Heap, h.get? a = some go → h.IsGen a gn)
    {s : Shared} {Q : Option Value → Shared → Prop} {E : Value → Shared → Prop} (w : Awk X A' fp Ps tn τ W n₀ val gn n₀ s)
    (hQ : ∀ s' H, GAt X fp Ps (fun _ _ => True) τ W n₀ H s' → KeptP Ps s s' → Q none s') : wpAny (model X.prog X.w) A (pyNext (.ref a)) Q E s := by
  subst hA1
  obtain ⟨⟨H, G⟩, gs, hgs, hgo⟩ := w
  rw [Nat.sub_self] at hgo
  have hg := hG _ (G.inv.pin (a, go) (List.mem_append_left _ hpn)).1
  have z0 : Slp Ps s (s.setGen gn .running) := ⟨rfl, G.inv.bare.moved (GenOnlyQ.of (GenOnly.setGen s gn .running) (setGen_self hgs) rfl), fun _ _ _ e => e, G.obj⟩
  have hlt : gn < s.gens.size := by
    rcases Nat.lt_or_ge gn s.gens.size with z | z
    · exact z
    · rw [Array.getElem?_eq_none z] at hgs; cases hgs
  refine wpAny_gsz (Nat.le_refl s.gens.size) ?_
  refine wpAny_pyNext_genexpQ (P := gEnd X fp Ps τ W n₀) hh G.inv.nolimit hroom hg hgs (hgo _ z0) (fun v s₁ gs' hb hv => ?_) (fun s₁ hp h' hk => ?_)
  · obtain ⟨_, ⟨H1, G1⟩, _, hkap⟩ := hv
    exact False.elim (hkap s₁ (Slp.refl_of G1))
  · obtain ⟨_, ⟨H1, G1⟩, kp⟩ := hp
    intro hsz
    have hsz1 : s.gens.size ≤ s₁.gens.size := by
      have z : s.gens.size ≤ (s₁.setGen gn .finished).gens.size := hsz
      rw [setGen_size] at z; exact z
    have hs1 : (s₁.setGen gn .finished).gens[gn]? = some .finished := setGen_self (Array.getElem?_eq_getElem (Nat.lt_of_lt_of_le hlt hsz1))
    have b1 : AllBare (s₁.setGen gn .finished).gens := G1.inv.bare.moved (GenOnlyQ.of (GenOnly.setGen s₁ gn .finished) hs1 rfl)
    have z1 : Slp Ps s₁ { s₁.setGen gn .finished with heap := h' } := ⟨rfl, b1, fun b o _ e => hk b o e, fun b hb => by
      obtain ⟨o, e, d⟩ := G1.obj b hb
      exact ⟨o, hk b o e, d⟩⟩
    exact hQ _ H1 (G1.slept F (fun _ _ _ _ _ => True.intro) z1) fun b hb o e => hk b o (kp b hb o e)

/-! ### all, any, sum of it -/
theorem all_gx (hA1 : A' = A.in1.in1) (hh : A.handled = none) (hroom : A.depth < recursionLimit) (F : Far X fp Ps) (hk : ∀ i h h', tn i h → (∀ b ∈ fp, ∀ o, h.get? b = some o → h'.get? b = some o) → tn i h') (hpn : (a, go) ∈ X.pn) (hG : ∀ h : Heap, h.get? a = some go → h.IsGen a gn)
    {tr : Nat → Bool} (hv : ∀ j, val j = .bl (tr j)) {R : Result → Shared → Prop} (h1 : ∀ s' H, (∀ j, j < n₀ → tr j = true) → GAt X fp Ps (fun _ _ => True) τ W n₀ H s' → R (.ok (.ret (.bool true))) s')
    (h2 : ∀ s' H j, j < n₀ → tr j = false → GAt X fp Ps (fun _ _ => True) τ W (j + 1) H s' → R (.ok (.ret (.bool false))) s') :
    ∀ (k i : Nat) (s : Shared), n₀ - i = k → i ≤ n₀ → (∀ j, j < i → tr j = true) → Awk X A' fp Ps tn τ W n₀ val gn i s → codeAny (model X.prog X.w) A (.builtin "all.loop" ⟨[.ref a], []⟩) R s := by
  intro k
  induction k with
  | zero =>
    intro i s hk' hi ha w
    have hin : i = n₀ := by omega
    subst hin
    refine codeAny_builtin PySem.F.entry_all_loop ?_
    rw [Around.under_plainId PySem.F.plain_all_loop _]
    show wpAny _ A.in1 (pyNext (.ref a) >>= _) _ _ s
    refine wpAny_bind (Awk.done (A := A.in1) hA1 hh hroom F hpn hG w fun s' H G _ => ?_)
    exact wpAny_bind (wpAny_rule (wpAny_pure (h1 s' H ha G)))
  | succ k ih =>
    intro i s hk' hi ha w
    have hlt : i < n₀ := by omega
    refine codeAny_builtin PySem.F.entry_all_loop ?_
    rw [Around.under_plainId PySem.F.plain_all_loop _]
    show wpAny _ A.in1 (pyNext (.ref a) >>= _) _ _ s
    refine wpAny_bind (Awk.item (A := A.in1) hA1 hh hroom F hk hpn hG hlt w fun v s' rv w' _ => ?_)
    rw [hv i] at rv
    have e : v = .bool (tr i) := rv
    subst e
    refine wpAny_bind (wpAny_holding (wpAny_truthy_bool ?_))
    refine wpAny_bind (wpAny_letGo ?_)
    cases hb : tr i with
    | true =>
      simp only [if_true]
      refine wpAny_pure ⟨plainId_quiet PySem.F.plain_all_loop _, ih (i + 1) _ (by omega) hlt (fun j hj => ?_) w'⟩
      rcases Nat.lt_or_ge j i with z | z
      · exact ha j z
      · rw [show j = i from by omega]; exact hb
    | false =>
      simp only [Bool.false_eq_true, if_false]
      obtain ⟨⟨H, G⟩, _⟩ := w'
      exact wpAny_bind (wpAny_rule (wpAny_pure (h2 s' H i hlt hb G.top)))
end
end Wk

set_option Elab.async false
set_option linter.all false
set_option maxRecDepth 100000
set_option maxHeartbeats 2000000
namespace Wk
open PySem PySem.Spec PyProof.Rows L2 GxR GenW
section
variable {X : Cx} {A' A : Around} {elt tg iter : Expr} {scope : Scope} {pos : Pos} {it a S : Addr} {gn : Nat} {go : Obj} {fp Ps : List Addr} {tn : Nat → Heap → Prop} {J : It} {τ : L2.St} {vs : List Nat} {W : Nat → Hp → Prop} {n₀ : Nat} {val : Nat → V} {g : TG} {te : TE}
theorem sum_gx (hA1 : A' = A.in1.in1) (hh : A.handled = none) (hroom : A.depth < recursionLimit) (F : Far X fp [S]) (hk : ∀ i h h', tn i h → (∀ b ∈ fp, ∀ o, h.get? b = some o → h'.get? b = some o) → tn i h') (hpn : (a, go) ∈ X.pn) (hG : ∀ h : Heap, h.get? a = some go → h.IsGen a gn)
    {vi : Nat → Int} (hv : ∀ j, val j = .int (vi j)) (hfit : ∀ j, j < n₀ → InLong (vi j) ∧ InLong (preSum vi (j + 1))) {R : Result → Shared → Prop} (h1 : ∀ s' t' H, GAt X fp [S] (fun _ _ => True) τ W n₀ H s' → R (.ok (.ret (.int (preSum vi n₀) t'))) s') :
    ∀ (k i : Nat) (s : Shared) (tA : Tok) (c : Nat), n₀ - i = k → i ≤ n₀ → Awk X A' fp [S] tn τ W n₀ val gn i s → s.heap.get? S = some { cls := .type "list", dict := none, data := .seq #[.int (preSum vi i) tA] c, slots := #[] } →
      codeAny (model X.prog X.w) A (.builtin "sum.loop" ⟨[.ref a, .ref S, rawInt 0, rawInt 0], []⟩) R s := by
  intro k
  induction k with
  | zero =>
    intro i s tA c hk' hi w hS
    have hin : i = n₀ := by omega
    subst hin
    refine codeAny_builtin PySem.F.entry_sum_loop ?_
    rw [Around.under_plainId PySem.F.plain_sum_loop _]
    show wpAny _ A.in1 (seqItems? (.ref S) >>= _) _ _ s
    refine wpAny_bind (wpAny_seqItems hS rfl ?_)
    show wpAny _ A.in1 (tryCatch (pyNext (.ref a)) _ >>= _) _ _ s
    refine wpAny_bind (wpAny_tryCatch (Awk.done (A := A.in1) hA1 hh hroom F hpn hG w fun s' H G _ => ?_))
    exact wpAny_pure (h1 s' tA H G)
  | succ k ih =>
    intro i s tA c hk' hi w hS
    have hlt : i < n₀ := by omega
    refine codeAny_builtin PySem.F.entry_sum_loop ?_
    rw [Around.under_plainId PySem.F.plain_sum_loop _]
    show wpAny _ A.in1 (seqItems? (.ref S) >>= _) _ _ s
    refine wpAny_bind (wpAny_seqItems hS rfl ?_)
    show wpAny _ A.in1 (tryCatch (pyNext (.ref a)) _ >>= _) _ _ s
    refine wpAny_bind (wpAny_tryCatch (Awk.item (A := A.in1) hA1 hh hroom F hk hpn hG hlt w fun v s' rv w' kp => ?_))
    rw [hv i] at rv
    obtain ⟨t, rfl⟩ := _root_.id rv
    have hS' := kp S (List.mem_singleton.mpr rfl) _ hS
    obtain ⟨⟨f1, f2⟩, f3, f4⟩ := hfit i hlt
    have hc : ((decide (-(2 ^ 63) ≤ vi i) && decide (vi i < 2 ^ 63)) && (decide (-(2 ^ 63) ≤ preSum vi i + vi i) && decide (preSum vi i + vi i < 2 ^ 63))) = true := by
      simp only [preSum] at f3 f4
      simp only [Bool.and_eq_true, decide_eq_true_eq]
      exact ⟨⟨f1, f2⟩, f3, f4⟩
    show wpAny _ A.in1 (if (_ : Bool) = true then (mkInt (preSum vi i + vi i) >>= _) else _) _ _ _
    split
    · refine wpAny_bind (wpAny_mkInt ?_)
      show wpAny _ A.in1 (updateSeq S (fun _ => #[.int (preSum vi i + vi i) s'.toks]) >>= _) _ _ _
      refine wpAny_bind ?_
      obtain ⟨⟨H, G⟩, _⟩ := id w'
      refine wpAny_updateSeq hS' rfl (wpAny_pure ⟨plainId_quiet PySem.F.plain_sum_loop _, ih (i + 1) _ s'.toks _ (by omega) hlt (w'.slept F hk ⟨rfl, G.inv.bare, fun b o hb e => ?_, fun b hb => ?_⟩ rfl) (Heap.get?_update_self _ hS' rfl)⟩)
      · exact (Heap.get?_update_other _ _ (fun h : S = b => hb (List.mem_singleton.mpr h.symm))).trans e
      · rw [List.mem_singleton.mp hb]
        exact ⟨_, Heap.get?_update_self _ hS' rfl, fun v q => by cases q⟩
    · rename_i hneg
      exact absurd hc hneg
end
/-- a generator, just made in the state s5; s3: ahead of its frame -/
structure Made (X : Cx) (pins : List (Addr × Obj)) (σ : L2.St) (elt tg iter : Expr) (scope : Scope) (gpos : Pos) (J : It) (H2 : Hp) (s3 : Shared) (fp : List Addr) (it : Addr) (tn : Nat → Heap → Prop) (cenv : Env) (a : Addr) (go : Obj) (gn : Nat) (s5 : Shared) : Prop where
  inv : Inv X pins σ H2 s3
  turn : Turn X.prog X.w X.K tg J fp it tn
  fpo : ∀ b ∈ fp, FpOk X pins H2 b ∧ b < s3.heap.objs.size
  env : ∃ code, cenv = genEnv scope (cloFrom X.env.cells scope.names []) s3.heap.objs.size code builtinsNs X.env
  tn0 : tn 0 s5.heap
  os : s5.os = s3.os
  bare : AllBare s5.gens
  keep : ∀ b o, s3.heap.get? b = some o → s5.heap.get? b = some o
  ns : ∃ m, s5.heap.Ns s3.heap.objs.size m
  gen : s5.gens[gn]? = some (.fresh (.compStart (.GeneratorExp elt [⟨tg, iter, [], 0⟩] scope gpos) 0 (.ref it) .none cenv))
  obj : s5.heap.get? a = some go
  isg : ∀ h : Heap, h.get? a = some go → h.IsGen a gn
  lta : s3.heap.objs.size < a
  noc : ∀ v, go.data ≠ .cell v
section
variable {X : Cx} {pins : List (Addr × Obj)} {σ : L2.St} {H : Hp} {s : Shared} {elt tg iter : Expr} {scope : Scope} {gpos : Pos} {own : List (Str × Nat)} {wi : TI}
theorem gen_mk {c P : Addr} {k : Nat} {Q' : Value → Shared → Prop} {R : It → Hp → Prop} (hr : Room k X.A) (TB : GxR.TabB X.base X.mg c P) (hcode : X.env.code = .ref c) (hco : scope.isCoroutine = false) (hcell : ∀ y ∈ scope.names, y.2 ≠ .cell)
    (hdot : scope.names.lookup (".0" : Str) = some NameKind.local) (ok : BlkOk X.N X.env.scope scope own) (hi : PI X tg iter wi) (hs : ∀ v, genFold iter X.env v = pure v) (I : Inv X pins σ H s)
    (h : wi σ H fun J H1 => TabG H1 P ∧ ∀ H2, Tabbed P H1 H2 → R J H2)
    (hQ : ∀ J H2 s3 fp it tn cenv a go gn s5, R J H2 → Made X pins σ elt tg iter scope gpos J H2 s3 fp it tn cenv a go gn s5 → Q' (.ref a) s5) :
    wpAny (model X.prog X.w) X.A (eval (.GeneratorExp elt [⟨tg, iter, [], 0⟩] scope gpos) X.env) Q' X.xe s := by
  have hfree : ∀ y ∈ scope.names, y.2 = .free → ∃ c, X.env.cells.lookup y.1 = some c := fun y hy e => by
    rcases ok.free y hy e with k | k
    · exact I.ok.has _ (.inl k)
    · exact I.ok.has _ (.inr k)
  refine wpAny_GeneratorExp_make hco (closure_ok hfree) hcell hdot ok.kind (by have := hr.dp; omega) ?_ hs
  refine thn (hi.run pins s σ H _ I h) fun xv s1 hx => thn hx fun itv s2 h2 => ?_
  obtain ⟨it, fp, tn, J, H1, e, I1, T, st1, f1, ⟨ps, hP, ht⟩, q⟩ := h2
  subst e
  have hPs : s2.heap.get? P = some { cls := .none, data := .fields ps } := I1.hok P _ hP
  have cd : PySem.W.CodeHd s2.heap c P := TB.code.keeps fun b u e => I1.bk b u e
  have hcP : cStatics ≠ P := fun e => by
    obtain ⟨_, hns, _⟩ := I1.nolimit
    obtain ⟨o', es, ep, ho, hd, _⟩ := hns
    rw [e, hPs] at ho
    cases ho
    cases hd
  have nfP : ∀ b ∈ fp, b ≠ P := fun b hb z => by
    have q := (f1 b hb).1
    rw [z, hP] at q; cases q
  have sz : ∀ b ∈ fp, b < s2.heap.objs.size := fun b hb => by
    obtain ⟨o, e, _⟩ := T.obj _ _ st1 b hb
    exact Heap.lt_size e
  have cont : ∀ (code : Value) (h3 : Heap) (tk : Nat) (more : Array Value), Heap.ExtBut P s2.heap h3 → s2.heap.objs.size ≤ h3.objs.size → h3.get? P = some { cls := .none, data := .fields (ps ++ more) } → TriplesOk (ps ++ more).toList →
      wpAny (model X.prog X.w) X.A (builtinsFor X.env.globals X.env.builtins) (fun bi s₄ =>
        ∀ h', h'.Ns s₄.heap.objs.size (fun y => if y = ".0" then some (.ref it) else none) → Heap.SameBut s₄.heap.objs.size (s₄.heap.push { cls := .type "frame", data := .dict #[] }) h' →
          Q' (.ref h'.objs.size) { s₄ with
            gens := s₄.gens.push (.fresh (.compStart (.GeneratorExp elt [⟨tg, iter, [], 0⟩] scope gpos) 0 (.ref it) .none (genEnv scope (cloFrom X.env.cells scope.names []) s₄.heap.objs.size code bi X.env))),
            toks := s₄.toks + 1 + 1 + 1,
            heap := h'.push { cls := .type "generator", data := .fields #[.int s₄.gens.size 0, .str "<genexpr>" (s₄.toks + 1), .str (X.env.qual ++ "<genexpr>") (s₄.toks + 1 + 1)] } }) X.xe { s2 with heap := h3, toks := tk } := by
    intro code h3 tk more hx hsz hP3 ht3
    obtain ⟨bm, ob, e1, e2, e3, e4, e5, e6, e7, e8⟩ := TB.bm
    refine wpAny_builtinsFor (m := X.mg) (by rw [I1.ok.glob]; exact (I1.mod.glob.keeps I1.bk).extBut hx TB.gP) e1 e2 (hx _ _ e4 (I1.bk _ _ e5)) e6 e7 e8 ?_
    intro h' hn' hs'
    have I3 : Inv X pins σ (upd H1 P (.tbl (ps ++ more))) ({ s2 with heap := h3, toks := tk } : Shared) :=
      inv_tab (g' := s2.gens) (d' := s2.drawn) (t' := tk) I1 hP (fun b o hb e => hx b o hb e) hP3 I1.bare
    have hsz' : h'.objs.size = h3.objs.size + 1 := by rw [hs'.1, Heap.size_push]
    have keep' : ∀ b o, h3.get? b = some o → h'.get? b = some o := fun b o e => hs'.extBut b o (Nat.ne_of_lt (Heap.lt_size e)) (Heap.get?_push_of_some _ e)
    refine hQ J (upd H1 P (.tbl (ps ++ more))) ({ s2 with heap := h3, toks := tk } : Shared) fp it tn _ _ _ s2.gens.size _ (q _ ⟨⟨ps ++ more, upd_same, ht3⟩, fun b hb => upd_ne hb⟩) ⟨I3, T, fun b hb => ⟨⟨?_, (f1 b hb).2⟩, ?_⟩, ⟨code, rfl⟩, ?_, rfl, ?_, fun b o e => ?_, ⟨_, hn'.push _⟩, Array.getElem?_push_size .., Heap.get?_push_size _ rfl, fun h e => ⟨_, _, _, e, rfl, rfl, rfl⟩, ?_, fun v q => by cases q⟩
    · rw [upd_ne (nfP b hb)]; exact (f1 b hb).1
    · exact Nat.lt_of_lt_of_le (sz b hb) hsz
    · exact T.keep _ _ _ st1 fun b hb o e => Heap.get?_push_of_some _ (keep' b o (hx b o (nfP b hb) e))
    · exact I1.bare.push rfl
    · exact Heap.get?_push_of_some _ (keep' b o e)
    · show h3.objs.size < h'.objs.size
      omega
  refine ⟨I1.nolimit, ?_⟩
  cases hf : codeAmong gpos ps.toList with
  | none =>
    refine wpAny_genexprCodeX hcode (cd.code hPs ht) (cd.tab hPs) hf fun c' h' tk hx hge hlt hco' _ htab' _ => ?_
    obtain ⟨o1, vs, f1, tf, fl, tg, inF, tx, tt, op, _, _, _, _, _, _, _, _, _, htr, _⟩ := hco'
    exact cont _ h' tk _ hx (Nat.le_trans hge (Nat.le_of_lt hlt)) htab'.2 htr
  | some cv =>
    refine wpAny_genexprCode_hit hcode (cd.code hPs ht) hf ?_
    have z := cont cv s2.heap s2.toks #[] (Heap.ExtBut.refl _ _) (Nat.le_refl _) (by rw [Array.append_empty]; exact hPs) (by rw [Array.append_empty]; exact ht)
    exact z
end
end Wk

set_option Elab.async false
set_option linter.all false
set_option maxRecDepth 100000
set_option maxHeartbeats 2000000
namespace Wk
open PySem PySem.Spec PyProof.Rows L2 GxR GenW
section
variable {X : Cx} {pins : List (Addr × Obj)} {σ : L2.St} {H H2 : Hp} {s s3 s5 s6 : Shared} {elt tg iter : Expr} {scope : Scope} {gpos : Pos} {own : List (Str × Nat)} {wi : TI} {A' : Around} {it a : Addr} {gn n₀ : Nat} {go : Obj} {fp Ps : List Addr} {tn : Nat → Heap → Prop}
  {J : It} {W : Nat → Hp → Prop} {val : Nat → V} {g : TG} {te : TE} {cenv : Env}
theorem Made.awk (M : Made X pins σ elt tg iter scope gpos J H2 s3 fp it tn cenv a go gn s5) (hc : X.calm = true) (hN : X.N.Nodup) (ok : BlkOk X.N X.env.scope scope own) (hcell : ∀ y ∈ scope.names, y.2 ≠ .cell) (hco : scope.isCoroutine = false)
    (hA : A'.handled = none) (hA2 : A'.frames = some X.stack) (hpg : PG (gfx X A' s3 H2 cenv fp [(a, go)]) tg g) (hpe : PE (gfx X A' s3 H2 cenv fp [(a, go)]) elt te)
    (turn : Turns J W n₀ g te (wipe σ (own.map (·.2))) (own.map (·.2)) val) (w0 : W 0 H2) (os6 : s6.os = s5.os) (g6 : s6.gens = s5.gens) (k6 : ∀ b o, s5.heap.get? b = some o → s6.heap.get? b = some o)
    (hPs : ∀ b ∈ Ps, s5.heap.objs.size ≤ b ∧ ∃ o, s6.heap.get? b = some o ∧ ∀ v, o.data ≠ .cell v) :
    Far (gfx X A' s3 H2 cenv fp [(a, go)]) fp Ps ∧ Awk (gfx X A' s3 H2 cenv fp [(a, go)]) A' fp Ps tn (wipe σ (own.map (·.2))) W n₀ val gn 0 s6 := by
  obtain ⟨code, hce⟩ := M.env
  obtain ⟨m, hn⟩ := M.ns
  have lt5 : s3.heap.objs.size < s5.heap.objs.size := Nat.lt_trans M.lta (Heap.lt_size M.obj)
  have hL : cenv.locals = s3.heap.objs.size := by rw [hce]; rfl
  have nostk : ∀ b, s3.heap.objs.size ≤ b → b ∉ frs X.stack := fun b hb z => by
    have f := M.inv.fpOk (H' := H2) hb (M.inv.hok.fresh hb)
    rcases List.mem_cons.mp (M.inv.stkSub b z) with y | y
    · exact f.2.1 y
    · exact f.2.2.1 y
  have I6 : Inv (gfx X A' s3 H2 cenv fp [(a, go)]) [] (wipe σ (own.map (·.2))) H2 s6 := by
    refine gen_start M.inv ok hN hcell M.fpo hA hA2 hce (os6.trans M.os) (by rw [g6]; exact M.bare) (fun b o e => k6 b o (M.keep b o e)) (hn.at' fun o e => k6 _ o e) fun p hp => ?_
    have e : p = (a, go) := by simpa using hp
    subst e
    exact ⟨k6 _ _ M.obj, M.inv.hok.fresh (Nat.le_of_lt M.lta), Nat.ne_of_gt M.lta, nostk _ (Nat.le_of_lt M.lta), M.noc⟩
  have I5 : Inv (gfx X A' s3 H2 cenv fp [(a, go)]) [] (wipe σ (own.map (·.2))) H2 s5 := by
    refine gen_start M.inv ok hN hcell M.fpo hA hA2 hce M.os M.bare M.keep hn fun p hp => ?_
    have e : p = (a, go) := by simpa using hp
    subst e
    exact ⟨M.obj, M.inv.hok.fresh (Nat.le_of_lt M.lta), Nat.ne_of_gt M.lta, nostk _ (Nat.le_of_lt M.lta), M.noc⟩
  have ge3 : ∀ b ∈ Ps, s3.heap.objs.size ≤ b := fun b hb => Nat.le_trans (Nat.le_of_lt lt5) (hPs b hb).1
  have F : Far (gfx X A' s3 H2 cenv fp [(a, go)]) fp Ps := by
    refine ⟨ge3, fun b hb => ?_, fun b hb x c e z => ?_, fun b hb p hp => ?_, fun b hb => nostk b (ge3 b hb), fun b hb z => ?_, fun b hb => hb, fun b hb p hp => ?_⟩
    · show b ≠ cenv.locals
      rw [hL]; exact Nat.ne_of_gt (Nat.lt_of_lt_of_le lt5 (hPs b hb).1)
    · obtain ⟨v, q⟩ := I5.cell x c e
      exact absurd (Nat.lt_of_lt_of_le q.lt (by rw [z]; exact (hPs b hb).1)) (Nat.lt_irrefl _)
    · have e : p = (a, go) := by simpa using hp
      subst e
      exact Nat.ne_of_lt (Nat.lt_of_lt_of_le (Heap.lt_size M.obj) (hPs b hb).1)
    · exact absurd (Nat.lt_of_lt_of_le (M.fpo b hb).2 (ge3 b z)) (Nat.lt_irrefl _)
    · have e : p = (a, go) := by simpa using hp
      subst e
      exact Nat.ne_of_gt (Nat.lt_trans (M.fpo b hb).2 M.lta)
  refine ⟨F, ?_⟩
  have G6 : GAt (gfx X A' s3 H2 cenv fp [(a, go)]) fp Ps tn (wipe σ (own.map (·.2))) W 0 H2 s6 :=
    ⟨I6, M.turn.keep _ _ _ M.tn0 fun b _ o e => k6 b o e, fun b hb => (M.fpo b hb).1.1, fun b hb => M.inv.hok.fresh (ge3 b hb), fun b hb => (hPs b hb).2, w0⟩
  refine ⟨⟨H2, G6⟩, .fresh (.compStart (.GeneratorExp elt [⟨tg, iter, [], 0⟩] scope gpos) 0 (.ref it) .none cenv), by rw [g6]; exact M.gen, fun s' z => ⟨rfl, ?_⟩⟩
  have hτ : ∀ σ' : L2.St, wipe σ' (own.map (·.2)) = wipe σ (own.map (·.2)) → (wipe σ (own.map (·.2))).length = σ'.length ∧ ∀ (j : Nat) v, (wipe σ (own.map (·.2)))[j]? = some (some v) → σ'[j]? = some (some v) := fun σ' e => by
    refine ⟨by rw [← e, wipe_length], fun j v h => ?_⟩
    rw [← e] at h
    exact (wipe_some h).1
  rw [Nat.sub_zero]
  exact seg_gs (X := gfx X A' s3 H2 cenv fp [(a, go)]) over_gen.symm hc rfl (by show cenv.scope.isCoroutine = false; rw [hce]; exact hco) M.turn hpg hpe F hτ turn (G6.slept F M.turn.keep z) (KeptP.refl _ _)
/-- back in the def's own context -/
theorem Made.back {tn' : Nat → Heap → Prop} {τ : L2.St} {i : Nat} {s' : Shared} {H' : Hp} (M : Made X pins σ elt tg iter scope gpos J H2 s3 fp it tn cenv a go gn s5) (G : GAt (gfx X A' s3 H2 cenv fp [(a, go)]) fp Ps tn' τ W i H' s') : Inv X pins σ H' s' :=
  M.inv.call' (ch := fp) G.inv.os G.inv.base G.inv.hok G.inv.bare fun b hb => ⟨(M.fpo b hb).1.2.2.2.1, (M.fpo b hb).1.2.1, (M.fpo b hb).1.2.2.2.2.1, (M.fpo b hb).1.2.2.2.2.2⟩
/-- all(elt for tg in iter) -/
def tAllX (P : Addr) (wi : TI) (g : TG) (te : TE) (vs : List Nat) : TE := fun σ H Q => wi σ H fun J H1 => TabG H1 P ∧ ∀ H2, Tabbed P H1 H2 → ∃ (n₀ : Nat) (tr : Nat → Bool) (W : Nat → Hp → Prop), W 0 H2 ∧ Turns J W n₀ g te (wipe σ vs) vs (fun i => .bl (tr i)) ∧
  (∀ H, (∀ j, j < n₀ → tr j = true) → W n₀ H → Q (.bl true) H) ∧ ∀ j H, j < n₀ → tr j = false → W (j + 1) H → Q (.bl false) H
/-- sum(elt for tg in iter) -/
def tSumX (P : Addr) (wi : TI) (g : TG) (te : TE) (vs : List Nat) : TE := fun σ H Q => wi σ H fun J H1 => TabG H1 P ∧ ∀ H2, Tabbed P H1 H2 → ∃ (n₀ : Nat) (vi : Nat → Int) (W : Nat → Hp → Prop), W 0 H2 ∧ Turns J W n₀ g te (wipe σ vs) vs (fun i => .int (vi i)) ∧
  (∀ j, j < n₀ → InLong (vi j) ∧ InLong (preSum vi (j + 1))) ∧ ∀ H, W n₀ H → Q (.int (preSum vi n₀)) H
theorem Room.gen {k : Nat} {A : Around} (r : Room (k + 1) A) (env : Env) : Room k (A.in1.in1.deeper env) :=
  ⟨r.hd, by have := r.dp; show A.depth + 1 + 3 * k + 5 < _; omega, by have := r.un; show A.units + 1 + 1 + 3 + 16 * k + 200 < _; omega⟩
theorem pe_allX {c P : Addr} {p pos : Pos} {k : Nat} (hr : Room k X.A) (hc : X.calm = true) (hN : X.N.Nodup) (hg : Gl X "all") (hm : X.mg "all" = none) (hb : bootBuiltins "all" = some (.builtin "all")) (TB : GxR.TabB X.base X.mg c P) (hcode : X.env.code = .ref c)
    (hco : scope.isCoroutine = false) (hcell : ∀ y ∈ scope.names, y.2 ≠ .cell) (hdot : scope.names.lookup (".0" : Str) = some NameKind.local) (ok : BlkOk X.N X.env.scope scope own) (hi : PI X tg iter wi) (hs : ∀ v, genFold iter X.env v = pure v)
    (hpg : ∀ (s : Shared) (H : Hp) (C : Addr) (code : Value) (cl : List (Str × Addr)) (fp : List Addr) (pn : List (Addr × Obj)), PG (gfx X X.A.in1.in1 s H (genEnv scope cl C code builtinsNs X.env) fp pn) tg g)
    (hpe : ∀ (s : Shared) (H : Hp) (C : Addr) (code : Value) (cl : List (Str × Addr)) (fp : List Addr) (pn : List (Addr × Obj)), PE (gfx X X.A.in1.in1 s H (genEnv scope cl C code builtinsNs X.env) fp pn) elt te)
    (he : starEach [.GeneratorExp elt [⟨tg, iter, [], 0⟩] scope gpos] X.env = (false, eval (.GeneratorExp elt [⟨tg, iter, [], 0⟩] scope gpos) X.env) :: starEach [] X.env := by rfl) :
    PE X (.Call (.Name "all" p) [.GeneratorExp elt [⟨tg, iter, [], 0⟩] scope gpos] [] pos) (tAllX P wi g te (own.map (·.2))) := by
  refine ⟨fun pins s σ H Q I h => ?_⟩
  refine wpAny_Call_Name_kw (ld_blt I hg hm hb (PyProof.Rows.callWith_builtin1 ?_ he (by rfl)))
  rw [he]
  show wpAny _ _ (spliced ((false, eval (.GeneratorExp elt [⟨tg, iter, [], 0⟩] scope gpos) X.env) :: backTo pos (starEach [] X.env))) _ _ s
  refine Calls.spliced_cons (gen_mk hr TB hcode hco hcell hdot ok hi hs I h fun J H2 s3 fp it tn cenv a go gn s5 hR M => ?_)
  obtain ⟨n₀, tr, W, w0, turn, q1, q2⟩ := hR
  obtain ⟨code, hce⟩ := M.env
  have fr : X.A.in1.in1.frames = some X.stack := I.ok.frames
  obtain ⟨F, aw⟩ := M.awk (A' := X.A.in1.in1) (Ps := []) (val := fun i => .bl (tr i)) hc hN ok hcell hco hr.hd fr (by rw [hce]; exact hpg _ _ _ _ _ _ _) (by rw [hce]; exact hpe _ _ _ _ _ _ _) turn w0 rfl rfl (fun _ _ e => e) (fun b hb => by cases hb)
  refine Calls.spliced_nil ?_
  refine call_function_tree PySem.F.kind_all PySem.F.plain_all PySem.F.entry_all (PySem.F.args_all1 _) ?_
  unfold Builtin.«all»
  refine wpAny_bind (m := oneArg "all" _) (wpAny_pure ?_)
  refine wpAny_bind (wpAny_pyIter_gen (M.isg _ M.obj) ?_)
  refine wpAny_pure ⟨plainId_quiet PySem.F.plain_all_loop _, ?_⟩
  refine all_gx (A := X.A) (go := go) rfl hr.hd (by have := hr.dp; omega) F M.turn.keep (List.mem_singleton.mpr rfl) M.isg (fun _ => rfl) (fun s' H' ht G => ?_) (fun s' H' j hj hf G => ?_) n₀ 0 s5 (Nat.sub_zero _) (Nat.zero_le _) (fun j hj => by omega) aw
  · exact ⟨.bl true, H', M.back G, rfl, q1 H' ht G.w⟩
  · exact ⟨.bl false, H', M.back G, rfl, q2 j H' hj hf G.w⟩
theorem pe_sumX {c P : Addr} {p pos : Pos} {k : Nat} (hr : Room k X.A) (hc : X.calm = true) (hN : X.N.Nodup) (hg : Gl X "sum") (hm : X.mg "sum" = none) (hb : bootBuiltins "sum" = some (.builtin "sum")) (TB : GxR.TabB X.base X.mg c P) (hcode : X.env.code = .ref c)
    (hco : scope.isCoroutine = false) (hcell : ∀ y ∈ scope.names, y.2 ≠ .cell) (hdot : scope.names.lookup (".0" : Str) = some NameKind.local) (ok : BlkOk X.N X.env.scope scope own) (hi : PI X tg iter wi) (hs : ∀ v, genFold iter X.env v = pure v)
    (hpg : ∀ (s : Shared) (H : Hp) (C : Addr) (code : Value) (cl : List (Str × Addr)) (fp : List Addr) (pn : List (Addr × Obj)), PG (gfx X X.A.in1.in1 s H (genEnv scope cl C code builtinsNs X.env) fp pn) tg g)
    (hpe : ∀ (s : Shared) (H : Hp) (C : Addr) (code : Value) (cl : List (Str × Addr)) (fp : List Addr) (pn : List (Addr × Obj)), PE (gfx X X.A.in1.in1 s H (genEnv scope cl C code builtinsNs X.env) fp pn) elt te)
    (he : starEach [.GeneratorExp elt [⟨tg, iter, [], 0⟩] scope gpos] X.env = (false, eval (.GeneratorExp elt [⟨tg, iter, [], 0⟩] scope gpos) X.env) :: starEach [] X.env := by rfl) :
    PE X (.Call (.Name "sum" p) [.GeneratorExp elt [⟨tg, iter, [], 0⟩] scope gpos] [] pos) (tSumX P wi g te (own.map (·.2))) := by
  refine ⟨fun pins s σ H Q I h => ?_⟩
  refine wpAny_Call_Name_kw (ld_blt I hg hm hb (PyProof.Rows.callWith_builtin1 ?_ he (by rfl)))
  rw [he]
  show wpAny _ _ (spliced ((false, eval (.GeneratorExp elt [⟨tg, iter, [], 0⟩] scope gpos) X.env) :: backTo pos (starEach [] X.env))) _ _ s
  refine Calls.spliced_cons (gen_mk hr TB hcode hco hcell hdot ok hi hs I h fun J H2 s3 fp it tn cenv a go gn s5 hR M => ?_)
  obtain ⟨n₀, vi, W, w0, turn, hfit, q1⟩ := hR
  obtain ⟨code, hce⟩ := M.env
  have fr : X.A.in1.in1.frames = some X.stack := I.ok.frames
  refine Calls.spliced_nil ?_
  refine call_function_tree PySem.F.kind_sum PySem.F.plain_sum PySem.F.entry_sum (PySem.F.args_sum1 _) ?_
  unfold Builtin.«sum»
  simp only [List.length_cons, List.length_nil]
  rw [if_neg (by decide)]
  refine wpAny_bind (wpAny_of_eq (show Builtin.Builtins.bindParams "sum" ["start"] 0 { } = pure [none] from rfl) ?_)
  refine wpAny_bind (wpAny_pyIter_gen (M.isg _ M.obj) ?_)
  refine wpAny_bind (wpAny_mkInt ?_)
  refine wpAny_bind (wpAny_pure ?_)
  simp only [List.forIn_cons, List.forIn_nil]
  refine wpAny_bind (wpAny_bind (wpAny_bind (wpAny_isInstance (T := "int") (b := false) (typeIs_int _ _ _) PySem.sub_int_str ?_)))
  simp only [Bool.false_eq_true, if_false]
  refine wpAny_pure (wpAny_bind (wpAny_bind (wpAny_isInstance (T := "int") (b := false) (typeIs_int _ _ _) PySem.sub_int_bytes ?_)))
  simp only [Bool.false_eq_true, if_false]
  refine wpAny_pure (wpAny_bind (wpAny_bind (wpAny_isInstance (T := "int") (b := false) (typeIs_int _ _ _) PySem.sub_int_bytearray ?_)))
  simp only [Bool.false_eq_true, if_false]
  refine wpAny_pure (wpAny_pure ?_)
  refine wpAny_bind (wpAny_newObj_type ?_)
  refine wpAny_pure ⟨plainId_quiet PySem.F.plain_sum_loop _, ?_⟩
  obtain ⟨F, aw⟩ := M.awk (A' := X.A.in1.in1) (Ps := [s5.heap.objs.size]) (val := fun i => .int (vi i)) (s6 := { s5 with toks := s5.toks + 1, heap := s5.heap.push { cls := .type "list", dict := none, data := .seq #[.int 0 s5.toks] 0, slots := #[] } }) hc hN ok hcell hco hr.hd fr (by rw [hce]; exact hpg _ _ _ _ _ _ _) (by rw [hce]; exact hpe _ _ _ _ _ _ _) turn w0 rfl rfl
    (fun _ _ e => Heap.get?_push_of_some _ e) (fun b hb => by
      rw [List.mem_singleton.mp hb]
      exact ⟨Nat.le_refl _, _, Heap.get?_push_size _ rfl, fun v q => by cases q⟩)
  exact sum_gx (A := X.A) (go := go) rfl hr.hd (by have := hr.dp; omega) F M.turn.keep (List.mem_singleton.mpr rfl) M.isg (fun _ => rfl) hfit (fun s' t' H' G => ⟨.int _, H', M.back G, ⟨_, rfl⟩, q1 H' G.w⟩) n₀ 0 _ s5.toks 0 (Nat.sub_zero _) (Nat.zero_le _) aw (Heap.get?_push_size _ rfl)
end
end Wk

set_option Elab.async false
set_option linter.all false
set_option maxRecDepth 100000
set_option maxHeartbeats 3200000
/-! Sets of texts: set(list of texts), len, sorted. -/
namespace Wk
open PySem PySem.Spec PyProof.Rows L2
def strOf : Value → Str
  | .str k _ => k
  | _ => ⟨#[]⟩
theorem tail_perm (ep : Nat) (es : Array (Int × Value)) (t : SetTable) (b : Bool) : (Froz.tailTx ep es t b).1.toList.Perm es.toList := by
  unfold Froz.tailTx
  by_cases c : (!b && t.tooFull) = true
  · rw [if_pos c]; exact relayAll_perm _ _ _
  · rw [if_neg c]
theorem tail_ris (ep : Nat) (es : Array (Int × Value)) (t : SetTable) (b : Bool) (r : Ris t.place.toList) : Ris (Froz.tailTx ep es t b).2.2.place.toList := by
  unfold Froz.tailTx
  by_cases c : (!b && t.tooFull) = true
  · rw [if_pos c]; exact relayAll_ris _ _ _
  · rw [if_neg c]; exact r
theorem tail_led (ep : Nat) (es : Array (Int × Value)) (t : SetTable) (b : Bool) : (Froz.tailTx ep es t b).2.2.led = t.led := by
  unfold Froz.tailTx
  by_cases c : (!b && t.tooFull) = true
  · rw [if_pos c]; exact relayAll_led _ _ _
  · rw [if_neg c]
theorem addTx_perm (h : Int) (v : Value) (D : Froz.SD) : (Froz.addTx h v D).1.toList.Perm ((h, v) :: D.1.toList) := by
  have p := layNew_perm D.2.2 D.1 h v
  rw [Array.toList_push] at p
  exact (tail_perm _ _ _ _).trans (p.trans (List.perm_append_singleton (h, v) D.1.toList))
theorem off_ris {t : SetTable} (q : Ris t.place.toList) : Ris (if t.plain = true then { t with plain := false } else t).place.toList := by
  by_cases c : t.plain = true
  · rw [if_pos c]; exact q
  · rw [if_neg c]; exact q
theorem off_led (t : SetTable) : (if t.plain = true then { t with plain := false } else t).led = t.led := by
  by_cases c : t.plain = true
  · rw [if_pos c]
  · rw [if_neg c]
theorem addTx_ris (h : Int) (v : Value) (D : Froz.SD) (r : Ris D.2.2.place.toList) : Ris (Froz.addTx h v D).2.2.place.toList :=
  tail_ris _ _ _ _ (off_ris (layNew_ris D.2.2 D.1 h v r))
theorem addTx_led (h : Int) (v : Value) (D : Froz.SD) : (Froz.addTx h v D).2.2.led = D.2.2.led :=
  (tail_led _ _ _ _).trans ((off_led _).trans (layNew_led D.2.2 D.1 h v))
/-- the set of the texts l at a -/
structure TxR (P : Program) (w : World) (h : Heap) (a : Addr) (l : List Str) : Prop where
  ex : ∃ D : Froz.SD, h.get? a = some (Froz.sObj "set" D) ∧ Froz.TxOk P w D l ∧ Ris D.2.2.place.toList ∧ (w.params.followText "set-order" = true ∨ D.2.2.led = true) ∧ (D.1.toList.map fun e => strOf e.2).Perm l
  nd : l.Nodup
  sz : l.length < scanBound
section
variable {P : Program} {w : World} {A : Around} {E : Value → Shared → Prop} {s : Shared} {a : Addr} {l : List Str}
theorem TxR.at {h h' : Heap} (R : TxR P w h a l) (k : ∀ o, h.get? a = some o → h'.get? a = some o) : TxR P w h' a l := by
  obtain ⟨⟨D, e, r⟩, nd, sz⟩ := R
  exact ⟨⟨D, k _ e, r⟩, nd, sz⟩
theorem tx_fresh {h : Heap} (e : h.get? a = some { cls := .type "set", dict := none, data := .set #[] 0 (.fresh 0 0 (!w.params.followText "set-order")) }) : TxR P w h a [] := by
  refine ⟨⟨(#[], 0, .fresh 0 0 (!w.params.followText "set-order")), e, .nil rfl, List.Pairwise.nil, ?_, .nil⟩, .nil, by decide⟩
  show _ ∨ (!w.params.followText "set-order") = true
  cases w.params.followText "set-order"
  · exact .inr rfl
  · exact .inl rfl
/-- a text laid into it -/
theorem tx_add {k : Str} {u : Tok} {Q : Bool → Shared → Prop} (R : TxR P w s.heap a l) (hb : l.length + 1 < scanBound)
    (hQ : ∀ b h', Heap.SameBut a s.heap h' → TxR P w h' a (if k ∈ l then l else k :: l) → Q b { s with heap := h' }) : wpAny (model P w) A (setAddHashed a (.str k u) (hashStr w k)) Q E s := by
  obtain ⟨⟨D, ho, ok, ri, le, pm⟩, nd, sz⟩ := id R
  by_cases hk : k ∈ l
  · have q := hQ false s.heap (Heap.SameBut.refl a s.heap) (by rw [if_pos hk]; exact R)
    have hkey : (strKind P w).is k (.str k u) = true := Froz.is_str k u
    have hfound : ∃ j, List.findIdx? (fun e => (strKind P w).is k e.2) D.1.toList = some j := by
      cases hr : List.findIdx? (fun e => (strKind P w).is k e.2) D.1.toList with
      | some j => exact ⟨j, rfl⟩
      | none =>
        obtain ⟨e, he, z⟩ := (ok.mem k).mp hk
        have c := List.findIdx?_eq_none_iff.mp hr e he
        rw [z] at c; cases c
    obtain ⟨j, hj⟩ := hfound
    have hbs : D.1.size < scanBound := by rw [ok.sz]; exact sz
    unfold setAddHashed setAddHashedIn
    refine wpAny_holding (wpAny_bind (wpAny_setState_of ho rfl ok.fit ?_))
    dsimp only
    rw [byScan_of rfl hbs ok.el]
    simp only [↓reduceIte]
    unfold setAddByScan
    refine wpAny_bind ?_
    refine wpAny_bind (wpAny_rule ?_)
    refine wpAny_bind (wpAny_setScan_of (knd := strKind P w) (k := k) hkey ho rfl ok.fit ok.el ?_)
    rw [hj]
    dsimp only
    exact wpAny_pure (wpAny_pure q)
  · refine Froz.add_x ho ok hk hb (hQ true _ (Heap.SameBut.update ..) ?_)
    rw [if_neg hk]
    refine ⟨⟨_, Froz.get_upd _ ho rfl, Froz.add_ok u ok, addTx_ris _ _ _ ri, le.imp id fun z => by rw [addTx_led]; exact z, ?_⟩, List.nodup_cons.mpr ⟨hk, nd⟩, hb⟩
    exact ((addTx_perm (hashStr w k) (.str k u) D).map _).trans (List.Perm.cons _ pm)
theorem tx_loop {I : Addr} {fp wr : List Addr} {G : Array GenState → Array GenState → Prop} {n : Nat} {Pv : Nat → Value → Prop} {St : Nat → Shared → Prop} {R : Result → Shared → Prop}
    (W : WalksS P w A.in1 I fp wr G n Pv St) (S : Addr) (hSf : S ∉ fp) (xs : List Str) (hn : n = xs.length) (hval : ∀ i v, Pv i v → ∃ x t, xs[i]? = some x ∧ v = .str x t) (hb : xs.length + 1 < scanBound) :
    ∀ (k i : Nat) (s : Shared) (l : List Str), n - i = k → i ≤ n → St i s → TxR P w s.heap S l → l.length ≤ i → (∀ x, x ∈ l ↔ x ∈ xs.take i) →
      (∀ s' l', Moved (S :: wr) G s s' → TxR P w s'.heap S l' → l'.length ≤ n → (∀ x, x ∈ l' ↔ x ∈ xs) → R (.ok (.ret .none)) s') →
      codeAny (model P w) A (.builtin "set.update.loop" ⟨[.ref S, .ref I], []⟩) R s := by
  have hSw : S ∉ wr := fun h => hSf (W.sub _ h)
  have hsub : ∀ b ∈ wr, b ∈ S :: wr := fun b hb => List.mem_cons_of_mem _ hb
  intro k
  induction k with
  | zero =>
    intro i s l hk hi hst hT hl hm hR
    have hin : i = n := by omega
    subst hin
    refine codeAny_builtin PyProof.Rows.F.entry_set_update_loop ?_
    rw [Around.under_plainId PyProof.Rows.F.plain_set_update_loop _]
    show wpAny _ A.in1 (pyNext (.ref I) >>= _) _ _ s
    refine wpAny_bind (W.done s _ _ hst fun s' mv => ?_)
    show wpAny _ A.in1 (ret Value.none) _ _ s'
    refine wpAny_pure (hR s' l (mv.mono hsub) (hT.at fun o e => mv.heap S o hSw e) hl fun x => ?_)
    rw [hm x, hn, List.take_length]
  | succ k ih =>
    intro i s l hk hi hst hT hl hm hR
    have hlt : i < n := by omega
    refine codeAny_builtin PyProof.Rows.F.entry_set_update_loop ?_
    rw [Around.under_plainId PyProof.Rows.F.plain_set_update_loop _]
    show wpAny _ A.in1 (pyNext (.ref I) >>= _) _ _ s
    refine wpAny_bind (W.item i s _ _ hlt hst fun v s' hP hst' mv => ?_)
    obtain ⟨x, t, hx, rfl⟩ := hval i v hP
    have hT' : TxR P w s'.heap S l := hT.at fun o e => mv.heap S o hSw e
    show wpAny _ A.in1 (holding [Value.str x t] (setAdd S (.str x t)) >>= _) _ _ s'
    refine wpAny_bind (wpAny_holding ?_)
    unfold setAdd
    refine wpAny_holding ?_
    refine wpAny_bind ((strKind P w).pyHash (Froz.is_str x t) ?_)
    refine tx_add (s := { s' with toks := s'.toks + 1 }) hT' (by omega) fun b h' hsb hT2 => ?_
    refine wpAny_pure ⟨plainId_quiet PyProof.Rows.F.plain_set_update_loop _, ih (i + 1) _ _ (by omega) hlt (W.frame _ s' _ _ hst' (Nat.le_add_right _ _) fun b hb o e => ?_) hT2 ?_ (fun y => ?_) fun s'' l' mv' hT'' hl' hm' => ?_⟩
    · rw [hsb.2 b (fun h : b = S => hSf (by rw [← h]; exact hb))]; exact e
    · split
      · omega
      · rw [List.length_cons]; omega
    · have e : xs.take (i + 1) = xs.take i ++ [x] := by
        rw [List.take_succ, hx]; rfl
      rw [e, List.mem_append, List.mem_singleton, ← hm y]
      split
      · rename_i c
        exact ⟨.inl, fun z => z.elim id fun z => z ▸ c⟩
      · rw [List.mem_cons]; exact Or.comm
    · refine hR s'' l' (Moved.trans W.gtrans ((mv.mono hsub).then_heap (Nat.le_add_right _ _) fun b o hb e => ?_) mv') hT'' hl' hm'
      rw [hsb.2 b (fun h : b = S => hb (by rw [h]; exact List.mem_cons_self))]; exact e
end
end Wk

set_option Elab.async false
set_option linter.all false
set_option maxRecDepth 100000
set_option maxHeartbeats 3200000
namespace Wk
open PySem PySem.Spec PyProof.Rows L2
abbrev set0 (w : World) : Obj := { cls := .type "set", dict := none, data := .set #[] 0 (.fresh 0 0 (!w.params.followText "set-order")) }
theorem strs_get : ∀ {vs : List Value} {xs : List Str}, StrsAre vs xs → ∀ (i : Nat) (v : Value), vs[i]? = some v → ∃ x t, xs[i]? = some x ∧ v = .str x t
  | _, _, .nil, i, v, h => by simp at h
  | _, _, .cons x t r, 0, v, h => by
    simp at h
    exact ⟨x, t, rfl, h.symm⟩
  | _, _, .cons x t r, i + 1, v, h => by
    simp at h
    obtain ⟨y, u, h1, h2⟩ := strs_get r i v h
    exact ⟨y, u, by simpa using h1, h2⟩
theorem strs_len : ∀ {vs : List Value} {xs : List Str}, StrsAre vs xs → vs.length = xs.length
  | _, _, .nil => rfl
  | _, _, .cons x t r => by simp [strs_len r]
section
variable {P : Program} {w : World} {A : Around} {E : Value → Shared → Prop} {s : Shared}
/-- set(a list of texts) -/
theorem call_setTx {l : Addr} {items : Array Value} (xs : List Str) {Q : Value → Shared → Prop} (hh : A.handled = none) (hl : s.heap.IsList l items) (hit : StrsAre items.toList xs) (hb : xs.length + 1 < scanBound)
    (h : ∀ h' tk L, TxR P w h' s.heap.objs.size L → (∀ x, x ∈ L ↔ x ∈ xs) → L.length ≤ xs.length → (∀ b o, s.heap.get? b = some o → h'.get? b = some o) → Q (.ref s.heap.objs.size) { s with heap := h', toks := tk }) :
    wpAny (model P w) A (call (.type "set") [.ref l]) Q E s := by
  have hisz : items.size = xs.length := by rw [← strs_len hit, Array.length_toList]
  obtain ⟨c, tl, hmro⟩ := PySem.F.called_set.mro
  have hmade := PySem.F.called_set.made
  have hsub := PySem.F.called_set.sub
  refine wpAny_call (codeAny_of_tree ?_)
  show wpAny _ _ (callAny (.type "set") _) _ _ _
  refine wpAny_pure ⟨Code.quiet_builtin _ (by decide +kernel), codeAny_builtin PySem.F.entry_type_call ?_⟩
  rw [Around.under_plain (weight_type_call_type "set" [.ref l] []) rfl]
  have h1 := PySem.F.called_set.notType
  have h2 := PySem.F.called_set.canCreate
  have hct := PySem.F.typeCall_set_1 (.ref l)
  have hS : (s.heap.push (set0 w)).get? s.heap.objs.size = some (set0 w) := Heap.get?_push_size _ rfl
  repeat (any_goals (first | assumption | wp_step))
  refine codeAny_mono (code_set_led1 (.ref l) (E := E) (Q₁ := fun obj s₁ => obj = .ref s.heap.objs.size ∧ s₁ = { s with heap := s.heap.push (set0 w) }) ⟨rfl, rfl⟩) fun r s₁ hr => ?_
  cases r with
  | error e => exact hr
  | ok fl =>
    cases fl with
    | ret obj =>
      obtain ⟨rfl, rfl⟩ := hr
      have hT : Shared.TypeIs { s with heap := s.heap.push (set0 w) } (.ref s.heap.objs.size) "set" := ⟨_, hS, rfl⟩
      have hli := PySem.F.called_set.init.lookup
      have hbi := PySem.F.called_set.init.bind (.ref s.heap.objs.size)
      repeat (any_goals (first | assumption | wp_step))
      refine codeAny_mono (codeAny_call_builtin (R := wants (fun r s₂ => r = .none ∧ ∃ h' tk L, s₂ = { s with heap := h', toks := tk } ∧ TxR P w h' s.heap.objs.size L ∧ (∀ x, x ∈ L ↔ x ∈ xs) ∧ L.length ≤ xs.length ∧
          (∀ b o, s.heap.get? b = some o → h'.get? b = some o)) E) PySem.F.called_set.init.plain PySem.F.entry_set_init (check_set_init_1 hT ?_)) fun r₂ s₂ hr₂ => ?_
      · obtain ⟨ol, hol, hcl, nl, hdl⟩ := hl
        obtain ⟨ocls, odict, odata, oslots⟩ := ol
        simp only at hcl hdl
        subst hcl; subst hdl
        have hol' : (s.heap.push (set0 w)).get? l = some { cls := .type "list", dict := odict, data := .seq items nl, slots := oslots } := Heap.get?_push_of_some _ hol
        have hsls := PySem.F.sub_list_set
        have hslf := PySem.F.sub_list_frozenset
        have hne : (Value.type "list" == Value.type "dict") = false := by decide
        have hl1 : (s.heap.push (set0 w)).IsList l items := ⟨_, hol', rfl, nl, rfl⟩
        unfold Builtin.«set.__init__» noKeywords Builtin.Frozenset.updateFrom
        generalize hPI : pyIter = PI
        wp_walk
        subst hPI
        refine wpAny_pyIter_list hl1 (wpAny_bind (wpAny_runValue ?_))
        have hlS : l < s.heap.objs.size := Heap.lt_size hol
        have hh3 : A.in1.in1.in1.handled = none := hh
        have hz : (s.heap.push (set0 w)).objs.size = s.heap.objs.size + 1 := Heap.size_push ..
        have hneI : l ≠ (s.heap.push (set0 w)).objs.size := by rw [hz]; exact Nat.ne_of_lt (Nat.lt_succ_of_lt hlS)
        have hSf : s.heap.objs.size ∉ [(s.heap.push (set0 w)).objs.size, l] := fun z => by
          rw [hz] at z
          rcases List.mem_cons.mp z with z | z
          · exact absurd z (Nat.ne_of_lt (Nat.lt_succ_self _))
          · exact absurd (List.mem_singleton.mp z) (Nat.ne_of_gt hlS)
        refine tx_loop ((Walks.list hh3 _ l hneI items).toS) s.heap.objs.size hSf xs hisz (fun i v hv => strs_get hit i v (by rw [Array.getElem?_toList]; exact hv)) hb (items.size - 0) 0 _ [] (by omega) (Nat.zero_le _)
          ⟨⟨_, Heap.get?_push_size _ rfl, rfl, rfl⟩, hl1.push _⟩ (tx_fresh (Heap.get?_push_of_some _ hS)) (Nat.le_refl _) (fun x => by simp) fun s' L hm hT' hL hmem => ?_
        obtain ⟨h', g2, d', tk', os'⟩ := s'
        have eg : g2 = s.gens := hm.gens
        have ed : d' = s.drawn := hm.drawn
        have eo : os' = s.os := hm.os
        subst eg; subst ed; subst eo
        refine wpAny_pure ?_
        show wpAny _ _ (ret Value.none) _ _ _
        refine wpAny_pure ⟨rfl, h', tk', L, rfl, hT', hmem, by rw [← hisz]; exact hL, fun b o e => ?_⟩
        have hbl : b < s.heap.objs.size := Heap.lt_size e
        refine hm.heap b o (fun z => ?_) (Heap.get?_push_of_some _ (Heap.get?_push_of_some _ e))
        rcases List.mem_cons.mp z with z | z
        · exact absurd hbl (by rw [z]; exact Nat.lt_irrefl _)
        · have z := List.mem_singleton.mp z
          exact absurd hbl (by rw [z]; exact Nat.not_lt_of_le (by rw [hz]; exact Nat.le_succ _))
      · cases r₂ with
        | error e => exact hr₂
        | ok fl₂ =>
          cases fl₂ with
          | ret r =>
            obtain ⟨rfl, h', tk, L, rfl, hT', hmem, hL, hk'⟩ := hr₂
            repeat (any_goals (first | assumption | wp_step))
            exact h _ _ _ hT' hmem hL hk'
          | _ => exact hr₂.elim
    | _ => exact hr.elim
/-- sorted of it -/
theorem sorted_tx {a : Addr} {l : List Str} {Q : Value → Shared → Prop} (R : TxR P w s.heap a l) (hh : A.handled = none) (h64 : l.length < 64)
    (hQ : ∀ s' p (out : Array Value) (c : Nat) (ys : List Str), (∀ b o, s.heap.get? b = some o → s'.heap.get? b = some o) → s'.gens = s.gens → s'.os = s.os → s.heap.objs.size ≤ p →
      s'.heap.get? p = some (seqObj "list" out c) → StrsAre out.toList ys → ys.Perm l → sortedS ys = true → Q (.ref p) s') :
    wpAny (model P w) A (call (.builtin "sorted") [.ref a]) Q E s := by
  obtain ⟨⟨D, ho, ok, ri, le, pm⟩, nd, sz⟩ := R
  have str : ∀ e ∈ D.1.toList, ∃ t, e.2 = Value.str (strOf e.2) t := fun e he => by
    obtain ⟨⟨k, h1, _⟩, _⟩ := ok.el e he
    obtain ⟨t, q⟩ := Value.isStrOf_shape (x := k) (v := e.2) h1
    rw [q]
    exact ⟨t, rfl⟩
  refine Calls.call_function_entry PyProof.Rows.kind_sorted PyProof.Rows.plain_sorted PyProof.Rows.entry_sorted (PyProof.Rows.args_sorted1 _) ?_
  unfold Builtin.«sorted»
  refine wpAny_bind (m := checkCount "sorted" 1 1 _) (wpAny_pure ?_)
  refine wpAny_bind (collect_set (A := A.in1) hh ⟨_, ho, rfl, rfl⟩ ok.fit (by rw [ok.sz]; exact sz) ri le fun s1 vs k1 hz g1 o1 pv => ?_)
  have all : ∀ (us : List Value), (∀ v ∈ us, ∃ t, v = Value.str (strOf v) t) → StrsAre us (us.map strOf) := by
    intro us
    induction us with
    | nil => intro _; exact .nil
    | cons v us ih =>
      intro hu
      obtain ⟨t, e⟩ := hu v List.mem_cons_self
      have r := ih fun u hu' => hu u (List.mem_cons_of_mem _ hu')
      rw [e]
      exact .cons _ t r
  have hS : StrsAre vs (vs.map strOf) := all vs fun v hv => by
    obtain ⟨e, he, q⟩ := List.mem_map.mp (pv.mem_iff.mp hv)
    rw [← q]
    exact str e he
  have pl : (vs.map strOf).Perm l := by
    have q := pv.map strOf
    rw [List.map_map] at q
    exact q.trans pm
  have hal : vs.length = l.length := by rw [← pl.length_eq, List.length_map]
  refine wpAny_bind (wpAny_newList ?_ (by rw [hal, sizeLine_eq]; omega))
  have hoL : (s1.heap.push (seqObj "list" vs.toArray 0)).get? s1.heap.objs.size = some (seqObj "list" vs.toArray 0) := Heap.get?_push_size _ rfl
  refine wpAny_bind (wpAny_holding (wpAny_call_entry PyProof.Rows.slot_list_sort ⟨_, hoL, rfl⟩ PyProof.Rows.entry_list_sort
    (list_sort_treeK strKind_oneLt hoL hS.keysOf (fun v₁ v₂ rest e => keyKind_strs (by rw [← e]; exact hS)) (by rw [hal]; exact h64) fun st' hp hs => ⟨_, rfl, ?_⟩)
    (PyProof.Rows.args_list_sort _)))
  obtain ⟨ys, y1, y2, y3⟩ := sorted_out_str hS hp hs
  obtain ⟨e', he'⟩ := PyProof.Rows.sortedHeap_at (vs := vs) (out := (arrOf st').map (·.2)) hoL
  refine wpAny_pure ⟨_, rfl, hQ _ s1.heap.objs.size _ e' ys (fun b u e => ?_) g1 o1 hz he' y1 (y2.trans pl) y3⟩
  have q := k1 b u e
  have hlt := Heap.lt_size q
  show (sortedHeap (s1.heap.push (seqObj "list" vs.toArray 0)) s1.heap.objs.size vs ((arrOf st').map (·.2))).get? b = some u
  rw [sortedHeap_old (Nat.ne_of_lt hlt) (by rw [size_push']; exact Nat.lt_succ_of_lt hlt)]
  exact Heap.get?_push_of_some _ q
end
end Wk

set_option Elab.async false
set_option linter.all false
set_option maxRecDepth 100000
set_option maxHeartbeats 3200000
namespace Wk
open PySem PySem.Spec PyProof.Rows L2
/-- the set of the texts l at a, tracked -/
def TxO (P : Program) (w : World) (a : Addr) (l : List Str) : HO := .ext fun h => TxR P w h a l
section
variable {X : Cx}
theorem txO_new {P : Program} {w : World} {H : Hp} {h : Heap} {a : Addr} {l : List Str} (R : TxR P w h a l) : ObjOk P w H h a (TxO P w a l) := by
  have ⟨⟨D, ho, _⟩, _, _⟩ := R
  exact ⟨R, ⟨_, ho⟩, fun h1 h2 p k => TxR.at p k⟩
theorem txO_get {pins : List (Addr × Obj)} {σ : L2.St} {H : Hp} {s : Shared} {a : Addr} {l : List Str} (I : Inv X pins σ H s) (ha : H a = some (TxO X.prog X.w a l)) : TxR X.prog X.w s.heap a l := (I.hok a _ ha).1
/-- set(a list of texts) -/
def rSetTx (K : PySem.W.Frag) (P : Program) (w : World) : List V → Hp → VK → Prop := fun xs H Q => ∃ (l : Addr) (ts : List Str), xs = [V.ref l] ∧ SqL K H l (ts.map V.str) ∧ ts.length + 1 < scanBound ∧
  ∀ (p : Addr) (L : List Str), H p = none → L.Nodup → (∀ x, x ∈ L ↔ x ∈ ts) → L.length ≤ ts.length → Q (.ref p) (upd H p (TxO P w p L))
theorem cr_setTx (hc : X.calm = true) : CallR X (.type "set") (rSetTx X.K X.prog X.w) := by
  intro pins s σ H xs us Q I r h
  obtain ⟨l, ts, rfl, hl, hb, q⟩ := h
  rw [Vals.ref1 r]
  obtain ⟨its, ri, pl, hz⟩ := I.list hl
  refine call_setTx ts (I.ok.hd hc) pl.isList (by simpa using strsAre_of ri) hb fun h' tk L hT hm hL hk => ?_
  have hn : H s.heap.objs.size = none := I.hok.fresh (Nat.le_refl _)
  exact ⟨.ref _, upd H s.heap.objs.size (TxO X.prog X.w s.heap.objs.size L), I.laid (t' := tk) hk (Nat.le_refl _) (txO_new hT), rfl, q _ L hn hT.nd hm hL⟩
/-- len of it -/
def rLenTx (P : Program) (w : World) : List V → Hp → VK → Prop := fun xs H Q => ∃ (a : Addr) (l : List Str), xs = [V.ref a] ∧ H a = some (TxO P w a l) ∧ Q (.int (l.length : Nat)) H
theorem cr_lenTx : CallR X (.builtin "len") (rLenTx X.prog X.w) := by
  intro pins s σ H xs us Q I r h
  obtain ⟨a, l, rfl, ha, q⟩ := h
  rw [Vals.ref1 r]
  obtain ⟨⟨D, ho, ok, ri, le, pm⟩, nd, sz⟩ := txO_get I ha
  refine call_len_set ho ⟨rfl, rfl, rfl⟩ rfl ok.fit (by
    have hb : scanBound ≤ 2 ^ 62 := by decide
    rw [ok.sz]
    omega) ⟨.int (l.length : Nat), H, I.tok _, ⟨_, by rw [ok.sz]⟩, q⟩
/-- sorted of it -/
def rSortedTx (P : Program) (w : World) : List V → Hp → VK → Prop := fun vs H Q => ∃ (a : Addr) (l : List Str), vs = [V.ref a] ∧ H a = some (TxO P w a l) ∧ l.length < 64 ∧
  ∀ (ys : List Str) (p : Addr), ys.Perm l → sortedS ys = true → H p = none → Q (.ref p) (upd H p (.lst (ys.map V.str)))
theorem vals_of_strs : ∀ {us : List Value} {ys : List Str}, StrsAre us ys → Vals (ys.map V.str) us
  | _, _, .nil => .nil
  | _, _, .cons y t r => .cons ⟨t, rfl⟩ (vals_of_strs r)
theorem cr_sortedTx (hc : X.calm = true) : CallR X (.builtin "sorted") (rSortedTx X.prog X.w) := by
  intro pins s σ H vs us Q I r h
  obtain ⟨a, l, rfl, ha, h64, q⟩ := h
  rw [Vals.ref1 r]
  refine sorted_tx (txO_get I ha) (I.ok.hd hc) h64 fun s' p out c ys k g o hp hg hi hs hm => ?_
  have hlen : (ys.map V.str).length ≤ sizeLine := by rw [List.length_map, hs.length_eq, sizeLine_eq]; omega
  have hn : H p = none := I.hok.fresh hp
  have J : Inv X pins σ (upd H p (.lst (ys.map V.str))) s' := I.call' (s' := s') (ch := []) o (Un.laid k hp hn) (I.hok.laid k hp ⟨hlen, out.toList, c, vals_of_strs hi, hg⟩) (by rw [g]; exact I.bare) (fun _ z => nomatch z)
  exact ⟨.ref p, _, J, rfl, q ys p hs hm hn⟩
end
end Wk

set_option Elab.async false
set_option linter.all false
set_option maxRecDepth 100000
set_option maxHeartbeats 3200000
namespace Wk
open PySem PySem.Spec PyProof.Rows L2
theorem forIn_same {α β : Type} {M : Model} {A : Around} {E : Value → Shared → Prop} {f : α → β → Sem (ForInStep β)} {b : β} {Q : β → Shared → Prop} {s : Shared} :
    ∀ (l : List α), (∀ x ∈ l, ∀ (R : ForInStep β → Shared → Prop), R (.yield b) s → wpAny M A (f x b) R E s) → Q b s → wpAny M A (forIn l b f) Q E s
  | [], _, hQ => by
    rw [List.forIn_nil]
    exact wpAny_pure hQ
  | x :: l, hf, hQ => by
    rw [List.forIn_cons]
    refine wpAny_bind (hf x List.mem_cons_self _ ?_)
    exact forIn_same l (fun y hy => hf y (List.mem_cons_of_mem _ hy)) hQ
section
variable {P : Program} {w : World} {A : Around} {E : Value → Shared → Prop} {s : Shared}
theorem quiet_at {sets : List Addr} {Q : Bool → Shared → Prop} (h : ∀ a ∈ sets, ∃ o es ep t, s.heap.get? a = some o ∧ o.data = .set es ep t ∧ t.fits es.size = true ∧ ∀ e ∈ es.toList, ∃ k u, e.2 = Value.str k u) (hQ : Q true s) :
    wpAny (model P w) A (setsQuiet sets) Q E s := by
  unfold setsQuiet
  refine wpAny_bind (forIn_same sets (fun a ha R hR => ?_) ?_)
  · obtain ⟨o, es, ep, t, ho, hd, hf, hs⟩ := h a ha
    refine wpAny_bind (wpAny_setEntries_of ho hd hf ?_)
    rw [← Array.forIn_toList]
    refine wpAny_bind (forIn_same es.toList (fun e he R' hR' => ?_) ?_)
    · obtain ⟨k, u, e2⟩ := hs e he
      obtain ⟨e1, v⟩ := e
      have e2 : v = Value.str k u := e2
      subst e2
      exact wpAny_pure hR'
    · exact wpAny_pure hR
  · exact wpAny_pure hQ
variable {a : Addr} {l : List Str}
theorem TxR.strs {h : Heap} (R : TxR P w h a l) : ∃ o es ep t, h.get? a = some o ∧ o.data = .set es ep t ∧ t.fits es.size = true ∧ ∀ e ∈ es.toList, ∃ k u, e.2 = Value.str k u := by
  obtain ⟨⟨D, ho, ok, _⟩, _, _⟩ := R
  refine ⟨_, _, _, _, ho, rfl, ok.fit, fun e he => ?_⟩
  obtain ⟨⟨k, h1, _⟩, _⟩ := ok.el e he
  obtain ⟨t, q⟩ := Value.isStrOf_shape (x := k) (v := e.2) h1
  exact ⟨k, t, q⟩
/-- its entries: the texts l in some order, with their hashes -/
def Ents (w : World) (l : List Str) (es : List (Int × Value)) : Prop := (es.map fun e => strOf e.2).Perm l ∧ ∀ e ∈ es, ∃ k u, e.2 = Value.str k u ∧ e.1 = hashStr w k
theorem TxR.ents {h : Heap} (R : TxR P w h a l) : ∃ D : Froz.SD, h.get? a = some (Froz.sObj "set" D) ∧ Froz.TxOk P w D l ∧ Ris D.2.2.place.toList ∧ (w.params.followText "set-order" = true ∨ D.2.2.led = true) ∧ (D.1.toList.map fun e => strOf e.2).Perm l ∧ Ents w l D.1.toList := by
  obtain ⟨⟨D, ho, ok, ri, le, pm⟩, _, _⟩ := R
  refine ⟨D, ho, ok, ri, le, pm, pm, fun e he => ?_⟩
  obtain ⟨⟨k, h1, h2⟩, _⟩ := ok.el e he
  obtain ⟨t, q⟩ := Value.isStrOf_shape (x := k) (v := e.2) h1
  exact ⟨k, t, q, h2⟩
theorem Ents.perm {es es' : List (Int × Value)} (x : Ents w l es) (p : es'.Perm es) : Ents w l es' := ⟨(p.map _).trans x.1, fun e he => x.2 e (p.mem_iff.mp he)⟩
theorem walk_tx {Q : Array (Int × Value) → Shared → Prop} (R : TxR P w s.heap a l) (hQ : ∀ (out : Array (Int × Value)) d, Ents w l out.toList → Q out { s with drawn := d }) : wpAny (model P w) A (setWalk a) Q E s := by
  obtain ⟨D, ho, ok, ri, le, pm, en⟩ := R.ents
  obtain ⟨es, ep, t⟩ := D
  unfold setWalk
  refine wpAny_bind (wpAny_setState_of ho rfl ok.fit ?_)
  dsimp only
  refine wpAny_bind (wpAny_byText ?_)
  by_cases bt : w.params.followText "set-order" = true
  · refine wp_if_pos bt ?_
    exact wpAny_bind (wpAny_askSetting (wpAny_pure (hQ _ s.drawn (en.perm (pick_perm _ _)))))
  · refine wp_if_neg bt ?_
    have hl : t.led = true := le.resolve_left bt
    by_cases dr : (!t.plain && decide (es.size > 1)) = true
    · refine wp_if_pos dr ?_
      refine wpAny_bind (drawOrder_at _ _ _ _ (by rw [Array.length_toList]; exact Nat.le_refl _) fun ys d p => wpAny_pure (hQ _ d (en.perm (by simpa using p))))
    · refine wp_if_neg dr ?_
      refine wpAny_bind (wpAny_of_eq (a := ()) ?_ ?_)
      · show (if (!t.led && decide (es.size > 1)) = true then unsupported "set:maker-not-led" else pure ()) = pure ()
        rw [hl] <;> rfl
      · exact wpAny_pure (hQ es s.drawn en)
end
end Wk

set_option Elab.async false
set_option linter.all false
set_option maxRecDepth 100000
set_option maxHeartbeats 3200000
namespace Wk
open PySem PySem.Spec PyProof.Rows L2
theorem forIn_acc {α β : Type} {M : Model} {A : Around} {E : Value → Shared → Prop} {f : α → β → Sem (ForInStep β)} {b : β} {Q : β → Shared → Prop} (J : List α → Shared → Prop) :
    ∀ (l done : List α) (s : Shared), J done s → (∀ x ∈ l, ∀ done s, J done s → wpAny M A (f x b) (fun st s' => st = .yield b ∧ J (done ++ [x]) s') E s) → (∀ s', J (done ++ l) s' → Q b s') → wpAny M A (forIn l b f) Q E s
  | [], done, s, hJ, _, hQ => by
    rw [List.forIn_nil]
    exact wpAny_pure (hQ s (by rw [List.append_nil]; exact hJ))
  | x :: l, done, s, hJ, hf, hQ => by
    rw [List.forIn_cons]
    refine wpAny_bind (wpAny_mono (hf x List.mem_cons_self done s hJ) (fun st s' ⟨e, hJ'⟩ => ?_) fun _ _ z => z)
    subst e
    exact forIn_acc J l (done ++ [x]) s' hJ' (fun y hy => hf y (List.mem_cons_of_mem _ hy)) fun s'' z => hQ s'' (by rw [List.append_assoc] at z; exact z)
theorem sub_len : ∀ (l D : List Str), l.Nodup → (∀ x ∈ l, x ∈ D) → l.length ≤ D.length
  | [], D, _, _ => Nat.zero_le _
  | x :: l, D, nd, hs => by
    obtain ⟨h1, h2⟩ := List.nodup_cons.mp nd
    have hx : x ∈ D := hs x List.mem_cons_self
    have q := sub_len l (D.erase x) h2 fun y hy => (List.mem_erase_of_ne (show y ≠ x from fun e => h1 (e ▸ hy))).mpr (hs y (List.mem_cons_of_mem _ hy))
    have e := List.length_erase_of_mem hx
    have p := List.length_pos_of_mem hx
    rw [List.length_cons]
    omega
section
variable {P : Program} {w : World} {A : Around} {E : Value → Shared → Prop} {s : Shared} {a b r : Addr} {la lb lr : List Str}
theorem unseen_tx {Q : Array (Int × Value) → Shared → Prop} (Ra : TxR P w s.heap a la) (Rb : TxR P w s.heap b lb) (Rr : TxR P w s.heap r lr)
    (hQ : ∀ (out : Array (Int × Value)) h' d, Heap.SameBut r s.heap h' → TxR P w h' r lr → Ents w la out.toList → Q out { s with heap := h', drawn := d }) : wpAny (model P w) A (setWalkUnseen a [b, r] (some r)) Q E s := by
  obtain ⟨D, ho, ok, ri, le, pm, en⟩ := Ra.ents
  obtain ⟨es, ep, t⟩ := D
  obtain ⟨D2, ho2, ok2, ri2, le2, pm2, en2⟩ := Rr.ents
  obtain ⟨ef, ep2, tf⟩ := D2
  unfold setWalkUnseen
  refine wpAny_bind (wpAny_setState_of ho rfl ok.fit ?_)
  dsimp only
  refine wpAny_bind (wpAny_byText ?_)
  by_cases c1 : (w.params.followText "set-order" || t.led && t.plain || decide (es.size ≤ 1)) = true
  · refine wp_if_pos c1 ?_
    exact walk_tx Ra fun out d e => hQ out s.heap d (Heap.SameBut.refl r s.heap) Rr e
  · refine wp_if_neg c1 ?_
    have bt : ¬ w.params.followText "set-order" = true := fun z => c1 (by rw [z]; rfl)
    have hl : t.led = true := le.resolve_left bt
    have hl2 : tf.led = true := le2.resolve_left bt
    refine wpAny_bind (quiet_at (fun c hc => ?_) ?_)
    · rcases List.mem_cons.mp hc with z | z
      · rw [z]; exact Ra.strs
      · rcases List.mem_cons.mp z with z | z
        · rw [z]; exact Rb.strs
        · rw [List.mem_singleton.mp z]; exact Rr.strs
    · refine wp_if_neg (by simp) ?_
      refine wpAny_bind (wpAny_rule ?_)
      refine wpAny_bind (wpAny_setState_of ho2 rfl ok2.fit ?_)
      dsimp only
      by_cases c2 : (tf.led && !t.led || tf.plain && !t.plain) = true
      · refine wp_if_pos c2 ?_
        refine wpAny_bind (wpAny_storeSet_of ho2 rfl ?_ (fits_of_scanBound (by
          have z : ef.size = lr.length := ok2.sz
          rw [z]; exact Rr.sz)))
        have q := store_at (es' := ef) (t' := { tf with led := tf.led && t.led, plain := tf.plain && t.plain }) ho2 rfl
        refine wpAny_pure (hQ es _ s.drawn (Heap.SameBut.update ..) ⟨⟨(ef, ep2 + 1, { tf with led := tf.led && t.led, plain := tf.plain && t.plain }), q, ⟨ok2.el, ok2.mem, ok2.sz, ok2.fit⟩, ri2, .inr ?_, pm2⟩, Rr.nd, Rr.sz⟩ en)
        show (tf.led && t.led) = true
        rw [hl, hl2]; rfl
      · refine wp_if_neg c2 ?_
        exact wpAny_pure (hQ es s.heap s.drawn (Heap.SameBut.refl r s.heap) Rr en)
/-- the entries of the one that stand in the other, laid into r -/
theorem inter_loop {f : Int × Value → PUnit → Sem (ForInStep PUnit)} {es : List (Int × Value)} {Q : PUnit → Shared → Prop} (en : Ents w la es) (sz : la.length + 1 < scanBound) (Rr : TxR P w s.heap r [])
    (hf : ∀ (e1 : Int) (k : Str) (u : Tok) (s' : Shared) (L : List Str) (R : ForInStep PUnit → Shared → Prop), e1 = hashStr w k → (∃ h', s' = { s with heap := h' } ∧ Heap.SameBut r s.heap h') → TxR P w s'.heap r L → L.length + 1 < scanBound →
      (∀ h', Heap.SameBut r s'.heap h' → TxR P w h' r (if k ∈ lb then (if k ∈ L then L else k :: L) else L) → R (.yield ⟨⟩) { s' with heap := h' }) → wpAny (model P w) A (f (e1, .str k u) ⟨⟩) R E s')
    (hQ : ∀ h' L, Heap.SameBut r s.heap h' → TxR P w h' r L → (∀ x, x ∈ L ↔ x ∈ la ∧ x ∈ lb) → Q ⟨⟩ { s with heap := h' }) : wpAny (model P w) A (forIn es ⟨⟩ f) Q E s := by
  have hlen : es.length = la.length := by rw [← en.1.length_eq, List.length_map]
  refine forIn_acc (fun done s' => ∃ h' L, s' = { s with heap := h' } ∧ Heap.SameBut r s.heap h' ∧ TxR P w h' r L ∧ (∀ x, x ∈ L ↔ x ∈ done.map (fun e => strOf e.2) ∧ x ∈ lb) ∧ ∀ x ∈ L, x ∈ la) es [] s ⟨s.heap, [], rfl, Heap.SameBut.refl r s.heap, Rr, fun x => by simp, fun x hx => by cases hx⟩ ?_ ?_
  · rintro ⟨e1, v⟩ he done s' ⟨h', L, rfl, sb, RL, hm, hs⟩
    obtain ⟨k, u, h1, h2⟩ := en.2 _ he
    have h1 : v = .str k u := h1
    have h2 : e1 = hashStr w k := h2
    subst h1
    have kla : k ∈ la := en.1.mem_iff.mp (List.mem_map.mpr ⟨_, he, rfl⟩)
    have hL : L.length ≤ la.length := sub_len L la RL.nd hs
    by_cases hfull : L.length + 1 < scanBound
    · refine hf e1 k u _ L _ h2 ⟨h', rfl, sb⟩ RL hfull fun h'' sb' RL' => ⟨rfl, h'', _, rfl, sb.trans sb', RL', fun x => ?_, fun x hx => ?_⟩
      · rw [List.map_append, List.mem_append]
        show _ ↔ (x ∈ done.map _ ∨ x ∈ [k]) ∧ x ∈ lb
        rw [List.mem_singleton]
        by_cases c1 : k ∈ lb
        · rw [if_pos c1]
          by_cases c2 : k ∈ L
          · rw [if_pos c2, hm x]
            refine ⟨fun z => ⟨.inl z.1, z.2⟩, fun z => ⟨z.1.elim id fun e => ?_, z.2⟩⟩
            rw [e]; exact ((hm k).mp c2).1
          · rw [if_neg c2, List.mem_cons, hm x]
            refine ⟨fun z => z.elim (fun e => ⟨.inr e, by rw [e]; exact c1⟩) fun z => ⟨.inl z.1, z.2⟩, fun z => z.1.elim (fun y => .inr ⟨y, z.2⟩) .inl⟩
        · rw [if_neg c1, hm x]
          refine ⟨fun z => ⟨.inl z.1, z.2⟩, fun z => ⟨z.1.elim id fun e => absurd (by rw [← e]; exact z.2) c1, z.2⟩⟩
      · have key : x ∈ L ∨ x = k := by
          by_cases c1 : k ∈ lb
          · rw [if_pos c1] at hx
            by_cases c2 : k ∈ L
            · rw [if_pos c2] at hx; exact .inl hx
            · rw [if_neg c2] at hx
              exact (List.mem_cons.mp hx).elim .inr .inl
          · rw [if_neg c1] at hx; exact .inl hx
        rcases key with z | z
        · exact hs x z
        · rw [z]; exact kla
    · exact absurd hL (by omega)
  · rintro s' ⟨h', L, rfl, sb, RL, hm, _⟩
    refine hQ h' L sb RL fun x => ?_
    rw [hm x, List.nil_append, en.1.mem_iff]
end
end Wk

set_option Elab.async false
set_option linter.all false
set_option maxRecDepth 100000
set_option maxHeartbeats 3200000
namespace Wk
open PySem PySem.Spec PyProof.Rows L2
theorem entry_set_and : entryFor table "set.__and__" = some Builtin.«frozenset.__and__» :=
  entryFor_alias (id' := "frozenset.__and__") (by kernel_rfl) rfl (by decide +kernel) (by kernel_rfl)
section
variable {P : Program} {w : World} {A : Around} {E : Value → Shared → Prop} {s : Shared} {a b r : Addr} {la lb lr : List Str}
theorem TxR.typeIs (R : TxR P w s.heap a la) : s.TypeIs (.ref a) "set" := by
  obtain ⟨⟨D, ho, _⟩, _, _⟩ := R
  exact ⟨_, ho, rfl⟩
/-- the one is walked, the other asked -/
theorem inter_core {id : String} {ax wk : Addr} {lx ly : List Str} {Q : Unit → Shared → Prop} (Rx : TxR P w s.heap ax lx) (Ry : TxR P w s.heap wk ly) (Rr : TxR P w s.heap r []) (nx : ax ≠ r) (ny : wk ≠ r) (sy : ly.length + 1 < scanBound)
    (hQ : ∀ h' d L, Heap.SameBut r s.heap h' → TxR P w h' r L → (∀ x, x ∈ L ↔ x ∈ ly ∧ x ∈ lx) → Q () { s with heap := h', drawn := d }) :
    wpAny (model P w) A (do
      let was ← setEpoch wk
      let out ← setWalkUnseen wk [ax, r] (some r)
      forIn out PUnit.unit fun x __s => do
        holding [x.snd] do
          let f ← setFind ax x.snd x.fst
          if f.isSome = true then do
            let _ ← setAddHashed r x.snd x.fst
            pure ()
          else pure ()
        Builtin.Frozenset.unchanged id wk was
        pure (ForInStep.yield PUnit.unit)
      pure ()) Q E s := by
  obtain ⟨Dy, hoy, oky, _⟩ := Ry.ents
  refine wpAny_bind (wpAny_setEpoch_of hoy rfl oky.fit ?_)
  refine wpAny_bind (unseen_tx Ry Rx Rr fun out h2 d sb2 Rr2 en => ?_)
  refine wpAny_bind ?_
  rw [← Array.forIn_toList]
  refine inter_loop (s := { s with heap := h2, drawn := d }) (lb := lx) en sy Rr2 (fun e1 k u s' L R e ⟨h', es', sb'⟩ RL hL hR => ?_) fun h' L sb' RL hm => wpAny_pure (hQ h' d L (sb2.trans sb') RL hm)
  subst e
  have kx : TxR P w s'.heap ax lx := Rx.at fun o e => by
    rw [es']
    exact (sb'.2 ax nx).trans ((sb2.2 ax nx).trans e)
  obtain ⟨⟨Dx, hox, okx, _⟩, _, sx⟩ := _root_.id kx
  have hkey : (strKind P w).is k (.str k u) = true := Froz.is_str k u
  have epo : ∀ (h3 : Heap), Heap.SameBut r s'.heap h3 → ∀ (R' : Unit → Shared → Prop), R' () { s' with heap := h3 } → wpAny (model P w) A (Builtin.Frozenset.unchanged id wk Dy.2.1) R' E { s' with heap := h3 } := fun h3 sb3 R' hR' => by
    unfold Builtin.Frozenset.unchanged
    have q : h3.get? wk = some (Froz.sObj "set" Dy) := by
      rw [sb3.2 wk ny, es']
      exact (sb'.2 wk ny).trans ((sb2.2 wk ny).trans hoy)
    refine wpAny_bind (wpAny_setEpoch_of (s := { s' with heap := h3 }) q rfl oky.fit ?_)
    exact wp_if_neg (by simp) (wpAny_pure hR')
  refine wpAny_bind (wpAny_holding ?_)
  refine wpAny_bind (PySem.W.setFind_any (knd := strKind P w) (S := fun k => decide (k ∈ lx)) hkey rfl hox rfl okx.el (fun k => by rw [decide_eq_true_eq]; exact okx.mem k) (by rw [okx.sz]; exact sx) okx.fit fun res hres => ?_)
  by_cases c : k ∈ lx
  · rw [if_pos c] at hR
    refine wp_if_pos (by rw [hres]; exact decide_eq_true c) ?_
    refine wpAny_bind (tx_add RL hL fun bb h3 sb3 R3 => ?_)
    refine wpAny_pure (wpAny_bind (epo h3 sb3 _ (wpAny_pure (hR h3 sb3 R3))))
  · rw [if_neg c] at hR
    refine wp_if_neg (by rw [hres]; simpa using c) ?_
    exact wpAny_pure (wpAny_bind (epo s'.heap (Heap.SameBut.refl r s'.heap) _ (wpAny_pure (hR s'.heap (Heap.SameBut.refl r s'.heap) RL))))
theorem inter_at {id : String} {Q : Value → Shared → Prop} (hne : a ≠ b) (Ra : TxR P w s.heap a la) (Rb : TxR P w s.heap b lb) (sa : la.length + 1 < scanBound) (sb : lb.length + 1 < scanBound)
    (hQ : ∀ h' d L, (∀ c o, s.heap.get? c = some o → h'.get? c = some o) → TxR P w h' s.heap.objs.size L → (∀ x, x ∈ L ↔ x ∈ la ∧ x ∈ lb) → Q (.ref s.heap.objs.size) { s with heap := h', drawn := d }) :
    wpAny (model P w) A (Builtin.Frozenset.intersection id a (.ref b)) Q E s := by
  have hba : (Value.ref b == Value.ref a) = false := by
    first
      | exact beq_eq_false_iff_ne.mpr (fun e => hne (by cases e; rfl))
      | simp [Ne.symm hne]
      | (cases hq : (Value.ref b == Value.ref a) with
         | false => rfl
         | true => exact absurd (by simpa using hq) hne)
  unfold Builtin.Frozenset.intersection
  refine wp_if_neg (by rw [hba]; exact Bool.false_ne_true) ?_
  unfold Builtin.Frozenset.baseOf
  refine wpAny_bind (wpAny_bind (wpAny_isInstance (T := "set") (b := true) Ra.typeIs sub_set_self (wpAny_pure ?_)))
  simp only [if_true]
  unfold newSet
  refine wpAny_bind (wpAny_bind (wpAny_byText ?_))
  simp only [newObj]
  refine wpAny_bind (wpAny_alloc (wpAny_pure ?_))
  have hn : (s.heap.push (set0 w)).get? s.heap.objs.size = some (set0 w) := Heap.get?_push_size _ rfl
  have kp : ∀ c o, s.heap.get? c = some o → (s.heap.push (set0 w)).get? c = some o := fun c o e => Heap.get?_push_of_some _ e
  have Rr : TxR P w (s.heap.push (set0 w)) s.heap.objs.size [] := tx_fresh hn
  have Ra1 : TxR P w (s.heap.push (set0 w)) a la := Ra.at fun o e => kp _ _ e
  have Rb1 : TxR P w (s.heap.push (set0 w)) b lb := Rb.at fun o e => kp _ _ e
  have lta : a < s.heap.objs.size := by obtain ⟨⟨D, ho, _⟩, _, _⟩ := Ra; exact Heap.lt_size ho
  have ltb : b < s.heap.objs.size := by obtain ⟨⟨D, ho, _⟩, _, _⟩ := Rb; exact Heap.lt_size ho
  generalize hh1 : s.heap.push (set0 w) = h1 at hn kp Rr Ra1 Rb1
  generalize hr : s.heap.objs.size = r at hn kp Rr Ra1 Rb1 lta ltb hQ
  unfold Builtin.Frozenset.addrOf
  refine wpAny_bind (wpAny_pure ?_)
  refine wpAny_bind (wpAny_holding ?_)
  unfold Builtin.Frozenset.isAnySet
  refine wpAny_bind (wpAny_bind (wpAny_isInstance (T := "set") (b := true) (TxR.typeIs (s := { s with heap := h1 }) Rb1) sub_set_self ?_))
  refine wpAny_pure ?_
  simp only [if_true]
  refine wpAny_bind (wpAny_pure ?_)
  obtain ⟨Da, hoa, oka, _⟩ := Ra1.ents
  obtain ⟨Db, hob, okb, _⟩ := Rb1.ents
  unfold Builtin.Frozenset.sizeOf
  refine wpAny_bind (wpAny_bind (wpAny_setEntries_of (s := { s with heap := h1 }) hob rfl okb.fit (wpAny_pure ?_)))
  refine wpAny_bind (wpAny_bind (wpAny_setEntries_of (s := { s with heap := h1 }) hoa rfl oka.fit (wpAny_pure ?_)))
  have fin : ∀ h' d L, Heap.SameBut r h1 h' → TxR P w h' r L → (∀ x, x ∈ L ↔ x ∈ la ∧ x ∈ lb) → wpAny (model P w) A (pure (Value.ref r)) Q E { s with heap := h', drawn := d } := fun h' d L sb' RL hm =>
    wpAny_pure (hQ h' d L (fun c o e => (sb'.2 c (fun z => by
      have := Heap.lt_size e
      rw [z, hr] at this
      exact Nat.lt_irrefl _ this)).trans (kp c o e)) RL hm)
  by_cases c : Db.1.size > Da.1.size
  · simp only [if_pos c]
    exact inter_core (s := { s with heap := h1 }) Rb1 Ra1 Rr (Nat.ne_of_lt ltb) (Nat.ne_of_lt lta) sa fun h' d L sb' RL hm => fin h' d L sb' RL hm
  · simp only [if_neg c]
    exact inter_core (s := { s with heap := h1 }) Ra1 Rb1 Rr (Nat.ne_of_lt lta) (Nat.ne_of_lt ltb) sb fun h' d L sb' RL hm => fin h' d L sb' RL fun x => (hm x).trans And.comm
theorem and_tx {Q : Value → Shared → Prop} (hne : a ≠ b) (Ra : TxR P w s.heap a la) (Rb : TxR P w s.heap b lb) (sa : la.length + 1 < scanBound) (sb : lb.length + 1 < scanBound)
    (hQ : ∀ h' d L, (∀ c o, s.heap.get? c = some o → h'.get? c = some o) → TxR P w h' s.heap.objs.size L → (∀ x, x ∈ L ↔ x ∈ la ∧ x ∈ lb) → Q (.ref s.heap.objs.size) { s with heap := h', drawn := d }) :
    wpAny (model P w) A (binaryOp .BitAnd (.ref a) (.ref b)) Q E s := by
  refine wpAny_binaryOp_same Ra.typeIs Rb.typeIs PySem.F.fills_set_and PySem.F.slot_set_and ?_
  refine wpAny_call_entry PySem.F.slot_set_and Ra.typeIs entry_set_and ?_ (PySem.F.args_set_and_2 _ _)
  unfold Builtin.«frozenset.__and__»
  wp_delta
  refine wpAny_bind (wpAny_of_eq (show Builtin.Frozenset.slot1 "__and__" ⟨[.ref a, .ref b], []⟩ = pure (Value.ref a, Value.ref b) from rfl) ?_)
  dsimp only
  rw [if_neg Bool.false_ne_true]
  dsimp only
  have any : ∀ {c : Addr} {lc : List Str} {Q' : Bool → Shared → Prop}, TxR P w s.heap c lc → Q' true s → wpAny (model P w) A.in1 (Builtin.Frozenset.isAnySet (.ref c)) Q' E s := fun {c lc Q'} R q => by
    unfold Builtin.Frozenset.isAnySet
    exact wpAny_bind (wpAny_isInstance (T := "set") (b := true) R.typeIs sub_set_self (wpAny_pure q))
  refine wpAny_bind (wpAny_bind (any Ra (any Rb ?_)))
  refine wp_if_neg (by simp) ?_
  refine wpAny_bind (wpAny_pure ?_)
  refine wpAny_bind (inter_at hne Ra Rb sa sb fun h' d L hk R hm => ?_)
  exact wpAny_pure ⟨_, rfl, (fun z => by cases z), hQ h' d L hk R hm⟩
end
/-- the intersection of two sets of texts -/
def rAndTx (P : Program) (w : World) : V → V → Hp → VK → Prop := fun x y H Q => ∃ (a b : Addr) (la lb : List Str), x = .ref a ∧ y = .ref b ∧ a ≠ b ∧ H a = some (TxO P w a la) ∧ H b = some (TxO P w b lb) ∧ la.length + 1 < scanBound ∧ lb.length + 1 < scanBound ∧
  ∀ (p : Addr) (L : List Str), H p = none → L.Nodup → (∀ x, x ∈ L ↔ x ∈ la ∧ x ∈ lb) → Q (.ref p) (upd H p (TxO P w p L))
theorem op_andTx {X : Cx} : OpR X (binaryOp .BitAnd) (rAndTx X.prog X.w) := by
  intro pins s σ H x y v u Q I rx ry h
  obtain ⟨a, b, la, lb, rfl, rfl, hne, ha, hb, sa, sb, q⟩ := h
  cases rx
  cases ry
  refine and_tx hne (txO_get I ha) (txO_get I hb) sa sb fun h' d L hk R hm => ?_
  have hn : H s.heap.objs.size = none := I.hok.fresh (Nat.le_refl _)
  have J : Inv X pins σ (upd H s.heap.objs.size (TxO X.prog X.w s.heap.objs.size L)) { s with heap := h', drawn := d } :=
    I.call' (ch := []) rfl (Un.laid hk (Nat.le_refl _) hn) (I.hok.laid hk (Nat.le_refl _) (txO_new R)) I.bare (fun _ z => nomatch z)
  exact ⟨.ref _, _, J, rfl, q _ L hn R.nd hm⟩
end Wk

set_option Elab.async false
set_option linter.all false
set_option maxRecDepth 100000
set_option maxHeartbeats 2000000
/-! How large and how deep rows are, rests and callings: promises. -/
namespace Wk
open PySem PySem.Spec PyProof.Rows L2 GxR
theorem size_rest : ∀ p : Part, sizeP p = 1 + sizeR (restP p)
  | .say _ => rfl
  | .again r => by show sizeR r + 1 = 1 + sizeR r; omega
  | .oth _ _ r => by show sizeR r + 1 = 1 + sizeR r; omega
theorem deep_rest : ∀ p : Part, deepP p = 1 + deepR (restP p)
  | .say _ => rfl
  | .again r => by show deepR r + 1 = 1 + deepR r; omega
  | .oth _ _ r => by show deepR r + 1 = 1 + deepR r; omega
/-- but for the table at T, which may have grown, what stood stands -/
def SameT (T : Addr) (H H' : Hp) : Prop := (∀ b o, b ≠ T → H b = some o → H' b = some o) ∧ TabG H' T
theorem SameT.refl {T : Addr} {H : Hp} (t : TabG H T) : SameT T H H := ⟨fun _ _ _ e => e, t⟩
theorem SameT.trans {T : Addr} {H H1 H2 : Hp} (a : SameT T H H1) (b : SameT T H1 H2) : SameT T H H2 := ⟨fun c o n e => b.1 c o n (a.1 c o n e), b.2⟩
theorem SameT.tab {T : Addr} {H H' : Hp} (h : Tabbed T H H') : SameT T H H' := ⟨fun b o n e => by rw [h.2 b n]; exact e, h.1⟩
theorem SameT.of {T : Addr} {H H' : Hp} (t : TabG H T) (s : Same H H') : SameT T H H' := ⟨fun b o _ e => s b o e, by
  obtain ⟨ps, e, h⟩ := t
  exact ⟨ps, s _ _ e, h⟩⟩
theorem SameT.tup {T : Addr} {H H' : Hp} (t : TabG H T) (s : SameT T H H') : STup H H' := fun a xs e => s.1 a _ (fun z => by
  obtain ⟨ps, q, _⟩ := t
  rw [z, q] at e
  cases e) e
def spRest : Sp := fun vs H Q _ => ∃ (v : V) (p : Part), vs = [v] ∧ PartAt H p v ∧ ∀ (H' : Hp) (u : V), Same H H' → RowAt H' (restP p) u → Q u H'
def spParts (T : Addr) (n : Nat) : Sp := fun vs H Q _ => ∃ (v : V) (r : List Part), vs = [v] ∧ RowAt H r v ∧ deepR r < n ∧ sizeR r ≤ 1000 ∧ TabG H T ∧ ∀ (H' : Hp), SameT T H H' → Q (.int (sizeR r : Nat)) H'
def spDeep (n : Nat) : Sp := fun vs H Q _ => ∃ (v : V) (r : List Part), vs = [v] ∧ RowAt H r v ∧ deepR r < n ∧ sizeR r ≤ 1000 ∧ ∀ (H' : Hp), Same H H' → Q (.int (deepR r : Nat)) H'
/-- a def whose code object is at c -/
structure FunC (K : PySem.W.Frag) (x qual : Str) (st : Stmt) (f c : Addr) (fd : FuncData) : Prop where
  ex : ∃ (oc : Value) (od : Option Addr) (kV doc pm : Value) (an : Option Addr) (ct : Value) (osl : Array (Option Value)),
    fd = PySem.W.fnOf x qual (defArgs st) (defBody st) (defScope st) .none kV doc pm an (.ref c) ct ∧ K.lookup f = some ⟨oc, od, .func fd, osl⟩ ∧ PySem.W.codeIn K (.ref c) qual = true
  kp : PySem.W.keepIn K (.ref f) = true
theorem FunC.fn {K : PySem.W.Frag} {x qual : Str} {st : Stmt} {f c : Addr} {fd : FuncData} (F : FunC K x qual st f c fd) : Fun K x qual st f fd := by
  obtain ⟨⟨oc, od, kV, doc, pm, an, ct, osl, rfl, lk, hcd⟩, kp⟩ := F
  exact ⟨⟨oc, od, kV, doc, pm, an, _, ct, osl, rfl, lk, hcd⟩, kp⟩
theorem FunC.ok {P : Program} {w : World} {K : PySem.W.Frag} {mg : Str → Option Value} {base : Heap} {x qual : Str} {st : Stmt} {f c : Addr} {fd : FuncData} {N ps : List Str} {k : Nat} {sp : Sp} (F : FunC K x qual st f c fd) (S : FnScope N ps (defScope st))
    (len : ∀ vs H Q E, sp vs H Q E → vs.length = ps.length)
    (hb : ∀ (A : Around) (outer : List Env) (s : Shared) (H : Hp) (vs : List V) (Q : VK) (E : XK), Room k (A.deeper (envOfC qual (defScope st) s.heap.objs.size f (.ref c))) → sp vs H Q E →
      ∃ t, PSs (cxOf CX0 P w K mg base N qual (defScope st) f (.ref c) A outer s H E) (defBody st) t ∧ t { nx := fun _ H' => Q .non H', rt := Q } (start N vs) H) : FnOk P w K mg base CX0 (k + 1) f fd ps sp := by
  obtain ⟨⟨oc, od, kV, doc, pm, an, ct, osl, rfl, lk, hcd⟩, _⟩ := F
  exact fn_of lk hcd S len hb
theorem preSum_sizes (r : List Part) : ∀ i, i ≤ r.length → preSum (fun j => ((r[j]?).elim (0 : Int) fun p => (sizeP p : Nat))) i = (sizeR (r.take i) : Nat)
  | 0, _ => by simp [preSum, sizeR]
  | i + 1, h => by
    have hi : i < r.length := h
    rw [preSum, preSum_sizes r i (Nat.le_of_lt hi), List.take_add_one, List.getElem?_eq_getElem hi, sizeR_app]
    show _ = (((sizeR (r.take i) + (sizeP r[i] + 0)) : Nat) : Int)
    simp
theorem sizeR_take (r : List Part) (i : Nat) : sizeR (r.take i) ≤ sizeR r := by
  have e := sizeR_app (r.take i) (r.drop i)
  rw [List.take_append_drop] at e
  omega
/-! ### callings -/
/-- the calling of a part -/
def callP : Part → V
  | .say n => .str n
  | .again _ => .non
  | .oth _ n _ => .str n
mutual
/-- the free callings, as often as they stand there; S: what is bound around -/
def frP : List Str → Part → List Str
  | S, .say n => if n ∈ S then [] else [n]
  | S, .again r => frR S r
  | S, .oth w n r => if w.binds = true then frR (S ++ [n]) r else (if n ∈ S then [] else [n]) ++ frR S r
def frR : List Str → List Part → List Str
  | _, [] => []
  | S, p :: r => frP S p ++ frR S r
end
theorem frR_app (S : List Str) : ∀ r q : List Part, frR S (r ++ q) = frR S r ++ frR S q
  | [], q => rfl
  | p :: r, q => by
    show frP S p ++ frR S (r ++ q) = (frP S p ++ frR S r) ++ frR S q
    rw [frR_app S r q, List.append_assoc]
mutual
theorem frP_len : ∀ (p : Part) (S : List Str), (frP S p).length ≤ sizeP p
  | .say n, S => by
    unfold frP sizeP
    split <;> simp
  | .again r, S => by
    have := frR_len r S
    show (frR S r).length ≤ sizeR r + 1
    omega
  | .oth w n r, S => by
    unfold frP
    show _ ≤ sizeR r + 1
    split
    · have := frR_len r (S ++ [n])
      omega
    · have := frR_len r S
      rw [List.length_append]
      split <;> simp <;> omega
theorem frR_len : ∀ (r : List Part) (S : List Str), (frR S r).length ≤ sizeR r
  | [], S => Nat.le_refl _
  | p :: r, S => by
    have h1 := frP_len p S
    have h2 := frR_len r S
    show (frP S p ++ frR S r).length ≤ sizeP p + sizeR r
    rw [List.length_append]
    omega
end
mutual
theorem bdP_len : ∀ (p : Part), (bdP p).length ≤ sizeP p
  | .say n => Nat.zero_le _
  | .again r => by
    have := bdR_len r
    show (bdR r).length ≤ sizeR r + 1
    omega
  | .oth w n r => by
    have := bdR_len r
    show ((if w.binds then [n] else []) ++ bdR r).length ≤ sizeR r + 1
    rw [List.length_append]
    split <;> simp <;> omega
theorem bdR_len : ∀ (r : List Part), (bdR r).length ≤ sizeR r
  | [] => Nat.le_refl _
  | p :: r => by
    have h1 := bdP_len p
    have h2 := bdR_len r
    show (bdP p ++ bdR r).length ≤ sizeP p + sizeR r
    rw [List.length_append]
    omega
end
/-- what a part itself adds, what is bound within it -/
def fhP : List Str → Part → List Str
  | S, .say n => if n ∈ S then [] else [n]
  | _, .again _ => []
  | S, .oth w n _ => if w.binds = true then [] else if n ∈ S then [] else [n]
def bhP : Part → List Str
  | .oth w n _ => if w.binds = true then [n] else []
  | _ => []
def inP : List Str → Part → List Str
  | S, .oth w n _ => if w.binds = true then S ++ [n] else S
  | S, _ => S
theorem frP_eq (S : List Str) : ∀ p : Part, frP S p = fhP S p ++ frR (inP S p) (restP p)
  | .say n => by
    show (if n ∈ S then [] else [n]) = (if n ∈ S then [] else [n]) ++ []
    rw [List.append_nil]
  | .again r => rfl
  | .oth w n r => by
    show (if w.binds = true then frR (S ++ [n]) r else (if n ∈ S then [] else [n]) ++ frR S r) = (if w.binds = true then [] else if n ∈ S then [] else [n]) ++ frR (if w.binds = true then S ++ [n] else S) r
    by_cases c : w.binds = true
    · rw [if_pos c, if_pos c, if_pos c, List.nil_append]
    · rw [if_neg c, if_neg c, if_neg c]
theorem bdP_eq : ∀ p : Part, bdP p = bhP p ++ bdR (restP p)
  | .say n => rfl
  | .again r => rfl
  | .oth w n r => rfl
theorem inP_len (S : List Str) : ∀ p : Part, (inP S p).length ≤ S.length + 1
  | .say n => Nat.le_succ _
  | .again r => Nat.le_succ _
  | .oth w n r => by
    show (if w.binds = true then S ++ [n] else S).length ≤ S.length + 1
    by_cases c : w.binds = true
    · rw [if_pos c, List.length_append]; exact Nat.le_refl _
    · rw [if_neg c]; exact Nat.le_succ _
theorem fhP_len (S : List Str) : ∀ p : Part, (fhP S p).length ≤ 1
  | .say n => by
    show (if n ∈ S then [] else [n] : List Str).length ≤ 1
    by_cases c : n ∈ S
    · rw [if_pos c]; exact Nat.zero_le _
    · rw [if_neg c]; exact Nat.le_refl _
  | .again r => Nat.zero_le _
  | .oth w n r => by
    show (if w.binds = true then [] else if n ∈ S then [] else [n] : List Str).length ≤ 1
    by_cases b : w.binds = true
    · rw [if_pos b]; exact Nat.zero_le _
    · rw [if_neg b]
      by_cases c : n ∈ S
      · rw [if_pos c]; exact Nat.zero_le _
      · rw [if_neg c]; exact Nat.le_refl _
theorem bhP_len : ∀ p : Part, (bhP p).length ≤ 1
  | .say n => Nat.zero_le _
  | .again r => Nat.zero_le _
  | .oth w n r => by
    show (if w.binds = true then [n] else [] : List Str).length ≤ 1
    by_cases b : w.binds = true
    · rw [if_pos b]; exact Nat.le_refl _
    · rw [if_neg b]; exact Nat.zero_le _
/-- but for the two lists, what stood stands -/
def Sam2 (F B : Addr) (H H' : Hp) : Prop := ∀ b o, b ≠ F → b ≠ B → H b = some o → H' b = some o
theorem Sam2.trans {F B : Addr} {H H1 H2 : Hp} (a : Sam2 F B H H1) (b : Sam2 F B H1 H2) : Sam2 F B H H2 := fun c o n m e => b c o n m (a c o n m e)
theorem Sam2.of {F B : Addr} {H H' : Hp} (s : Same H H') : Sam2 F B H H' := fun c o _ _ e => s c o e
theorem Sam2.tup {F B : Addr} {H H' : Hp} {xs ys : List V} (hF : H F = some (.lst xs)) (hB : H B = some (.lst ys)) (s : Sam2 F B H H') : STup H H' := fun a zs e => s a _ (fun z => by rw [z, hF] at e; cases e) (fun z => by rw [z, hB] at e; cases e) e
def spCalling : Sp := fun vs H Q _ => ∃ (v : V) (p : Part), vs = [v] ∧ PartAt H p v ∧ Q (callP p) H
def spGather (n : Nat) : Sp := fun vs H Q _ => ∃ (v : V) (r : List Part) (aS F B : Addr) (S fs bs : List Str), vs = [v, .ref aS, .ref F, .ref B] ∧ RowAt H r v ∧ H aS = some (.tup (S.map V.str)) ∧ H F = some (.lst (fs.map V.str)) ∧ H B = some (.lst (bs.map V.str)) ∧ F ≠ B ∧
  deepR r < n ∧ sizeR r + fs.length ≤ 1000 ∧ sizeR r + bs.length ≤ 1000 ∧ S.length + deepR r ≤ 1000 ∧
  ∀ H', Sam2 F B H H' → H' F = some (.lst ((fs ++ frR S r).map V.str)) → H' B = some (.lst ((bs ++ bdR r).map V.str)) → Q .non H'
def spCallings (n : Nat) : Sp := fun vs H Q _ => ∃ (v : V) (r : List Part), vs = [v] ∧ RowAt H r v ∧ deepR r < n ∧ sizeR r ≤ 1000 ∧ deepR r ≤ 1000 ∧
  ∀ (H' : Hp) (t F B : Addr), Same H H' → H F = none → H B = none → F ≠ B → H' t = some (.tup [.ref F, .ref B]) → H' F = some (.lst ((frR [] r).map V.str)) → H' B = some (.lst ((bdR r).map V.str)) → Q (.ref t) H'
/-- each of g's texts once, sorted, in a new list -/
def spSorted (g : List Part → List Str) (n : Nat) : Sp := fun vs H Q _ => ∃ (v : V) (r : List Part), vs = [v] ∧ RowAt H r v ∧ deepR r < n ∧ sizeR r ≤ 1000 ∧ deepR r ≤ 1000 ∧ (∀ L : List Str, L.Nodup → (∀ x, x ∈ L ↔ x ∈ g r) → L.length < 64) ∧
  ∀ (H' : Hp) (p : Addr) (ys : List Str), Same H H' → H p = none → ys.Nodup → (∀ x, x ∈ ys ↔ x ∈ g r) → sortedS ys = true → H' p = some (.lst (ys.map V.str)) → Q (.ref p) H'
end Wk

set_option Elab.async false
set_option linter.all false
set_option maxRecDepth 100000
set_option maxHeartbeats 2000000
/-! Rows level by level. -/
namespace Wk
open PySem PySem.Spec PyProof.Rows L2 GxR
def isSay : Part → Bool
  | .say _ => true
  | _ => false
def nextR (r : List Part) : List (List Part) := (r.filter fun p => !isSay p).map restP
def nextL : List (List Part) → List (List Part)
  | [] => []
  | r :: ls => nextR r ++ nextL ls
def deepL : List (List Part) → Nat
  | [] => 0
  | r :: ls => max (deepR r) (deepL ls)
def sizeL : List (List Part) → Nat
  | [] => 0
  | r :: ls => sizeR r + sizeL ls
theorem deepL_app : ∀ a b, deepL (a ++ b) = max (deepL a) (deepL b)
  | [], b => by show deepL b = max 0 (deepL b); omega
  | r :: a, b => by
    show max (deepR r) (deepL (a ++ b)) = max (max (deepR r) (deepL a)) (deepL b)
    rw [deepL_app a b]; omega
theorem sizeL_app : ∀ a b, sizeL (a ++ b) = sizeL a + sizeL b
  | [], b => by show sizeL b = 0 + sizeL b; omega
  | r :: a, b => by
    show sizeR r + sizeL (a ++ b) = sizeR r + sizeL a + sizeL b
    rw [sizeL_app a b]; omega
theorem nextL_app : ∀ a b, nextL (a ++ b) = nextL a ++ nextL b
  | [], b => rfl
  | r :: a, b => by
    show nextR r ++ nextL (a ++ b) = (nextR r ++ nextL a) ++ nextL b
    rw [nextL_app a b, List.append_assoc]
theorem nextR_cons (p : Part) (r : List Part) : nextR (p :: r) = (if isSay p = true then [] else [restP p]) ++ nextR r := by
  unfold nextR
  cases p <;> simp [List.filter_cons, isSay]
theorem nextR_deep : ∀ r : List Part, deepL (nextR r) = deepR r - 1
  | [] => rfl
  | p :: r => by
    rw [nextR_cons, deepL_app, nextR_deep r]
    have d := deep_rest p
    show max (deepL (if isSay p = true then [] else [restP p])) (deepR r - 1) = max (deepP p) (deepR r) - 1
    cases p with
    | say n =>
      have e : deepR (restP (.say n)) = 0 := rfl
      show max 0 (deepR r - 1) = _
      omega
    | again q =>
      show max (max (deepR (restP (.again q))) 0) (deepR r - 1) = _
      omega
    | oth w n q =>
      show max (max (deepR (restP (.oth w n q))) 0) (deepR r - 1) = _
      omega
theorem nextL_deep : ∀ ls, deepL (nextL ls) = deepL ls - 1
  | [] => rfl
  | r :: ls => by
    show deepL (nextR r ++ nextL ls) = max (deepR r) (deepL ls) - 1
    rw [deepL_app, nextR_deep, nextL_deep ls]; omega
theorem nextR_size : ∀ r : List Part, sizeL (nextR r) + (nextR r).length ≤ sizeR r
  | [] => Nat.le_refl _
  | p :: r => by
    rw [nextR_cons, sizeL_app, List.length_append]
    have h := nextR_size r
    have s := size_rest p
    show sizeL (if isSay p = true then [] else [restP p]) + sizeL (nextR r) + ((if isSay p = true then [] else [restP p]).length + (nextR r).length) ≤ sizeP p + sizeR r
    cases p with
    | say n =>
      show 0 + sizeL (nextR r) + (0 + (nextR r).length) ≤ _
      omega
    | again q =>
      show (sizeR (restP (.again q)) + 0) + sizeL (nextR r) + (1 + (nextR r).length) ≤ _
      omega
    | oth w n q =>
      show (sizeR (restP (.oth w n q)) + 0) + sizeL (nextR r) + (1 + (nextR r).length) ≤ _
      omega
theorem nextL_size : ∀ ls, sizeL (nextL ls) + (nextL ls).length ≤ sizeL ls
  | [] => Nat.le_refl _
  | r :: ls => by
    show sizeL (nextR r ++ nextL ls) + (nextR r ++ nextL ls).length ≤ sizeR r + sizeL ls
    rw [sizeL_app, List.length_append]
    have h1 := nextR_size r
    have h2 := nextL_size ls
    omega
abbrev okS (r : List Part) : Prop := okR (fun n => PyData.strOk n = true) r
def okL (ls : List (List Part)) : Prop := ∀ r ∈ ls, okS r
theorem okR_mem {f : Str → Prop} : ∀ {r : List Part}, okR f r → ∀ p ∈ r, okP f p
  | p :: r, h, q, hq => by
    rcases List.mem_cons.mp hq with e | e
    · rw [e]; exact h.1
    · exact okR_mem h.2 q e
theorem nextR_ok {r : List Part} (h : okS r) : okL (nextR r) := fun q hq => by
  obtain ⟨p, hp, rfl⟩ := List.mem_map.mp hq
  exact rest_ok (okR_mem h p (List.mem_filter.mp hp).1)
theorem nextL_ok : ∀ {ls : List (List Part)}, okL ls → okL (nextL ls)
  | [], h => fun q hq => by cases hq
  | r :: ls, h => fun q hq => by
    rcases List.mem_append.mp hq with z | z
    · exact nextR_ok (h r List.mem_cons_self) q z
    · exact nextL_ok (fun x hx => h x (List.mem_cons_of_mem _ hx)) q z
/-! ### in memory -/
def LvAt (H : Hp) : List (List Part) → List V → Prop
  | [], vs => vs = []
  | r :: ls, vs => ∃ v ws, vs = v :: ws ∧ RowAt H r v ∧ LvAt H ls ws
theorem LvAt.mono {H H' : Hp} (s : STup H H') : ∀ {ls : List (List Part)} {vs : List V}, LvAt H ls vs → LvAt H' ls vs
  | [], _, h => h
  | r :: ls, _, h => by
    obtain ⟨v, ws, rfl, h1, h2⟩ := h
    exact ⟨v, ws, rfl, h1.mono s, LvAt.mono s h2⟩
theorem LvAt.len {H : Hp} : ∀ {ls : List (List Part)} {vs : List V}, LvAt H ls vs → vs.length = ls.length
  | [], _, h => by rw [h]; rfl
  | r :: ls, _, h => by
    obtain ⟨v, ws, rfl, _, h2⟩ := h
    rw [List.length_cons, List.length_cons, LvAt.len h2]
theorem LvAt.get {H : Hp} : ∀ {ls : List (List Part)} {vs : List V}, LvAt H ls vs → ∀ {i : Nat} {v : V}, vs[i]? = some v → ∃ r, ls[i]? = some r ∧ RowAt H r v
  | [], _, h, i, v, hv => by rw [show _ = [] from h] at hv; simp at hv
  | r :: ls, _, h, 0, v, hv => by
    obtain ⟨u, ws, rfl, h1, _⟩ := h
    have z : u = v := by simpa using hv
    exact ⟨r, rfl, z ▸ h1⟩
  | r :: ls, _, h, i + 1, v, hv => by
    obtain ⟨u, ws, rfl, _, h2⟩ := h
    obtain ⟨q, h3, h4⟩ := LvAt.get h2 (i := i) (v := v) (by simpa using hv)
    exact ⟨q, by simpa using h3, h4⟩
theorem LvAt.app {H : Hp} {ls2 : List (List Part)} {vs2 : List V} (g : LvAt H ls2 vs2) : ∀ {ls : List (List Part)} {vs : List V}, LvAt H ls vs → LvAt H (ls ++ ls2) (vs ++ vs2)
  | [], _, h => by rw [show _ = [] from h]; exact g
  | r :: ls, _, h => by
    obtain ⟨v, ws, rfl, h1, h2⟩ := h
    exact ⟨v, ws ++ vs2, rfl, h1, LvAt.app g h2⟩
theorem LvAt.one {H : Hp} {r : List Part} {v : V} (h : RowAt H r v) : LvAt H [r] [v] := ⟨v, [], rfl, h, rfl⟩
theorem LvAt.dp {K : PySem.W.Frag} {H : Hp} : ∀ {ls : List (List Part)} {vs : List V}, LvAt H ls vs → DpAll K H vs (ls.map fun r => PyData.tuple (dR r))
  | [], _, h => by rw [show _ = [] from h]; exact .nil
  | r :: ls, _, h => by
    obtain ⟨v, ws, rfl, h1, h2⟩ := h
    exact .cons h1.dp (LvAt.dp h2)
theorem lvl_lay : ∀ {ls : List (List Part)}, okL ls → PyData.canLayAll0 (ls.map fun r => PyData.tuple (dR r)) = true
  | [], _ => by simp only [List.map_nil, PyData.canLayAll0]
  | r :: ls, h => by
    simp only [List.map_cons, PyData.canLayAll0, PyData.canLay0, layR (fun n h => h) r (h r List.mem_cons_self), lvl_lay fun x hx => h x (List.mem_cons_of_mem _ hx), Bool.and_self]
theorem lvl_dep : ∀ ls : List (List Part), PyData.depthAll (ls.map fun r => PyData.tuple (dR r)) ≤ 2 * deepL ls + 1
  | [] => by simp only [List.map_nil, PyData.depthAll]; omega
  | r :: ls => by
    have h1 := depR r
    have h2 := lvl_dep ls
    simp only [List.map_cons, PyData.depthAll, PyData.depth, deepL]
    omega
theorem lvl_shaped {ls : List (List Part)} (h : okL ls) (hd : deepL ls ≤ 25) : SeqAt.shaped (.list (ls.map fun r => PyData.tuple (dR r))) = true := by
  unfold SeqAt.shaped
  have := lvl_dep ls
  simp only [PyData.canLay0, lvl_lay h, PyData.depth, Bool.true_and]
  exact decide_eq_true (by omega)
theorem row_empty (r : List Part) : PyData.eqv (.tuple (dR r)) (.tuple []) = r.isEmpty := by
  cases r with
  | nil => simp only [dR, PyData.eqv, PyData.eqvAll, List.isEmpty]
  | cons p r => simp only [dR, PyData.eqv, PyData.eqvAll, List.isEmpty]
theorem deep_pos {r : List Part} (h : r ≠ []) : 1 ≤ deepR r := by
  cases r with
  | nil => exact absurd rfl h
  | cons p r =>
    have d := deep_rest p
    show 1 ≤ max (deepP p) (deepR r)
    omega
theorem full_iff : ∀ ls : List (List Part), (ls.filter fun r => !r.isEmpty).isEmpty = decide (deepL ls = 0)
  | [] => rfl
  | r :: ls => by
    have ih := full_iff ls
    cases r with
    | nil =>
      show (ls.filter fun r => !r.isEmpty).isEmpty = decide (max 0 (deepL ls) = 0)
      rw [ih, Nat.zero_max]
    | cons p r =>
      have := deep_pos (r := p :: r) (by simp)
      have e : ¬ (deepL ((p :: r) :: ls) = 0) := by
        show ¬ (max (deepR (p :: r)) (deepL ls) = 0)
        omega
      rw [decide_eq_false e]
      rfl
def spLDeep : Sp := fun vs H Q _ => ∃ (v : V) (r : List Part), vs = [v] ∧ RowAt H r v ∧ okS r ∧ deepR r ≤ 25 ∧ sizeR r ≤ 900 ∧ ∀ (H' : Hp), Same H H' → Q (.int (deepR r : Nat)) H'
end Wk

set_option Elab.async false
set_option linter.all false
set_option maxRecDepth 100000
set_option maxHeartbeats 2000000
/-! What the law's own walk writes down of each part. -/
namespace Wk
open PySem PySem.Spec PyProof.Rows L2 GxR
/-- kind, calling, how many are bound around -/
abbrev Ent : Type := Str × Str × Nat
def entP : List Str → Part → Ent
  | S, .say n => (if n ∈ S then "held" else "free", n, S.length)
  | _, .again _ => ("again", "", 0)
  | S, .oth w n _ => if w.binds = true then ("bound", n, S.length) else (if n ∈ S then "held" else "free", n, S.length)
mutual
def alP : List Str → Part → List Ent
  | S, .say n => [entP S (.say n)]
  | S, .again r => entP S (.again r) :: alR S r
  | S, .oth w n r => entP S (.oth w n r) :: alR (inP S (.oth w n r)) r
def alR : List Str → List Part → List Ent
  | _, [] => []
  | S, p :: r => alP S p ++ alR S r
end
theorem alP_eq (S : List Str) : ∀ p : Part, alP S p = entP S p :: alR (inP S p) (restP p)
  | .say n => rfl
  | .again r => rfl
  | .oth w n r => rfl
theorem alR_app (S : List Str) : ∀ r q : List Part, alR S (r ++ q) = alR S r ++ alR S q
  | [], q => rfl
  | p :: r, q => by
    show alP S p ++ alR S (r ++ q) = (alP S p ++ alR S r) ++ alR S q
    rw [alR_app S r q, List.append_assoc]
mutual
theorem alP_len : ∀ (p : Part) (S : List Str), (alP S p).length = sizeP p
  | .say n, S => rfl
  | .again r, S => by
    have := alR_len r S
    show (alR S r).length + 1 = sizeR r + 1
    omega
  | .oth w n r, S => by
    have := alR_len r (inP S (.oth w n r))
    show (alR (inP S (.oth w n r)) r).length + 1 = sizeR r + 1
    omega
theorem alR_len : ∀ (r : List Part) (S : List Str), (alR S r).length = sizeR r
  | [], S => rfl
  | p :: r, S => by
    have h1 := alP_len p S
    have h2 := alR_len r S
    show (alP S p ++ alR S r).length = sizeP p + sizeR r
    rw [List.length_append]
    omega
end
/-- the callings of one kind, as they stand there -/
def ofKind (k : Str) (es : List Ent) : List Str := (es.filter fun e => e.1 == k).map (·.2.1)
theorem ofKind_app (k : Str) (a b : List Ent) : ofKind k (a ++ b) = ofKind k a ++ ofKind k b := by
  unfold ofKind
  rw [List.filter_append, List.map_append]
theorem ent_free (S : List Str) : ∀ p : Part, ofKind "free" [entP S p] = fhP S p
  | .say n => by
    show ofKind "free" [(if n ∈ S then "held" else "free", n, S.length)] = if n ∈ S then [] else [n]
    by_cases c : n ∈ S
    · rw [if_pos c, if_pos c]; rfl
    · rw [if_neg c, if_neg c]; rfl
  | .again r => rfl
  | .oth w n r => by
    show ofKind "free" [if w.binds = true then ("bound", n, S.length) else (if n ∈ S then "held" else "free", n, S.length)] = if w.binds = true then [] else if n ∈ S then [] else [n]
    by_cases b : w.binds = true
    · rw [if_pos b, if_pos b]; rfl
    · rw [if_neg b, if_neg b]
      by_cases c : n ∈ S
      · rw [if_pos c, if_pos c]; rfl
      · rw [if_neg c, if_neg c]; rfl
theorem ent_bound (S : List Str) : ∀ p : Part, ofKind "bound" [entP S p] = bhP p
  | .say n => by
    show ofKind "bound" [(if n ∈ S then "held" else "free", n, S.length)] = []
    by_cases c : n ∈ S
    · rw [if_pos c]; rfl
    · rw [if_neg c]; rfl
  | .again r => rfl
  | .oth w n r => by
    show ofKind "bound" [if w.binds = true then ("bound", n, S.length) else (if n ∈ S then "held" else "free", n, S.length)] = if w.binds = true then [n] else []
    by_cases b : w.binds = true
    · rw [if_pos b, if_pos b]; rfl
    · rw [if_neg b, if_neg b]
      by_cases c : n ∈ S
      · rw [if_pos c]; rfl
      · rw [if_neg c]; rfl
theorem ofKind_cons (k : Str) (e : Ent) (es : List Ent) : ofKind k (e :: es) = ofKind k [e] ++ ofKind k es := ofKind_app k [e] es
mutual
theorem al_freeP : ∀ (p : Part) (S : List Str), ofKind "free" (alP S p) = frP S p
  | .say n, S => by
    rw [alP_eq, ofKind_cons, ent_free, frP_eq]
    rfl
  | .again r, S => by
    rw [alP_eq, ofKind_cons, ent_free, frP_eq]
    show _ ++ ofKind "free" (alR S r) = _
    rw [al_freeR r S]
    rfl
  | .oth w n r, S => by
    rw [alP_eq, ofKind_cons, ent_free, frP_eq]
    show _ ++ ofKind "free" (alR (inP S (.oth w n r)) r) = _
    rw [al_freeR r (inP S (.oth w n r))]
    rfl
theorem al_freeR : ∀ (r : List Part) (S : List Str), ofKind "free" (alR S r) = frR S r
  | [], S => rfl
  | p :: r, S => by
    show ofKind "free" (alP S p ++ alR S r) = frP S p ++ frR S r
    rw [ofKind_app, al_freeP p S, al_freeR r S]
end
mutual
theorem al_boundP : ∀ (p : Part) (S : List Str), ofKind "bound" (alP S p) = bdP p
  | .say n, S => by
    rw [alP_eq, ofKind_cons, ent_bound, bdP_eq]
    rfl
  | .again r, S => by
    rw [alP_eq, ofKind_cons, ent_bound, bdP_eq]
    show _ ++ ofKind "bound" (alR S r) = _
    rw [al_boundR r S]
    rfl
  | .oth w n r, S => by
    rw [alP_eq, ofKind_cons, ent_bound, bdP_eq]
    show _ ++ ofKind "bound" (alR (inP S (.oth w n r)) r) = _
    rw [al_boundR r (inP S (.oth w n r))]
    rfl
theorem al_boundR : ∀ (r : List Part) (S : List Str), ofKind "bound" (alR S r) = bdR r
  | [], S => rfl
  | p :: r, S => by
    show ofKind "bound" (alP S p ++ alR S r) = bdP p ++ bdR r
    rw [ofKind_app, al_boundP p S, al_boundR r S]
end
/-! ### in memory -/
def EntAt (H : Hp) (e : Ent) (v : V) : Prop := ∃ t, v = .ref t ∧ H t = some (.tup [.str e.1, .str e.2.1, .int (e.2.2 : Nat)])
def EntsAt (H : Hp) : List Ent → List V → Prop
  | [], vs => vs = []
  | e :: es, vs => ∃ v ws, vs = v :: ws ∧ EntAt H e v ∧ EntsAt H es ws
theorem EntAt.mono {H H' : Hp} (s : STup H H') {e : Ent} {v : V} (h : EntAt H e v) : EntAt H' e v := by
  obtain ⟨t, rfl, q⟩ := h
  exact ⟨t, rfl, s _ _ q⟩
theorem EntsAt.mono {H H' : Hp} (s : STup H H') : ∀ {es : List Ent} {vs : List V}, EntsAt H es vs → EntsAt H' es vs
  | [], _, h => h
  | e :: es, _, h => by
    obtain ⟨v, ws, rfl, h1, h2⟩ := h
    exact ⟨v, ws, rfl, h1.mono s, EntsAt.mono s h2⟩
theorem EntsAt.len {H : Hp} : ∀ {es : List Ent} {vs : List V}, EntsAt H es vs → vs.length = es.length
  | [], _, h => by rw [h]; rfl
  | e :: es, _, h => by
    obtain ⟨v, ws, rfl, _, h2⟩ := h
    rw [List.length_cons, List.length_cons, EntsAt.len h2]
theorem EntsAt.get {H : Hp} : ∀ {es : List Ent} {vs : List V}, EntsAt H es vs → ∀ {i : Nat} {v : V}, vs[i]? = some v → ∃ e, es[i]? = some e ∧ EntAt H e v
  | [], _, h, i, v, hv => by rw [show _ = [] from h] at hv; simp at hv
  | e :: es, _, h, 0, v, hv => by
    obtain ⟨u, ws, rfl, h1, _⟩ := h
    have z : u = v := by simpa using hv
    exact ⟨e, rfl, z ▸ h1⟩
  | e :: es, _, h, i + 1, v, hv => by
    obtain ⟨u, ws, rfl, _, h2⟩ := h
    obtain ⟨e', h3, h4⟩ := EntsAt.get h2 (i := i) (v := v) (by simpa using hv)
    exact ⟨e', by simpa using h3, h4⟩
theorem EntsAt.snoc {H : Hp} {e : Ent} {v : V} (h : EntAt H e v) : ∀ {es : List Ent} {vs : List V}, EntsAt H es vs → EntsAt H (es ++ [e]) (vs ++ [v])
  | [], _, g => by
    rw [show _ = [] from g]
    exact ⟨v, [], rfl, h, rfl⟩
  | f :: es, _, g => by
    obtain ⟨u, ws, rfl, h1, h2⟩ := g
    exact ⟨u, ws ++ [v], rfl, h1, EntsAt.snoc h h2⟩
def Sam1 (F : Addr) (H H' : Hp) : Prop := ∀ b o, b ≠ F → H b = some o → H' b = some o
theorem Sam1.trans {F : Addr} {H H1 H2 : Hp} (a : Sam1 F H H1) (b : Sam1 F H1 H2) : Sam1 F H H2 := fun c o n e => b c o n (a c o n e)
theorem Sam1.of {F : Addr} {H H' : Hp} (s : Same H H') : Sam1 F H H' := fun c o _ e => s c o e
theorem Sam1.tup {F : Addr} {H H' : Hp} {xs : List V} (hF : H F = some (.lst xs)) (s : Sam1 F H H') : STup H H' := fun a zs e => s a _ (fun z => by rw [z, hF] at e; cases e) e
def spAll (n : Nat) : Sp := fun vs H Q _ => ∃ (v : V) (r : List Part) (aS Fd : Addr) (S : List Str) (us : List V) (es : List Ent), vs = [v, .ref aS, .ref Fd] ∧ RowAt H r v ∧ H aS = some (.lst (S.map V.str)) ∧ H Fd = some (.lst us) ∧ aS ≠ Fd ∧ EntsAt H es us ∧
  deepR r < n ∧ sizeR r + us.length ≤ 1000 ∧ S.length + deepR r ≤ 1000 ∧
  ∀ H' us', Sam1 Fd H H' → H' Fd = some (.lst us') → EntsAt H' (es ++ alR S r) us' → Q (.ref Fd) H'
end Wk

set_option Elab.async false
set_option linter.all false
set_option maxRecDepth 100000
set_option maxHeartbeats 2000000
/-! Sorted lists of the same texts are alike; callings of drawn rows; what stays but for a table. -/
namespace Wk
open PySem PySem.Spec PyProof.Rows L2 GxR
def leS (a b : Str) : Prop := ¬ b.cps.toList < a.cps.toList
theorem leS.trans {a b c : Str} (h : leS a b) (g : leS b c) : leS a c := by
  have h1 : a.cps.toList ≤ b.cps.toList := h
  have h2 : b.cps.toList ≤ c.cps.toList := g
  have h3 : a.cps.toList ≤ c.cps.toList := List.le_trans h1 h2
  exact h3
theorem leS.anti {a b : Str} (h : leS a b) (g : leS b a) : a = b := by
  have h1 : a.cps.toList ≤ b.cps.toList := h
  have h2 : b.cps.toList ≤ a.cps.toList := g
  have e : a.cps.toList = b.cps.toList := List.le_antisymm h1 h2
  exact Str.ext' (Array.toList_inj.mp e)
theorem rising_pw : ∀ (l : List Str) (p : Str), risingS p l = true → (p :: l).Pairwise leS
  | [], p, _ => List.pairwise_singleton _ _
  | x :: r, p, h => by
    have h' : (!ltCps x.cps.toList p.cps.toList && risingS x r) = true := h
    obtain ⟨h1, h2⟩ := Bool.and_eq_true_iff.mp h'
    have ih := rising_pw r x h2
    have hx : leS p x := by
      rw [ltCps_eq] at h1
      intro z
      rw [decide_eq_true z] at h1
      cases h1
    refine List.pairwise_cons.mpr ⟨fun y hy => ?_, ih⟩
    rcases List.mem_cons.mp hy with e | e
    · rw [e]; exact hx
    · exact hx.trans ((List.pairwise_cons.mp ih).1 y e)
theorem sorted_pw : ∀ l : List Str, sortedS l = true → l.Pairwise leS
  | [], _ => List.Pairwise.nil
  | x :: r, h => rising_pw r x h
theorem pw_uniq : ∀ (ys zs : List Str), ys.Pairwise leS → zs.Pairwise leS → ys.Nodup → zs.Nodup → (∀ x, x ∈ ys ↔ x ∈ zs) → ys = zs
  | [], [], _, _, _, _, _ => rfl
  | [], z :: zs, _, _, _, _, h => absurd ((h z).mpr List.mem_cons_self) (fun q => nomatch q)
  | y :: ys, [], _, _, _, _, h => absurd ((h y).mp List.mem_cons_self) (fun q => nomatch q)
  | y :: ys, z :: zs, p, q, n, m, h => by
    obtain ⟨p1, p2⟩ := List.pairwise_cons.mp p
    obtain ⟨q1, q2⟩ := List.pairwise_cons.mp q
    obtain ⟨n1, n2⟩ := List.nodup_cons.mp n
    obtain ⟨m1, m2⟩ := List.nodup_cons.mp m
    have e : y = z := by
      by_cases e : y = z
      · exact e
      · have hy : y ∈ zs := by
          rcases List.mem_cons.mp ((h y).mp List.mem_cons_self) with g | g
          · exact absurd g e
          · exact g
        have hz : z ∈ ys := by
          rcases List.mem_cons.mp ((h z).mpr List.mem_cons_self) with g | g
          · exact absurd g.symm e
          · exact g
        exact (p1 z hz).anti (q1 y hy)
    subst e
    have ih := pw_uniq ys zs p2 q2 n2 m2 (fun x => by
      constructor
      · intro g
        rcases List.mem_cons.mp ((h x).mp (List.mem_cons_of_mem _ g)) with e | e
        · exact absurd (e ▸ g) n1
        · exact e
      · intro g
        rcases List.mem_cons.mp ((h x).mpr (List.mem_cons_of_mem _ g)) with e | e
        · exact absurd (e ▸ g) m1
        · exact e)
    rw [ih]
theorem sorted_uniq {ys zs : List Str} (p : sortedS ys = true) (q : sortedS zs = true) (n : ys.Nodup) (m : zs.Nodup) (h : ∀ x, x ∈ ys ↔ x ∈ zs) : ys = zs :=
  pw_uniq ys zs (sorted_pw ys p) (sorted_pw zs q) n m h
/-! ### callings of rows whose names are ok -/
mutual
theorem fr_okP {f : Str → Prop} : ∀ (p : Part) (S : List Str), okP f p → ∀ x ∈ frP S p, f x
  | .say n, S, h, x, hx => by
    unfold frP at hx
    by_cases c : n ∈ S
    · rw [if_pos c] at hx; cases hx
    · rw [if_neg c] at hx
      rw [List.mem_singleton.mp hx]
      exact h
  | .again r, S, h, x, hx => fr_okR r S h x hx
  | .oth w n r, S, h, x, hx => by
    unfold frP at hx
    by_cases b : w.binds = true
    · rw [if_pos b] at hx
      exact fr_okR r _ h.2 x hx
    · rw [if_neg b] at hx
      rcases List.mem_append.mp hx with g | g
      · by_cases c : n ∈ S
        · rw [if_pos c] at g; cases g
        · rw [if_neg c] at g
          rw [List.mem_singleton.mp g]
          exact h.1
      · exact fr_okR r S h.2 x g
theorem fr_okR {f : Str → Prop} : ∀ (r : List Part) (S : List Str), okR f r → ∀ x ∈ frR S r, f x
  | [], S, _, x, hx => nomatch hx
  | p :: r, S, h, x, hx => by
    rcases List.mem_append.mp (show x ∈ frP S p ++ frR S r from hx) with g | g
    · exact fr_okP p S h.1 x g
    · exact fr_okR r S h.2 x g
end
mutual
theorem bd_okP {f : Str → Prop} : ∀ (p : Part), okP f p → ∀ x ∈ bdP p, f x
  | .say n, h, x, hx => nomatch hx
  | .again r, h, x, hx => bd_okR r h x hx
  | .oth w n r, h, x, hx => by
    unfold bdP at hx
    rcases List.mem_append.mp hx with g | g
    · by_cases b : w.binds = true
      · rw [if_pos b] at g
        rw [List.mem_singleton.mp g]
        exact h.1
      · rw [if_neg b] at g; cases g
    · exact bd_okR r h.2 x g
theorem bd_okR {f : Str → Prop} : ∀ (r : List Part), okR f r → ∀ x ∈ bdR r, f x
  | [], _, x, hx => nomatch hx
  | p :: r, h, x, hx => by
    rcases List.mem_append.mp (show x ∈ bdP p ++ bdR r from hx) with g | g
    · exact bd_okP p h.1 x g
    · exact bd_okR r h.2 x g
end
/-! ### but for a table -/
section
variable {T p : Addr} {H0 H H' : Hp} {o : HO}
theorem TabG.ne (t : TabG H T) (n : H p = none) : T ≠ p := fun e => by
  obtain ⟨ps, h, _⟩ := t
  rw [e, n] at h
  cases h
theorem TabG.new (t : TabG H T) (n : H p = none) : TabG (upd H p o) T := by
  obtain ⟨ps, h, g⟩ := t
  exact ⟨ps, kn h n, g⟩
theorem TabG.same (t : TabG H T) (s : Same H H') : TabG H' T := by
  obtain ⟨ps, h, g⟩ := t
  exact ⟨ps, s _ _ h, g⟩
theorem SameT.new (s : SameT T H0 H) (n : H p = none) : SameT T H0 (upd H p o) := ⟨fun b u nb e => kn (s.1 b u nb e) n, TabG.new s.2 n⟩
theorem SameT.own (t : TabG H0 T) (s : SameT T H0 H) (n : H0 p = none) : SameT T H0 (upd H p o) := by
  have ne : T ≠ p := TabG.ne t n
  refine ⟨fun b u nb e => ?_, ?_⟩
  · rw [upd_ne (ne_of_none e n)]
    exact s.1 b u nb e
  · obtain ⟨ps, h, g⟩ := s.2
    exact ⟨ps, by rw [upd_ne ne]; exact h, g⟩
theorem SameT.sm (s : SameT T H0 H) (h : Same H H') : SameT T H0 H' := s.trans (SameT.of s.2 h)
theorem SameT.none (t : TabG H0 T) (s : SameT T H0 H) (n : H p = none) : H0 p = none := by
  cases e : H0 p with
  | none => rfl
  | some u =>
    have ne : p ≠ T := fun z => TabG.ne s.2 n z.symm
    rw [s.1 p u ne e] at n
    cases n
end
theorem ints_shaped (a b : Int) : SeqAt.shaped (.list [.int a, .int b]) = true := by
  unfold SeqAt.shaped
  simp only [PyData.canLay0, PyData.canLayAll0, PyData.depth, PyData.depthAll, Bool.and_self, Bool.true_and]
  rfl
theorem ints_eqv (a b : Int) : PyData.eqv (.list [.int a, .int b]) (.list [.int a, .int b]) = true := SeqAt.eqv_refl _ (by simp only [PyData.canLay0, PyData.canLayAll0, Bool.and_self])
theorem strs_eqv {ys : List Str} (hk : ∀ z ∈ ys, PyData.strOk z = true) : PyData.eqv (.list (ys.map PyData.str)) (.list (ys.map PyData.str)) = true := SeqAt.eqv_refl _ (by simp only [PyData.canLay0]; exact strs_lay ys hk)
end Wk
namespace Wk
open PySem PySem.Spec PyProof.Rows L2 GxR
theorem SameT.sam1 {T F : Addr} {H0 H H' : Hp} (t : TabG H0 T) (s : SameT T H0 H) (n : H0 F = Option.none) (m : Sam1 F H H') : SameT T H0 H' :=
  ⟨fun b o nb e => m b o (ne_of_none e n) (s.1 b o nb e), by
    obtain ⟨ps, h, g⟩ := s.2
    exact ⟨ps, m _ _ (TabG.ne t n) h, g⟩⟩
theorem TabG.neL {T p : Addr} {H : Hp} {xs : List V} (t : TabG H T) (h : H p = some (.lst xs)) : p ≠ T := fun e => by
  obtain ⟨ps, q, _⟩ := t
  rw [e, q] at h
  cases h
theorem lt64 {g : List Str} {D : List Str} (h : ∀ x ∈ g, x ∈ D) (l : D.length < 64) : ∀ L : List Str, L.Nodup → (∀ x, x ∈ L ↔ x ∈ g) → L.length < 64 := fun L nd hm =>
  Nat.lt_of_le_of_lt (sub_len L D nd fun x hx => h x ((hm x).mp hx)) l
end Wk

set_option Elab.async false
set_option linter.all false
set_option maxRecDepth 100000
set_option maxHeartbeats 2000000
/-! What stays but for some code tables. -/
namespace Wk
open PySem PySem.Spec PyProof.Rows L2 GxR
def TabsG (Ts : List Addr) (H : Hp) : Prop := ∀ T ∈ Ts, TabG H T
def SamTs (Ts : List Addr) (H H' : Hp) : Prop := (∀ b o, b ∉ Ts → H b = some o → H' b = some o) ∧ TabsG Ts H'
section
variable {Ts : List Addr} {T p F : Addr} {H H0 H' H1 H2 : Hp} {o : HO} {xs : List V}
theorem TabsG.out (t : TabsG Ts H) (n : H p = none) : p ∉ Ts := fun h => by
  obtain ⟨ps, q, _⟩ := t p h
  rw [q] at n
  cases n
theorem TabsG.outL (t : TabsG Ts H) (h : H p = some (.lst xs)) : p ∉ Ts := fun z => by
  obtain ⟨ps, q, _⟩ := t p z
  rw [q] at h
  cases h
theorem TabsG.outT (t : TabsG Ts H) (h : H p = some (.tup xs)) : p ∉ Ts := fun z => by
  obtain ⟨ps, q, _⟩ := t p z
  rw [q] at h
  cases h
theorem TabsG.same (t : TabsG Ts H) (s : Same H H') : TabsG Ts H' := fun T h => TabG.same (t T h) s
theorem TabsG.new (t : TabsG Ts H) (n : H p = none) : TabsG Ts (upd H p o) := fun T h => TabG.new (t T h) n
theorem SamTs.refl (t : TabsG Ts H) : SamTs Ts H H := ⟨fun _ _ _ e => e, t⟩
theorem SamTs.trans (a : SamTs Ts H H1) (b : SamTs Ts H1 H2) : SamTs Ts H H2 := ⟨fun c o n e => b.1 c o n (a.1 c o n e), b.2⟩
theorem SamTs.of (t : TabsG Ts H) (s : Same H H') : SamTs Ts H H' := ⟨fun b o _ e => s b o e, t.same s⟩
theorem SamTs.tab (m : T ∈ Ts) (t : TabsG Ts H) (h : Tabbed T H H') : SamTs Ts H H' := ⟨fun b o n e => by
    rw [h.2 b (fun z => n (z ▸ m))]; exact e, fun T' h' => by
    by_cases e : T' = T
    · rw [e]; exact h.1
    · obtain ⟨ps, q, g⟩ := t T' h'
      exact ⟨ps, by rw [h.2 T' e]; exact q, g⟩⟩
theorem SamTs.tup (t : TabsG Ts H) (s : SamTs Ts H H') : STup H H' := fun a xs e => s.1 a _ (t.outT e) e
theorem SamTs.new (s : SamTs Ts H0 H) (n : H p = none) : SamTs Ts H0 (upd H p o) := ⟨fun b u nb e => kn (s.1 b u nb e) n, s.2.new n⟩
theorem SamTs.own (t : TabsG Ts H0) (s : SamTs Ts H0 H) (n : H0 p = none) : SamTs Ts H0 (upd H p o) := by
  refine ⟨fun b u nb e => ?_, fun T h => ?_⟩
  · rw [upd_ne (ne_of_none e n)]
    exact s.1 b u nb e
  · obtain ⟨ps, q, g⟩ := s.2 T h
    have ne : T ≠ p := fun z => t.out n (z ▸ h)
    exact ⟨ps, by rw [upd_ne ne]; exact q, g⟩
theorem SamTs.sm (s : SamTs Ts H0 H) (h : Same H H') : SamTs Ts H0 H' := s.trans (SamTs.of s.2 h)
theorem SamTs.none (t : TabsG Ts H0) (s : SamTs Ts H0 H) (n : H p = Option.none) : H0 p = Option.none := by
  cases e : H0 p with
  | none => rfl
  | some u =>
    rw [s.1 p u (s.2.out n) e] at n
    cases n
theorem SamTs.lst (t : TabsG Ts H) (s : SamTs Ts H H') (h : H p = some (.lst xs)) : H' p = some (.lst xs) := s.1 _ _ (t.outL h) h
end
end Wk

set_option Elab.async false
set_option linter.all false
set_option maxRecDepth 100000
set_option maxHeartbeats 2000000
/-! all(test for x in text) where the test reads a captured text of the def. -/
namespace Wk
open PySem PySem.Spec PyProof.Rows L2 GxR
section
variable {X : Cx} {pins : List (Addr × Obj)} {σ : L2.St} {H : Hp} {s : Shared}
/-- the test of one sign c, in a frame whose cell for y holds the text z -/
def EltC (X : Cx) (scope : Scope) (x y : Str) (elt : Expr) (pb : Str → Nat → Bool) : Prop :=
  ∀ (z : Str) (ce : Env) (B : Around) (F : Value → Shared → Prop) (c : Nat) (t ty : Tok) (cy : Addr) (r : Shared) (m : Str → Option Value),
    ce.scope = scope → ce.cells.lookup y = some cy → r.heap.IsCell cy (some (.str z ty)) → r.heap.Ns ce.locals m → m x = some (.str ⟨#[c]⟩ t) →
    wpAny (model X.prog X.w) B (eval elt ce) (fun b r' => b = .bool (pb z c) ∧ Keeps r r') F r
/-- x in y, y captured -/
theorem elt_in {scope : Scope} {x y : Str} {p1 p2 p3 : Pos} (hk : scope.kind = .function) (hl : scope.names.lookup x = some .local) (hf : scope.names.lookup y = some .free)
    (hd : (x == ("__debug__" : Str)) = false := by decide) (hd2 : (y == ("__debug__" : Str)) = false := by decide) (hd3 : (y == ("__classdict__" : Str)) = false := by decide) :
    EltC X scope x y (.Compare (.Name x p1) [.In] [.Name y p2] p3) (fun z c => decide (c ∈ z.cps.toList)) := by
  intro z ce B F c t ty cy r m hs hc hcell hn hm
  have k1 : ce.scope.kind = .function := by rw [hs]; exact hk
  have k2 : ce.kindOf x = some .local := by show ce.scope.names.lookup x = _; rw [hs]; exact hl
  have k3 : ce.kindOf y = some .free := by show ce.scope.names.lookup y = _; rw [hs]; exact hf
  refine wpAny_Compare1 (wpAny_Name (wpAny_loadName_local k1 k2 hn hm ?_) hd)
  refine wpAny_Name (wpAny_loadName_free k1 k3 hc hcell ?_ hd3) hd2
  exact PyProof.Rows.in_str ⟨congrArg Value.bool (PySem.StrLaws.found_one z c), keeps_refl _⟩
/-- the reading: slot i holds the captured text -/
def tAllC (P : Addr) (i : Nat) (pb : Str → Nat → Bool) (te : TE) : TE := fun σ H Q => te σ H fun v H1 => ∃ a z : Str, v = .str a ∧ σ[i]? = some (some (.str z)) ∧ TabG H1 P ∧
  ∀ H2, Tabbed P H1 H2 → Q (.bl (a.cps.toList.all (pb z))) H2
theorem gen_cap {c P : Addr} {elt iter : Expr} {x y : Str} {px gpos : Pos} {scope : Scope} {pb : Str → Nat → Bool} {te : TE} {k i : Nat} {Q' : Value → Shared → Prop} {R : Str → Str → Hp → Prop}
    (hr : Room k X.A) (TB : GxR.TabB X.base X.mg c P) (hcode : X.env.code = .ref c) (S : GenS X.env scope x) (hN : X.N[i]? = some y) (hy : X.env.scope.names.lookup y = some .cell)
    (hcl : ∀ cells : List (Str × Addr), (cloFrom cells scope.names []).lookup y = some ((cells.lookup y).getD 0)) (hi : PE X iter te) (hel : EltC X scope x y elt pb)
    (hs : ∀ v, genFold iter X.env v = pure v) (I : Inv X pins σ H s) (h : te σ H fun v H1 => ∃ a z : Str, v = .str a ∧ σ[i]? = some (some (.str z)) ∧ TabG H1 P ∧ R a z H1)
    (hQ : ∀ a z H1 g s5, R a z H1 → Ready X pins σ H1 P a (pb z) g s5 → Q' (.ref g) s5) :
    wpAny (model X.prog X.w) X.A (eval (.GeneratorExp elt [⟨.Name x px, iter, [], 0⟩] scope gpos) X.env) Q' X.xe s := by
  refine wpAny_GeneratorExp_walksQ hr.hd S.co (closure_ok S.free) S.cell S.dot S.loc S.kind (by have := hr.dp; omega) ?_ hs
  refine thn (hi.run pins s σ H _ I h) fun xv s1 ⟨v, H1, I1, r1, q1⟩ => ?_
  obtain ⟨a, z, rfl, hz, ⟨ps, hP, ht⟩, q1⟩ := q1
  obtain ⟨t, rfl⟩ := _root_.id r1
  -- the captured cell
  obtain ⟨cy, ty, hcy, hcell⟩ : ∃ cy ty, X.env.cells.lookup y = some cy ∧ s1.heap.IsCell cy (some (.str z ty)) := by
    obtain ⟨m, hn, hl⟩ := I1.loc
    obtain ⟨u, ru, lk⟩ := hl i y (.str z) hN hz (.inr (.inl hy))
    obtain ⟨ty, rfl⟩ := _root_.id ru
    rcases lk with ⟨hk, _⟩ | ⟨_, cy, hcy, hcell⟩
    · have hk2 : X.env.scope.names.lookup y = some .local := hk
      rw [hy] at hk2
      cases hk2
    · exact ⟨cy, ty, hcy, hcell⟩
  refine wpAny_pyIter_str fun o St W hst => ?_
  have hPs : s1.heap.get? P = some { cls := .none, data := .fields ps } := I1.hok P _ hP
  have hPlt : P < s1.heap.objs.size := Heap.lt_size hPs
  have hP2 : (s1.heap.push o).get? P = some { cls := .none, data := .fields ps } := Heap.get?_push_of_some _ hPs
  have cd : PySem.W.CodeHd (s1.heap.push o) c P :=
    TB.code.keeps fun b u e => Heap.get?_push_of_some _ (I1.bk b u e)
  have lim2 : (s1.heap.push o).NoLimit := I1.nolimit.push o
  have cyP : cy ≠ P := fun e => by
    obtain ⟨oc, e1, e2⟩ := hcell
    rw [e, hPs] at e1
    cases e1
    cases e2
  -- what follows once the code object is there
  have go : ∀ (code : Value) (h3 : Heap) (tk : Nat) (ps' : Array Value), Heap.ExtBut P (s1.heap.push o) h3 →
      (s1.heap.push o).objs.size ≤ h3.objs.size → h3.get? P = some { cls := .none, data := .fields ps' } →
      (∃ more, ps' = ps ++ more) → TriplesOk ps'.toList →
      wpAny (model X.prog X.w) X.A (builtinsFor X.env.globals X.env.builtins) (fun bi s₄ =>
        ∃ Ia fp wr n₀ Pf St₀ pz F, Value.ref s1.heap.objs.size = .ref Ia ∧
          (∀ A' : Around, A'.handled = none → Walks X.prog X.w A' Ia fp wr n₀ Pf St₀) ∧ St₀ 0 s₄.heap ∧
          (∀ b ∈ fp, b < s₄.heap.objs.size) ∧ s₄.heap.NoLimit ∧ cStatics ∉ wr ∧
          (∀ href : Heap, (∀ b o, s₄.heap.get? b = some o → href.get? b = some o) →
            QuietGen X.prog X.w (genEnv scope (cloFrom X.env.cells scope.names []) s₄.heap.objs.size code bi X.env) x [] elt
              (List.range s₄.heap.objs.size) wr Pf pz F href) ∧
          (∀ a h₅ tk gs, gs.bare = true → s₄.heap.objs.size < a → h₅.objs.size = a + 1 →
            (∀ b o, s₄.heap.get? b = some o → h₅.get? b = some o) →
            WalksS X.prog X.w X.A.in4 a (a :: s₄.heap.objs.size :: List.range s₄.heap.objs.size) (s₄.heap.objs.size :: wr)
              (GenOnlyQ s₄.gens.size) (passing pz n₀ 0).length (fun j y => ∃ i, (passing pz n₀ 0)[j]? = some i ∧ F i y)
              (GenAt X.prog X.w X.A.in4 a s₄.gens.size s₄.heap.objs.size (List.range s₄.heap.objs.size) wr pz n₀ F) →
            GenAt X.prog X.w X.A.in4 a s₄.gens.size s₄.heap.objs.size (List.range s₄.heap.objs.size) wr pz n₀ F 0
              { s₄ with gens := s₄.gens.push gs, toks := tk, heap := h₅ } →
            Q' (.ref a) { s₄ with gens := s₄.gens.push gs, toks := tk, heap := h₅ })) X.xe { s1 with heap := h3, toks := tk } := by
    intro code h3 tk ps' hx hsz hP3 hmore ht3
    obtain ⟨bm, ob, e1, e2, e3, e4, e5, e6, e7, e8⟩ := TB.bm
    have hcP : cStatics ≠ P := fun e => by
      obtain ⟨_, hns, _⟩ := I1.nolimit
      obtain ⟨o', es, ep, ho, hd, _⟩ := hns
      rw [e, hPs] at ho
      cases ho
      cases hd
    have hcl2 : cStatics < s1.heap.objs.size := let ⟨_, hns, _⟩ := I1.nolimit; hns.lt
    have sz2 : (s1.heap.push o).objs.size = s1.heap.objs.size + 1 := Heap.size_push ..
    have keep3 : ∀ b u, b ≠ P → s1.heap.get? b = some u → h3.get? b = some u :=
      fun b u hb e => hx b u hb (Heap.get?_push_of_some _ e)
    refine wpAny_builtinsFor (m := X.mg) (by
      rw [I1.ok.glob]
      exact ((I1.mod.glob.keeps I1.bk).push o).extBut hx TB.gP) e1 e2 (keep3 _ _ e4 (I1.bk _ _ e5)) e6 e7 e8 ?_
    refine ⟨s1.heap.objs.size, [s1.heap.objs.size], [s1.heap.objs.size], a.cps.size, SignAt a, St, (fun _ => true),
      (fun i y => ∃ cc, a.cps[i]? = some cc ∧ y = .bool (pb z cc)), rfl, W, ?_, ?_, lim2.extBut hx hcP, ?_, ?_, ?_⟩
    · refine (W X.A hr.hd).frame _ _ _ hst fun b hb u e => hx b u (fun q => ?_) e
      rcases List.mem_cons.mp hb with q2 | q2
      · exact Nat.ne_of_lt hPlt (q.symm.trans q2)
      · cases q2
    · intro b hb
      rcases List.mem_cons.mp hb with q | q
      · rw [q]
        show s1.heap.objs.size < h3.objs.size
        omega
      · cases q
    · intro q
      rcases List.mem_cons.mp q with q | q
      · exact Nat.ne_of_lt hcl2 q
      · cases q
    · intro href hhref
      refine ⟨fun A' E' i v s₂ m₂ hA hPv hn hm hk => ?_, fun A' E' i v s₂ m₂ hA hPv hp hn hm hk => ?_⟩
      · simp only [List.forIn_nil]
        exact wpAny_pure ⟨rfl, keeps_refl _⟩
      · obtain ⟨cc, u, hcc, rfl⟩ := hPv
        obtain ⟨oc, c1, c2⟩ := hcell
        have sz3 : s1.heap.objs.size ≤ h3.objs.size := by omega
        have c3 := hk cy (List.mem_range.mpr (Nat.lt_of_lt_of_le (Heap.lt_size c1) sz3)) (fun q => by
            rcases List.mem_cons.mp q with q | q
            · exact absurd (Heap.lt_size c1) (by rw [q]; exact Nat.lt_irrefl _)
            · cases q) oc (hhref _ _ (keep3 _ _ cyP c1))
        have lk : (genEnv scope (cloFrom X.env.cells scope.names []) h3.objs.size code builtinsNs X.env).cells.lookup y = some cy := by
          show (cloFrom X.env.cells scope.names []).lookup y = some cy
          rw [hcl, hcy]
          rfl
        exact wpAny_mono (hel z _ A' E' cc u ty cy s₂ m₂ rfl lk ⟨oc, c3, c2⟩ hn hm) (fun y s3 r => ⟨⟨cc, hcc, r.1⟩, r.2⟩) fun _ _ e => e
    · intro g h5 tk5 gs hgb hag hsz5 hk5 W5 hat
      simp only [GxR.passing_true, List.length_range] at W5
      refine hQ a z H1 g _ q1 ⟨_, _, _, _, _, W5.in4_1, hat, ?_, fun s' hm => ?_⟩
      · intro j y sj Qj Ej hy2 hQj
        obtain ⟨i2, hij, cc, hcc, rfl⟩ := hy2
        obtain ⟨hj, ej⟩ := List.getElem?_eq_some_iff.mp hij
        rw [List.getElem_range] at ej
        subst ej
        have e9 : a.cps.toList[j]? = some cc := by
          rw [Array.getElem?_toList]
          exact hcc
        have hQ2 : Qj (trF (pb z) a.cps.toList j) sj := hQj
        rw [trF_some e9] at hQ2
        exact wpAny_truthy_bool hQ2
      · obtain ⟨more, em⟩ := hmore
        have nwr : ∀ b u, s1.heap.get? b = some u → b ∉ h3.objs.size :: [s1.heap.objs.size] := fun b u e hb => by
          have hl := Heap.lt_size e
          rcases List.mem_cons.mp hb with q | q
          · rw [q] at hl
            have h9 : (h3.objs.size : Nat) < s1.heap.objs.size := hl
            omega
          · rcases List.mem_cons.mp q with q | q
            · rw [q] at hl
              exact Nat.lt_irrefl _ hl
            · cases q
        have J := inv_tab (more := more) (h' := s'.heap) (g' := s'.gens) (d' := s'.drawn) (t' := s'.toks) I1 hP
          (fun b u hb e => hm.heap b u (nwr b u e) (hk5 b u (keep3 b u hb e)))
          (by rw [← em]; exact hm.heap P _ (nwr P _ hPs) (hk5 P _ hP3)) (AllBare.movedS (I1.bare.push hgb) hm)
        rw [sh_eta s1 s' hm.os] at J
        exact ⟨upd H1 P (.tbl (ps ++ more)), ⟨⟨ps ++ more, upd_same, by rw [← em]; exact ht3⟩, fun b hb => upd_ne hb⟩, J⟩
  refine ⟨lim2, ?_⟩
  cases hf : codeAmong gpos ps.toList with
  | none =>
    refine wpAny_genexprCodeX hcode (cd.code hP2 ht) (cd.tab hP2) hf fun c' h' tk hx hge hlt hco' _ htab' _ => ?_
    obtain ⟨o1, vs, f1, tf, fl, tg, inF, tx, tt, op, _, _, _, _, _, _, _, _, _, htr, _⟩ := hco'
    exact go _ h' tk _ hx (Nat.le_trans hge (Nat.le_of_lt hlt)) htab'.2 ⟨_, rfl⟩ htr
  | some cv =>
    refine wpAny_genexprCode_hit hcode (cd.code hP2 ht) hf ?_
    exact go cv (s1.heap.push o) s1.toks ps (Heap.ExtBut.refl _ _) (Nat.le_refl _) hP2 ⟨#[], by simp⟩ ht
theorem pe_allC {c P : Addr} {elt iter : Expr} {x y : Str} {px p pos gpos : Pos} {scope : Scope} {pb : Str → Nat → Bool} {te : TE} {k i : Nat}
    (hr : Room k X.A) (hg : Gl X "all") (hm : X.mg "all" = none) (hb : bootBuiltins "all" = some (.builtin "all")) (TB : GxR.TabB X.base X.mg c P) (hcode : X.env.code = .ref c) (S : GenS X.env scope x)
    (hN : X.N[i]? = some y) (hy : X.env.scope.names.lookup y = some .cell) (hcl : ∀ cells : List (Str × Addr), (cloFrom cells scope.names []).lookup y = some ((cells.lookup y).getD 0))
    (hi : PE X iter te) (hel : EltC X scope x y elt pb) (hs : ∀ v, genFold iter X.env v = pure v)
    (he : starEach [.GeneratorExp elt [⟨.Name x px, iter, [], 0⟩] scope gpos] X.env = (false, eval (.GeneratorExp elt [⟨.Name x px, iter, [], 0⟩] scope gpos) X.env) :: starEach [] X.env := by rfl) :
    PE X (.Call (.Name "all" p) [.GeneratorExp elt [⟨.Name x px, iter, [], 0⟩] scope gpos] [] pos) (tAllC P i pb te) := by
  refine ⟨fun pins s σ H Q I h => ?_⟩
  refine wpAny_Call_Name_kw (ld_blt I hg hm hb (PyProof.Rows.callWith_builtin1 ?_ he (by rfl)))
  rw [he]
  show wpAny _ _ (spliced ((false, eval (.GeneratorExp elt [⟨.Name x px, iter, [], 0⟩] scope gpos) X.env) :: backTo pos (starEach [] X.env))) _ _ s
  refine Calls.spliced_cons (gen_cap (i := i) (y := y) (R := fun a z H1 => ∀ H2, Tabbed P H1 H2 → Q (.bl (a.cps.toList.all (pb z))) H2)
    hr TB hcode S hN hy hcl hi hel hs I h fun a z H1 g s5 hR hG => ?_)
  obtain ⟨fp, wr, G, F, St, W, hst, htr, hI⟩ := hG
  refine Calls.spliced_nil (call_all_walkS (W.self 0 _ _ _ hst ⟨g, fp, wr, G, _, F, St, _, rfl, W, hst, htr, fun s' hmv => ?_⟩))
  obtain ⟨H2, hT, J⟩ := hI s' hmv
  refine ⟨.bl _, H2, J, rfl, ?_⟩
  rw [all_signs a (pb z)]
  exact hR H2 hT
end
end Wk

set_option Elab.async false
set_option linter.all false
set_option maxRecDepth 100000
set_option maxHeartbeats 2000000
/-! Names: what is computed, and promises. -/
namespace Wk
open PySem PySem.Spec PyProof.Rows L2 GxR
abbrev fg : Str := "0123456789"
def wordB (z s : Str) : Bool := decide (1 ≤ z.length) && (decide (z.length ≤ 6) && z.cps.toList.all fun c => decide (c ∈ s.cps.toList))
def takenV : List V := [.str "in", .str "out", .str "open", .str "new"]
def nameB (z : Str) : Bool := !inV (.str z) takenV && wordB z abc
def nmV : V → Bool
  | .str z => nameB z
  | _ => false
inductive Thing (H : Hp) : V → Prop where
  | str (z : Str) (h : z.length ≤ 1000) : Thing H (.str z)
  | non : Thing H .non
  | int (i : Int) : Thing H (.int i)
  | bl (b : Bool) : Thing H (.bl b)
  | lst {a : Addr} {xs : List V} (e : H a = some (.lst xs)) : Thing H (.ref a)
  | tup {a : Addr} {xs : List V} (e : H a = some (.tup xs)) : Thing H (.ref a)
  | dct {a : Addr} {xs : List (Key × V)} (e : H a = some (.dK xs)) : Thing H (.ref a)
def strish : V → Bool
  | .str _ => true
  | _ => false
theorem Thing.ty {K : PySem.W.Frag} {H : Hp} {v : V} (h : Thing H v) : ∃ t : String, TyX K H v (.type t) ∧ PySem.W.kitOne K (.type t) (.type "str") = some (strish v) := by
  cases h with
  | str z h => exact ⟨_, .base (.str z), kit_ty (show kitB "str" "str" = some true by decide +kernel)⟩
  | non => exact ⟨_, .base .non, kit_ty (show kitB "NoneType" "str" = some false by decide +kernel)⟩
  | int i => exact ⟨_, .base (.int i), kit_ty (show kitB "int" "str" = some false by decide +kernel)⟩
  | bl b => exact ⟨_, .base (.bl b), kit_ty (show kitB "bool" "str" = some false by decide +kernel)⟩
  | lst e => exact ⟨_, .base (.lst e), kit_ty (show kitB "list" "str" = some false by decide +kernel)⟩
  | tup e => exact ⟨_, .base (.tup e), kit_ty (show kitB "tuple" "str" = some false by decide +kernel)⟩
  | dct e => exact ⟨_, .base (.dK e), kit_ty (show kitB "dict" "str" = some false by decide +kernel)⟩
theorem Thing.cases {H : Hp} {v : V} (h : Thing H v) : (∃ z : Str, v = .str z ∧ z.length ≤ 1000) ∨ (strish v = false ∧ nmV v = false) := by
  cases h with
  | str z h => exact .inl ⟨z, rfl, h⟩
  | _ => exact .inr ⟨rfl, rfl⟩
def spWord (Ts : List Addr) : Sp := fun vs H Q _ => ∃ z s : Str, vs = [.str z, .str s] ∧ z.length ≤ 1000 ∧ TabsG Ts H ∧ ∀ H', SamTs Ts H H' → Q (.bl (wordB z s)) H'
def spName (Ts : List Addr) (g : V → Bool) : Sp := fun vs H Q _ => ∃ v : V, vs = [v] ∧ Thing H v ∧ TabsG Ts H ∧ ∀ H', SamTs Ts H H' → Q (.bl (g v)) H'
/-! drawn names are names -/
theorem name_len {j : Nat} {z : Str} (h : NameOf j z) : z.length ≤ 6 ∧ 1 ≤ z.length := by
  obtain ⟨r, e, h1, _⟩ := h
  have : z.length = z.cps.toList.length := (Array.length_toList).symm
  rw [this, e, List.length_cons]
  omega
theorem name_word {j : Nat} {z : Str} (h : NameOf j z) (hj : j < 26) : wordB z abc = true := by
  obtain ⟨l1, l2⟩ := name_len h
  obtain ⟨r, e, h1, h2⟩ := h
  have va : ∀ c ∈ vow.cps.toList, c ∈ abc.cps.toList := by decide +kernel
  have ja : 97 + j ∈ abc.cps.toList := List.mem_of_getElem? (abc_at j hj)
  unfold wordB
  rw [decide_eq_true l2, decide_eq_true l1, Bool.true_and, Bool.true_and, List.all_eq_true]
  intro c hc
  rw [e] at hc
  rcases List.mem_cons.mp hc with q | q
  · rw [q]; exact decide_eq_true ja
  · exact decide_eq_true (va c (h2 c q))
/-! the second sign of a drawn name is a vowel, x, y or z: it is none of the four words -/
theorem name_free {j : Nat} {z : Str} (h : NameOf j z) : inV (.str z) takenV = false := by
  obtain ⟨r, e, h1, h2⟩ := h
  have no : ∀ (t : Str) (c : Nat), c ∈ t.cps.toList.drop 1 → c ∉ vow.cps.toList → z ≠ t := by
    intro t c hc hv ez
    rw [← ez, e] at hc
    exact hv (h2 c hc)
  have n1 : z ≠ "in" := no "in" 110 (by decide +kernel) (by decide +kernel)
  have n2 : z ≠ "out" := no "out" 116 (by decide +kernel) (by decide +kernel)
  have n3 : z ≠ "open" := no "open" 112 (by decide +kernel) (by decide +kernel)
  have n4 : z ≠ "new" := no "new" 119 (by decide +kernel) (by decide +kernel)
  have e5 : takenV = (["in", "out", "open", "new"] : List Str).map V.str := rfl
  rw [e5, inV_strs]
  exact decide_eq_false (by simp [n1, n2, n3, n4])
theorem name_ok {j : Nat} {z : Str} (h : NameOf j z) (hj : j < 26) : nameB z = true := by
  unfold nameB
  rw [name_free h, name_word h hj]
  rfl
end Wk

set_option Elab.async false
set_option linter.all false
set_option maxRecDepth 100000
set_option maxHeartbeats 2000000
/-! d.get(x) of a dict that the module wrote, its keys texts. -/
namespace Wk
open PySem PySem.Spec PyProof.Rows L2 GxR
/-- at a: a written dict in which x has r -/
def KGot (K : PySem.W.Frag) (w : World) (a : Addr) : Prop := ∃ es n, K.lookup a = some ⟨.type "dict", none, .dict es n, #[]⟩ ∧ PySem.W.KeysLit w.params es.toList ∧ (a == sysModules) = false
def tKGet (K : PySem.W.Frag) (w : World) (td ty : TE) : TE := fun σ H Q => td σ H fun x H1 => ∃ a, x = .ref a ∧ KGot K w a ∧ ty σ H1 fun y H2 => ∃ (z : Str) (r : Option Value) (v0 : V), y = .str z ∧ PySem.W.nsIn K a z = some r ∧ RelV v0 (r.getD .none) ∧ Q v0 H2
section
variable {X : Cx} {o e : Expr} {apos cpos : Pos} {td ty : TE}
theorem pe_kget (ho : PE X o td) (he : PE X e ty) (m : M1 X o "get" apos e cpos) : PE X (.Call (.Attribute o "get" apos) [e] [] cpos) (tKGet X.K X.w td ty) := by
  refine ⟨fun pins s σ H Q I h => ?_⟩
  refine wpAny_Call_method m.base m.few m.line PySem.F.plainAttrs_dict PySem.F.slot_dict_get PySem.F.type_dict_get (thn (ho.run pins s σ H _ I h) fun u s1 ⟨x, H1, I1, rx, a, ex, d, q1⟩ => ?_)
  subst ex
  obtain rfl : u = Value.ref a := rx
  obtain ⟨es, n, hl, hk, low⟩ := d
  have mp := fun (s : Shared) (k : X.K.In s.heap) => PySem.W.mapOf_K (prog := X.prog) (w := X.w) k hl hk
  refine ⟨(mp s1 I1.kIn).typeIs, fun b eb => ?_, ?_⟩
  · cases eb
    exact ⟨_, I1.kIn _ _ hl, rfl⟩
  rw [m.trees]
  refine Calls.callWith_builtin rfl (Calls.evalArgs_plain (Calls.spliced_cons (thn (he.run pins s1 σ H1 _ I1 q1) fun iv s2 ⟨y, H2, I2, ry, z, r, v0, ey, g, rv, q2⟩ => Calls.spliced_nil ?_)))
  subst ey
  obtain ⟨t, rfl⟩ := (show ∃ t, iv = Value.str z t from ry)
  refine call_meetsIn PySem.F.slot_dict_get (mp s2 I2.kIn).typeIs PySem.F.entry_dict_get (PySem.F.args_dict_get_2 _ _) (meets_dict_get (strKind X.prog X.w) a (strKind_is X.prog X.w z t) low) ⟨_, mp s2 I2.kIn, ?_⟩
  rw [PySem.W.find_K hl g]
  exact ⟨v0, H2, I2.tok _, rv, q2⟩
end
end Wk

set_option Elab.async false
set_option linter.all false
set_option maxRecDepth 100000
set_option maxHeartbeats 2000000
/-! What is a house: levels of rows, promises. -/
namespace Wk
open PySem PySem.Spec PyProof.Rows L2 GxR
/-- how many things a part has -/
def szP : Part → Nat
  | .say _ => 2
  | .again _ => 2
  | .oth _ _ _ => 3
def NmOk (n : Str) : Prop := nameB n = true ∧ n.length ≤ 1000
/-- parts and their rests, level by level -/
def flL (ls : List (List Part)) : List Part := ls.flatten
def nxL (ls : List (List Part)) : List (List Part) := (flL ls).map restP
theorem flL_cons (r : List Part) (ls : List (List Part)) : flL (r :: ls) = r ++ flL ls := rfl
theorem sizeR_rests : ∀ r : List Part, sizeR r = r.length + sizeL (r.map restP)
  | [] => rfl
  | p :: r => by
    have h := sizeR_rests r
    have s := size_rest p
    show sizeP p + sizeR r = r.length + 1 + (sizeR (restP p) + sizeL (r.map restP))
    omega
theorem sizeL_rests : ∀ ls : List (List Part), sizeL ls = (flL ls).length + sizeL (nxL ls)
  | [] => rfl
  | r :: ls => by
    have h := sizeL_rests ls
    have h2 := sizeR_rests r
    show sizeR r + sizeL ls = (r ++ flL ls).length + sizeL ((r ++ flL ls).map restP)
    rw [List.length_append, List.map_append, sizeL_app]
    have e : sizeL (nxL ls) = sizeL ((flL ls).map restP) := rfl
    omega
theorem deepR_rests : ∀ r : List Part, deepL (r.map restP) ≤ deepR r - 1
  | [] => Nat.le_refl _
  | p :: r => by
    have h := deepR_rests r
    have d := deep_rest p
    show max (deepR (restP p)) (deepL (r.map restP)) ≤ max (deepP p) (deepR r) - 1
    omega
theorem deepL_rests : ∀ ls : List (List Part), deepL (nxL ls) ≤ deepL ls - 1
  | [] => Nat.le_refl _
  | r :: ls => by
    have h := deepL_rests ls
    have h2 := deepR_rests r
    show deepL ((r ++ flL ls).map restP) ≤ max (deepR r) (deepL ls) - 1
    rw [List.map_append, deepL_app]
    have e : deepL (nxL ls) = deepL ((flL ls).map restP) := rfl
    omega
theorem deep_posP : ∀ p : Part, 1 ≤ deepP p := fun p => by
  have := deep_rest p
  omega
theorem deepL_pos : ∀ ls : List (List Part), flL ls ≠ [] → 1 ≤ deepL ls
  | [], h => absurd rfl h
  | [] :: ls, h => by
    have := deepL_pos ls h
    show 1 ≤ max (deepR []) (deepL ls)
    omega
  | (p :: r) :: ls, h => by
    have := deep_posP p
    show 1 ≤ max (max (deepP p) (deepR r)) (deepL ls)
    omega
def okLs (f : Str → Prop) (ls : List (List Part)) : Prop := ∀ r ∈ ls, okR f r
theorem okLs.parts {f : Str → Prop} {ls : List (List Part)} (h : okLs f ls) : ∀ p ∈ flL ls, okP f p := fun p hp => by
  obtain ⟨r, hr, hp⟩ := List.mem_flatten.mp hp
  exact (h r hr).mem p hp
theorem okLs.next {f : Str → Prop} {ls : List (List Part)} (h : okLs f ls) : okLs f (nxL ls) := fun r hr => by
  obtain ⟨p, hp, rfl⟩ := List.mem_map.mp hr
  exact rest_ok (h.parts p hp)
theorem len_sum : ∀ (ls : List (List Part)) (i : Nat), i ≤ ls.length → preSum (fun j => ((ls[j]?).elim (0 : Int) fun r => (r.length : Nat))) i = ((flL (ls.take i)).length : Nat)
  | ls, 0, _ => by simp [preSum, flL]
  | ls, i + 1, h => by
    have hi : i < ls.length := h
    rw [preSum, len_sum ls i (Nat.le_of_lt hi), List.take_add_one, List.getElem?_eq_getElem hi]
    unfold flL
    rw [List.flatten_append, List.length_append]
    simp
theorem flL_take (ls : List (List Part)) (i : Nat) : (flL (ls.take i)).length ≤ (flL ls).length := by
  have e : flL ls = flL (ls.take i) ++ flL (ls.drop i) := by
    unfold flL
    rw [← List.flatten_append, List.take_append_drop]
  rw [e, List.length_append]
  omega
def spForm : Sp := fun vs H Q _ => ∃ (v : V) (p : Part), vs = [v] ∧ PartAt H p v ∧ Q (.bl true) H
def spNPart (Ts : List Addr) : Sp := fun vs H Q _ => ∃ (v : V) (p : Part), vs = [v] ∧ PartAt H p v ∧ okP NmOk p ∧ TabsG Ts H ∧ ∀ H', SamTs Ts H H' → Q (.bl true) H'
def spSmall (Ts : List Addr) : Sp := fun vs H Q _ => ∃ (v : V) (r : List Part), vs = [v] ∧ RowAt H r v ∧ okR NmOk r ∧ sizeR r ≤ 400 ∧ deepR r ≤ 24 ∧ TabsG Ts H ∧ ∀ H', SamTs Ts H H' → Q (.bl true) H'
/-- a row that is a house -/
structure HouseR (r : List Part) : Prop where
  ok : okR NmOk r
  size : sizeR r ≤ 400
  deep : deepR r ≤ 24
  nd : (bdR r).Nodup
  apart : ∀ x ∈ bdR r, x ∉ frR [] r
def spHouse (Ts : List Addr) (n : Nat) : Sp := fun vs H Q _ => ∃ (v : V) (r : List Part), vs = [v] ∧ RowAt H r v ∧ HouseR r ∧ deepR r < n ∧ TabsG Ts H ∧ ∀ H', SamTs Ts H H' → Q (.bl true) H'
end Wk
namespace Wk
open PySem PySem.Spec PyProof.Rows L2 GxR
theorem FunC.okN {P : Program} {w : World} {K : PySem.W.Frag} {mg : Str → Option Value} {base : Heap} {x qual : Str} {st : Stmt} {f c : Addr} {fd : FuncData} {N ps : List Str} {k : Nat} {sp : Sp} (F : FunC K x qual st f c fd) (S : FnScope N ps (defScope st))
    (len : ∀ vs H Q E, sp vs H Q E → vs.length = ps.length)
    (hb : ∀ (A : Around) (outer : List Env) (s : Shared) (H : Hp) (vs : List V) (Q : VK) (E : XK), Room k (A.deeper (envOfC qual (defScope st) s.heap.objs.size f (.ref c))) → sp vs H Q E →
      ∃ t, PSs (cxOf CX0 P w K mg base N qual (defScope st) f (.ref c) A outer s H E).nox (defBody st) t ∧ t { nx := fun _ H' => Q .non H', rt := Q } (start N vs) H) : FnOk P w K mg base CX0 (k + 1) f fd ps sp :=
  F.ok S len fun A outer s H vs Q E hr h => by
    obtain ⟨t, g, q⟩ := hb A outer s H vs Q E hr h
    exact ⟨t, g.nox, q⟩
end Wk

set_option Elab.async false
set_option linter.all false
set_option maxRecDepth 100000
set_option maxHeartbeats 2000000
/-! Rows freed: what is computed, and what stays true. -/
namespace Wk
open PySem PySem.Spec PyProof.Rows L2 GxR
theorem emp_app (x : Str) : Str.empty ++ x = x := by
  refine Str.ext' (Array.toList_inj.mp ?_)
  rw [app_codes]
  rfl
/-- the private name with base x and number k -/
def priv (x : Str) (k : Nat) : Str := x ++ "." ++ Str.ofString (toString (k : Int))
/-- one part freed, where f frees rows -/
def frdP (f : Nat → List Part → Nat × List Part) (k : Nat) : Part → Nat × List Part
  | .say n => (k, [.say n])
  | .again r => (k, [.again r])
  | .oth w n r => match w with
    | .room => ((f k r).1, [.oth .room n (f k r).2])
    | .new => f (k + 1) (calledR n (priv n k) r)
    | w => (k, [.oth w n r])
def frdL (f : Nat → List Part → Nat × List Part) : Nat → List Part → Nat × List Part
  | k, [] => (k, [])
  | k, p :: r => ((frdL f (frdP f k p).1 r).1, (frdP f k p).2 ++ (frdL f (frdP f k p).1 r).2)
def frdR : Nat → Nat → List Part → Nat × List Part
  | 0, k, r => (k, r)
  | n + 1, k, r => frdL (frdR n) k r
theorem frdL_snoc (f : Nat → List Part → Nat × List Part) : ∀ (r : List Part) (k : Nat) (p : Part), frdL f k (r ++ [p]) = ((frdP f (frdL f k r).1 p).1, (frdL f k r).2 ++ (frdP f (frdL f k r).1 p).2)
  | [], k, p => by
    show ((frdP f k p).1, (frdP f k p).2 ++ []) = ((frdP f k p).1, [] ++ (frdP f k p).2)
    rw [List.append_nil, List.nil_append]
  | q :: r, k, p => by
    show ((frdL f (frdP f k q).1 (r ++ [p])).1, (frdP f k q).2 ++ (frdL f (frdP f k q).1 (r ++ [p])).2) = _
    rw [frdL_snoc f r (frdP f k q).1 p]
    show (_, (frdP f k q).2 ++ (_ ++ _)) = (_, ((frdP f k q).2 ++ _) ++ _)
    rw [List.append_assoc]
    rfl
mutual
/-- no part that is open is a new -/
def nnP : Part → Prop
  | .say _ => True
  | .again _ => True
  | .oth w _ r => w ≠ .new ∧ (w = .room → nnR r)
def nnR : List Part → Prop
  | [] => True
  | p :: r => nnP p ∧ nnR r
end
theorem nnR_app : ∀ {r q : List Part}, nnR r → nnR q → nnR (r ++ q)
  | [], q, _, g => g
  | p :: r, q, h, g => ⟨h.1, nnR_app h.2 g⟩
theorem nnR.mem : ∀ {r : List Part}, nnR r → ∀ p ∈ r, nnP p
  | [], _, p, hp => nomatch hp
  | q :: r, h, p, hp => by
    rcases List.mem_cons.mp hp with e | e
    · rw [e]; exact h.1
    · exact nnR.mem h.2 p e
/-- what is freed is freed -/
theorem frdR_id : ∀ (n k : Nat) (r : List Part), nnR r → frdR n k r = (k, r)
  | 0, k, r, _ => rfl
  | n + 1, k, r, h => by
    show frdL (frdR n) k r = (k, r)
    induction r with
    | nil => rfl
    | cons p r ih =>
      have e : frdP (frdR n) k p = (k, [p]) := by
        cases p with
        | say m => rfl
        | again q => rfl
        | oth w m q =>
          obtain ⟨h1, h2⟩ := h.1
          cases w with
          | room =>
            show ((frdR n k q).1, [Part.oth .room m (frdR n k q).2]) = _
            rw [frdR_id n k q (h2 rfl)]
          | new => exact absurd rfl h1
          | _ => rfl
      show ((frdL (frdR n) (frdP (frdR n) k p).1 r).1, (frdP (frdR n) k p).2 ++ (frdL (frdR n) (frdP (frdR n) k p).1 r).2) = _
      rw [e]
      dsimp only
      rw [ih h.2]
      rfl
/-! ### what stays -/
/-- names short, bound ones shorter and each bound once -/
structure Gd (r : List Part) : Prop where
  ok : okR (Sh 30) r
  sh : ∀ x ∈ bdR r, Sh 6 x
  nd : (bdR r).Nodup
structure FrOk (k : Nat) (r : List Part) (o : Nat × List Part) : Prop where
  lo : k ≤ o.1
  hi : o.1 ≤ k + sizeR r
  deep : deepR o.2 ≤ deepR r
  size : sizeR o.2 ≤ sizeR r
  bd : (bdR o.2).Sublist (bdR r)
  ok : okR (Sh 30) o.2
  nn : nnR o.2
theorem FrOk.gd {k : Nat} {r : List Part} {o : Nat × List Part} (h : FrOk k r o) (g : Gd r) : Gd o.2 := ⟨h.ok, fun x hx => g.sh x (h.bd.subset hx), h.bd.nodup g.nd⟩
theorem priv_sh {x : Str} {k : Nat} (h : Sh 6 x) (hk : k < 10 ^ 10) : Sh 30 (priv x k) := by
  have shd : Sh 1 "." := by unfold Sh; decide +kernel
  have shn : Sh 10 (Str.ofString (toString (k : Int))) := num_sh (by omega) (by omega)
  exact ((h.app shd).app shn).mono (by decide)
theorem Gd.tail {p : Part} {r : List Part} (g : Gd (p :: r)) : Gd r := ⟨g.ok.2, fun x hx => g.sh x (List.mem_append_right _ hx), (List.nodup_append.mp (show (bdP p ++ bdR r).Nodup from g.nd)).2.1⟩
theorem Gd.head {p : Part} {r : List Part} (g : Gd (p :: r)) : Gd [p] := ⟨⟨g.ok.1, trivial⟩, fun x hx => g.sh x (by
    have : bdR [p] = bdP p := List.append_nil _
    rw [this] at hx
    exact List.mem_append_left _ hx), by
    have : bdR [p] = bdP p := List.append_nil _
    rw [this]
    exact (List.nodup_append.mp (show (bdP p ++ bdR r).Nodup from g.nd)).1⟩
theorem Gd.mem : ∀ {r : List Part}, Gd r → ∀ p ∈ r, Gd [p]
  | q :: r, g, p, hp => by
    rcases List.mem_cons.mp hp with e | e
    · rw [e]; exact g.head
    · exact Gd.mem g.tail p e
theorem Gd.rest {p : Part} (g : Gd [p]) : Gd (restP p) := by
  have e : bdR [p] = bdP p := List.append_nil _
  refine ⟨rest_ok g.ok.1, fun x hx => g.sh x (by rw [e]; exact rest_bd hx), ?_⟩
  have h := g.nd
  rw [e, bdP_eq] at h
  exact (List.nodup_append.mp h).2.1
theorem Gd.out {w : Wd} {x : Str} {r : List Part} (g : Gd [.oth w x r]) (hw : w.binds = true) : x ∉ bdR r ∧ Sh 6 x := by
  have e : bdR [.oth w x r] = x :: bdR r := by
    show ((if w.binds then [x] else []) ++ bdR r) ++ [] = _
    rw [if_pos hw, List.append_nil]
    rfl
  have h := g.nd
  have s := g.sh
  rw [e] at h s
  exact ⟨(List.nodup_cons.mp h).1, s x List.mem_cons_self⟩
theorem Gd.called {x c : Str} {r : List Part} (g : Gd r) (hx : x ∉ bdR r) (hc : Sh 30 c) : Gd (calledR x c r) := by
  have e : bdR (calledR x c r) = bdR r := by rw [called_lcR r hx]; exact lc_bdR r hx
  refine ⟨calledR_ok x c hc r g.ok, ?_, ?_⟩
  · rw [e]; exact g.sh
  · rw [e]; exact g.nd
theorem frd_ok : ∀ (n k : Nat) (r : List Part), deepR r ≤ n → Gd r → k + sizeR r < 10 ^ 10 → FrOk k r (frdR n k r)
  | 0, k, r, hd, g, hk => by
    have e : r = [] := by
      cases r with
      | nil => rfl
      | cons p r =>
        have := deep_rest p
        have h2 : max (deepP p) (deepR r) ≤ 0 := hd
        omega
    subst e
    exact ⟨Nat.le_refl _, Nat.le_refl _, Nat.le_refl _, Nat.le_refl _, List.Sublist.refl _, trivial, trivial⟩
  | n + 1, k, r, hd, g, hk => by
    show FrOk k r (frdL (frdR n) k r)
    induction r generalizing k with
    | nil => exact ⟨Nat.le_refl _, Nat.le_refl _, Nat.le_refl _, Nat.le_refl _, List.Sublist.refl _, trivial, trivial⟩
    | cons p r ih =>
      have hd' : max (deepP p) (deepR r) ≤ n + 1 := hd
      have hk' : k + (sizeP p + sizeR r) < 10 ^ 10 := hk
      have g1 := g.head
      have d2 := deep_rest p
      have s2 := size_rest p
      have one : FrOk k [p] (frdP (frdR n) k p) := by
        cases p with
        | say m => exact ⟨Nat.le_refl _, Nat.le_add_right _ _, Nat.le_refl _, Nat.le_refl _, List.Sublist.refl _, g1.ok, trivial, trivial⟩
        | again q => exact ⟨Nat.le_refl _, Nat.le_add_right _ _, Nat.le_refl _, Nat.le_refl _, List.Sublist.refl _, g1.ok, trivial, trivial⟩
        | oth w m q =>
          have v1 : deepR (restP (Part.oth w m q)) = deepR q := rfl
          have v2 : sizeR (restP (Part.oth w m q)) = sizeR q := rfl
          have z1 : sizeR [Part.oth w m q] = sizeR q + 1 := rfl
          have z2 : deepR [Part.oth w m q] = deepR q + 1 := by show max (deepR q + 1) 0 = _; omega
          cases w with
          | room =>
            have f := frd_ok n k q (by omega) g1.rest (by omega)
            refine ⟨f.lo, by have := f.hi; show (frdR n k q).1 ≤ _; omega, ?_, ?_, ?_, ⟨⟨g1.ok.1.1, f.ok⟩, trivial⟩, ⟨⟨(fun e => by cases e), fun _ => f.nn⟩, trivial⟩⟩
            · have := f.deep
              show max (deepR (frdR n k q).2 + 1) 0 ≤ _
              omega
            · have := f.size
              show sizeR (frdR n k q).2 + 1 ≤ _
              omega
            · show (bdR [Part.oth .room m (frdR n k q).2]).Sublist (bdR [Part.oth .room m q])
              have e1 : ∀ t, bdR [Part.oth .room m t] = bdR t := fun t => by
                show ([] ++ bdR t) ++ [] = _
                rw [List.append_nil]; rfl
              rw [e1, e1]
              exact f.bd
          | new =>
            obtain ⟨hx, hs⟩ := g1.out rfl
            have eb : bdR (calledR m (priv m k) q) = bdR q := by rw [called_lcR q hx]; exact lc_bdR q hx
            have f := frd_ok n (k + 1) (calledR m (priv m k) q) (by rw [calledR_deep]; omega) (g1.rest.called hx (priv_sh hs (by omega))) (by rw [calledR_size]; omega)
            have fl := f.lo
            have fh := f.hi
            have fd := f.deep
            have fs := f.size
            rw [calledR_size] at fh fs
            rw [calledR_deep] at fd
            refine ⟨?_, ?_, ?_, ?_, ?_, f.ok, f.nn⟩
            · show k ≤ (frdR n (k + 1) (calledR m (priv m k) q)).1; omega
            · show (frdR n (k + 1) (calledR m (priv m k) q)).1 ≤ _; omega
            · show deepR (frdR n (k + 1) (calledR m (priv m k) q)).2 ≤ _; omega
            · show sizeR (frdR n (k + 1) (calledR m (priv m k) q)).2 ≤ _; omega
            · have b := f.bd
              rw [eb] at b
              show (bdR (frdR n (k + 1) (calledR m (priv m k) q)).2).Sublist ((m :: bdR q) ++ [])
              rw [List.append_nil]
              exact b.cons m
          | inn => exact ⟨Nat.le_refl _, Nat.le_add_right _ _, Nat.le_refl _, Nat.le_refl _, List.Sublist.refl _, g1.ok, ⟨(fun e => by cases e), (fun e => by cases e)⟩, trivial⟩
          | out => exact ⟨Nat.le_refl _, Nat.le_add_right _ _, Nat.le_refl _, Nat.le_refl _, List.Sublist.refl _, g1.ok, ⟨(fun e => by cases e), (fun e => by cases e)⟩, trivial⟩
          | opn => exact ⟨Nat.le_refl _, Nat.le_add_right _ _, Nat.le_refl _, Nat.le_refl _, List.Sublist.refl _, g1.ok, ⟨(fun e => by cases e), (fun e => by cases e)⟩, trivial⟩
          | hear => exact ⟨Nat.le_refl _, Nat.le_add_right _ _, Nat.le_refl _, Nat.le_refl _, List.Sublist.refl _, g1.ok, ⟨(fun e => by cases e), (fun e => by cases e)⟩, trivial⟩
      have o1 := one.lo
      have o2 := one.hi
      have o3 := one.deep
      have o4 := one.size
      have z1 : sizeR [p] = sizeP p := by show sizeP p + 0 = _; omega
      have z2 : deepR [p] = deepP p := by show max (deepP p) 0 = _; omega
      rw [z1] at o2 o4
      rw [z2] at o3
      have tl := ih (frdP (frdR n) k p).1 (by omega) g.tail (by omega)
      have t1 := tl.lo
      have t2 := tl.hi
      have t3 := tl.deep
      have t4 := tl.size
      refine ⟨?_, ?_, ?_, ?_, ?_, okR_app one.ok tl.ok, nnR_app one.nn tl.nn⟩
      · show k ≤ (frdL (frdR n) (frdP (frdR n) k p).1 r).1; omega
      · show (frdL (frdR n) (frdP (frdR n) k p).1 r).1 ≤ k + (sizeP p + sizeR r); omega
      · show deepR ((frdP (frdR n) k p).2 ++ (frdL (frdR n) (frdP (frdR n) k p).1 r).2) ≤ max (deepP p) (deepR r)
        rw [deepR_app]; omega
      · show sizeR ((frdP (frdR n) k p).2 ++ (frdL (frdR n) (frdP (frdR n) k p).1 r).2) ≤ sizeP p + sizeR r
        rw [sizeR_app]; omega
      · show (bdR ((frdP (frdR n) k p).2 ++ (frdL (frdR n) (frdP (frdR n) k p).1 r).2)).Sublist (bdP p ++ bdR r)
        rw [bdR_app]
        have b1 := one.bd
        rw [show bdR [p] = bdP p from List.append_nil _] at b1
        exact b1.append tl.bd
end Wk

set_option Elab.async false
set_option linter.all false
set_option maxRecDepth 100000
set_option maxHeartbeats 2000000
/-! xs.extend(a tuple). -/
namespace Wk
open PySem PySem.Spec PyProof.Rows L2 GxR
theorem ext_tup (l : Addr) (us : Array Value) (n : Nat) (b : Addr) (vs : Array Value) (m : Nat) (dd : Option Addr) (sl : Array (Option Value)) (h0 : ¬(!us.isEmpty && Builtin.List.listTooLong (us.size + vs.size)) = true) (h1 : us.size ≤ sizeLine) (h2 : us.size + vs.size ≤ sizeLine + 1) :
    Meets (Builtin.«list.extend» ⟨[.ref l, .ref b], []⟩) (fun _ R s => s.heap.get? l = some ⟨.type "list", none, .seq us n, #[]⟩ ∧ s.heap.get? b = some ⟨.type "tuple", dd, .seq vs m, sl⟩ ∧ R (.ok (.ret Value.none)) { s with heap := s.heap.update l (Obj.mapSeq fun x => x ++ vs), toks := s.toks }) := by
  refine .of_wp fun prog w A R s h => ?_
  obtain ⟨hp, g, d, tk, os⟩ := s
  obtain ⟨hl, hb, h⟩ := h
  have hz' : (us ++ vs).size ≤ sizeLine + 1 := by rw [Array.size_append]; exact h2
  wp_walk using (wpAny_updateSeq hl rfl (hz := h1) (_hz' := hz')), AutoSeq1.wpAny_loadPart' hl, AutoSeq1.wpAny_loadPart' hb
  exact ⟨_, rfl, h⟩
def rExtT (K : PySem.W.Frag) : V → List V → Hp → VK → Prop := fun x vs H Q => ∃ l b xs zs, x = .ref l ∧ vs = [.ref b] ∧ H l = some (.lst xs) ∧ SqT K H b zs ∧ xs.length + zs.length ≤ sizeLine ∧ Q .non (upd H l (.lst (xs ++ zs)))
theorem mt_extT {X : Cx} : MtM X "list.extend" (rExtT X.K) := by
  intro pins s σ H x vs v us Q I rx rv h
  obtain ⟨l, b, xs, zs, rfl, rfl, hH, hB, hz, q⟩ := h
  cases rx
  obtain ⟨u, rfl, ru⟩ := rv.one
  cases ru
  obtain ⟨z, its, n, r, hl, e⟩ := I.lstM hH
  obtain ⟨its2, r2, ⟨⟨cls, dd, data, sl⟩, e2, hc, m, hd⟩, z2⟩ := I.tuple hB
  simp only at hc hd
  subst hc hd
  have hl2 := r2.length
  have hsz : its.toArray.size + its2.toArray.size ≤ sizeLine := by rw [List.size_toArray, List.size_toArray]; omega
  have hlong : ¬ (!its.toArray.isEmpty && Builtin.List.listTooLong (its.toArray.size + its2.toArray.size)) = true := by
    rw [notLongL hsz]
    simp
  refine call_meets F.slot_list_extend ⟨_, e, rfl⟩ F.entry_list_extend (F.args_list_extend_2 _ _) (ext_tup l its.toArray n b its2.toArray m dd sl hlong (by rw [List.size_toArray]; omega) (by omega)) ⟨e, e2, ?_⟩
  refine ⟨.non, _, I.lset (its' := its ++ its2) hH e (by simp) (r.append r2) (by rw [List.length_append]; omega), rfl, q⟩
end Wk
namespace Wk
open PySem PySem.Spec PyProof.Rows L2 GxR
/-- the told tuple: next, and the row -/
def ToldAt (H : Hp) (o : Nat × List Part) (v : V) : Prop := ∃ (t : Addr) (u : V), v = .ref t ∧ H t = some (.tup [.int o.1, u]) ∧ RowAt H o.2 u
theorem ToldAt.mono {H H' : Hp} {o : Nat × List Part} {v : V} (s : STup H H') (h : ToldAt H o v) : ToldAt H' o v := by
  obtain ⟨t, u, rfl, h1, h2⟩ := h
  exact ⟨t, u, rfl, s _ _ h1, h2.mono s⟩
def spFreed (n : Nat) : Sp := fun vs H Q _ => ∃ (k : Nat) (v : V) (r : List Part), vs = [.int k, v] ∧ RowAt H r v ∧ deepR r < n ∧ sizeR r ≤ 1000 ∧ Gd r ∧ k + sizeR r < 10 ^ 9 ∧
  ∀ (H' : Hp) (u : V), Same H H' → ToldAt H' (frdR n k r) u → Q u H'
def spPFreed (n : Nat) : Sp := fun vs H Q _ => ∃ (k : Nat) (v : V) (p : Part), vs = [.int k, v] ∧ PartAt H p v ∧ deepP p ≤ n ∧ sizeP p ≤ 1000 ∧ Gd [p] ∧ k + sizeP p < 10 ^ 9 ∧
  ∀ (H' : Hp) (u : V), Same H H' → ToldAt H' (frdP (frdR n) k p) u → Q u H'
def spSettled (Ts : List Addr) (n : Nat) : Sp := fun vs H Q _ => ∃ (v : V) (r : List Part), vs = [v] ∧ RowAt H r v ∧ HouseR r ∧ deepR r < n ∧ Gd r ∧ TabsG Ts H ∧
  ∀ (H' : Hp) (u : V), SamTs Ts H H' → ToldAt H' (frdR n 1 r) u → Q u H'
theorem num_log {k : Nat} (h : k < 10 ^ 9) : (k : Int).natAbs.log2 < 1920 := by
  refine Nat.lt_of_lt_of_le (PySem.Flt.log2_lt_of (k := 30) (by decide) ?_) (by decide)
  show (k : Int).natAbs < 1073741824
  omega
theorem frd_lens {n k : Nat} {r : List Part} (hd : deepR r ≤ n) (g : Gd r) (hk : k + sizeR r < 10 ^ 9) (hs : sizeR r ≤ 1000) : (frdR n k r).2.length ≤ 1000 := by
  have := (frd_ok n k r hd g (by omega)).size
  have := len_sizeR (frdR n k r).2
  omega
theorem Gd.take : ∀ {r : List Part} (i : Nat), Gd r → Gd (r.take i)
  | r, i, g => by
    have e : r = r.take i ++ r.drop i := (List.take_append_drop i r).symm
    have eb : bdR r = bdR (r.take i) ++ bdR (r.drop i) := by rw [← bdR_app, ← e]
    have nd := g.nd
    rw [eb] at nd
    refine ⟨?_, fun x hx => g.sh x (by rw [eb]; exact List.mem_append_left _ hx), (List.nodup_append.mp nd).1⟩
    have ok := g.ok
    have un : ∀ {a b : List Part}, okR (Sh 30) (a ++ b) → okR (Sh 30) a := by
      intro a
      induction a with
      | nil => intro b _; exact trivial
      | cons p a ih => intro b h; exact ⟨h.1, ih h.2⟩
    rw [e] at ok
    exact un ok
theorem deepR_take (r : List Part) (i : Nat) : deepR (r.take i) ≤ deepR r := by
  have e := deepR_app (r.take i) (r.drop i)
  rw [List.take_append_drop] at e
  omega
end Wk

set_option Elab.async false
set_option linter.all false
set_option maxRecDepth 100000
set_option maxHeartbeats 2000000
/-! Drawn rows are houses; rests that are open. -/
namespace Wk
open PySem PySem.Spec PyProof.Rows L2 GxR
mutual
theorem fr_scP {ss : List Str} : ∀ (p : Part) (S S' : List Str), scP S' p → (∀ x ∈ S', x ∈ S ∨ x ∈ ss) → ∀ x ∈ frP S p, x ∈ ss
  | .say n, S, S', h, i, x, hx => by
    unfold frP at hx
    by_cases c : n ∈ S
    · rw [if_pos c] at hx; cases hx
    · rw [if_neg c] at hx
      rw [List.mem_singleton.mp hx]
      rcases i n h with g | g
      · exact absurd g c
      · exact g
  | .again r, S, S', h, i, x, hx => fr_scR r S S' h i x hx
  | .oth w n r, S, S', h, i, x, hx => by
    unfold frP at hx
    unfold scP at h
    by_cases b : w.binds = true
    · rw [if_pos b] at hx h
      refine fr_scR r (S ++ [n]) (n :: S') h (fun y hy => ?_) x hx
      rcases List.mem_cons.mp hy with e | e
      · exact .inl (List.mem_append_right _ (by rw [e]; exact List.mem_singleton.mpr rfl))
      · rcases i y e with g | g
        · exact .inl (List.mem_append_left _ g)
        · exact .inr g
    · rw [if_neg b] at hx h
      rcases List.mem_append.mp hx with g | g
      · by_cases c : n ∈ S
        · rw [if_pos c] at g; cases g
        · rw [if_neg c] at g
          rw [List.mem_singleton.mp g]
          rcases i n h.1 with k | k
          · exact absurd k c
          · exact k
      · exact fr_scR r S S' h.2 i x g
theorem fr_scR {ss : List Str} : ∀ (r : List Part) (S S' : List Str), scR S' r → (∀ x ∈ S', x ∈ S ∨ x ∈ ss) → ∀ x ∈ frR S r, x ∈ ss
  | [], S, S', _, _, x, hx => nomatch hx
  | p :: r, S, S', h, i, x, hx => by
    rcases List.mem_append.mp (show x ∈ frP S p ++ frR S r from hx) with g | g
    · exact fr_scP p S S' h.1 i x g
    · exact fr_scR r S S' h.2 i x g
end
theorem names_nd {zs : List Str} {s : Nat} (hn : ∀ i z, zs[i]? = some z → NameOf ((s + 5 * i) % 26) z) (hl : zs.length ≤ 26) : zs.Nodup := by
  rw [List.nodup_iff_pairwise_ne, List.pairwise_iff_getElem]
  intro i j hi hj hij e
  have h1 : zs[i]? = some zs[i] := List.getElem?_eq_getElem hi
  have h2 : zs[j]? = some zs[i] := by rw [List.getElem?_eq_getElem hj, e]
  have := apart hn h1 h2 (by omega) (by omega)
  omega
theorem drawn_house {zs sp' : List Str} {s m : Nat} {r : List Part} (hn : ∀ i z, zs[i]? = some z → NameOf ((s + 5 * i) % 26) z) (hl : zs.length ≤ 26) (hm : m ≤ 4) (hsz : sizeR r ≤ 400)
    (hG : GR m (most m) (zs.take 5) (zs.drop 5) sp' r) : HouseR r ∧ Gd r := by
  have nd := names_nd hn hl
  have e5 : zs = zs.take 5 ++ zs.drop 5 := (List.take_append_drop 5 zs).symm
  have nd2 := nd
  rw [e5] at nd2
  obtain ⟨na, nb, nc⟩ := List.nodup_append.mp nd2
  have hin : okR (fun n => n ∈ zs) r := okR.imp (fun n h => by
    rcases h with g | g
    · exact List.mem_of_mem_take g
    · exact List.mem_of_mem_drop g) r hG.ok
  have nm : ∀ n ∈ zs, ∃ j, j < 26 ∧ NameOf j n := fun n h => by
    obtain ⟨i, hi⟩ := List.getElem?_of_mem h
    exact ⟨_, Nat.mod_lt _ (by decide), hn i n hi⟩
  have bdin : ∀ x ∈ bdR r, x ∈ zs.drop 5 := fun x hx => by
    rw [hG.bd]
    exact List.mem_append_right _ (List.mem_reverse.mpr hx)
  have bnd : (bdR r).Nodup := by
    have h := nb
    rw [hG.bd] at h
    exact (List.reverse_perm (bdR r)).nodup_iff.mp (List.nodup_append.mp h).2.1
  have dp := hG.deep
  refine ⟨⟨okR.imp (fun n h => ?_) r hin, hsz, by omega, bnd, fun x hx hf => ?_⟩, ⟨okR.imp (fun n h => ?_) r hin, fun x hx => ?_, bnd⟩⟩
  · obtain ⟨j, hj, h⟩ := nm n h
    exact ⟨name_ok h hj, by have := (name_len h).1; omega⟩
  · have h1 := fr_scR r [] (zs.take 5) hG.sc (fun y hy => .inr hy) x hf
    exact nc x h1 x (bdin x hx) rfl
  · obtain ⟨j, hj, h⟩ := nm n h
    exact (h.sh hj).mono (by decide)
  · obtain ⟨j, hj, h⟩ := nm x (List.mem_of_mem_drop (bdin x hx))
    exact h.sh hj
/-! ### rests of what is open -/
mutual
def rsP (c : Str) : Part → List (List Part)
  | .say _ => []
  | .again r => [r]
  | .oth w x r => match w with
    | .room => rsR c r
    | .hear => [lcR x c r]
    | _ => [r]
def rsR (c : Str) : List Part → List (List Part)
  | [] => []
  | p :: r => rsP c p ++ rsR c r
end
theorem rsR_app (c : Str) : ∀ r q : List Part, rsR c (r ++ q) = rsR c r ++ rsR c q
  | [], q => rfl
  | p :: r, q => by
    show rsP c p ++ rsR c (r ++ q) = (rsP c p ++ rsR c r) ++ rsR c q
    rw [rsR_app c r q, List.append_assoc]
mutual
theorem rsP_len (c : Str) : ∀ p : Part, (rsP c p).length ≤ sizeP p
  | .say _ => Nat.zero_le _
  | .again r => by show 1 ≤ sizeR r + 1; omega
  | .oth w x r => by
    have h := rsR_len c r
    cases w with
    | room => show (rsR c r).length ≤ sizeR r + 1; omega
    | _ => show 1 ≤ sizeR r + 1; omega
theorem rsR_len (c : Str) : ∀ r : List Part, (rsR c r).length ≤ sizeR r
  | [] => Nat.le_refl _
  | p :: r => by
    have h1 := rsP_len c p
    have h2 := rsR_len c r
    show (rsP c p ++ rsR c r).length ≤ sizeP p + sizeR r
    rw [List.length_append]
    omega
end
structure RsOk (d s : Nat) (q : List Part) : Prop where
  gd : Gd q
  deep : deepR q ≤ d
  size : sizeR q ≤ s
theorem lcR_deepsize {x c : Str} {r : List Part} (h : x ∉ bdR r) : deepR (lcR x c r) = deepR r ∧ sizeR (lcR x c r) = sizeR r := by
  rw [← called_lcR r h]
  exact ⟨calledR_deep x c r, calledR_size x c r⟩
mutual
theorem rsP_ok {c : Str} (hc : Sh 30 c) : ∀ p : Part, Gd [p] → ∀ q ∈ rsP c p, RsOk (deepP p) (sizeP p) q
  | .say _, g, q, hq => nomatch hq
  | .again r, g, q, hq => by
    rw [List.mem_singleton.mp hq]
    exact ⟨g.rest, Nat.le_succ _, Nat.le_succ _⟩
  | .oth w x r, g, q, hq => by
    cases w with
    | room =>
      have h := rsR_ok hc r g.rest q hq
      exact ⟨h.gd, Nat.le_trans h.deep (Nat.le_succ _), Nat.le_trans h.size (Nat.le_succ _)⟩
    | hear =>
      rw [List.mem_singleton.mp (show q ∈ [lcR x c r] from hq)]
      obtain ⟨hx, _⟩ := g.out rfl
      obtain ⟨e1, e2⟩ := lcR_deepsize (c := c) hx
      refine ⟨?_, by rw [e1]; exact Nat.le_succ _, by rw [e2]; exact Nat.le_succ _⟩
      rw [← called_lcR r hx]
      exact g.rest.called hx hc
    | inn =>
      rw [List.mem_singleton.mp (show q ∈ [r] from hq)]
      exact ⟨g.rest, Nat.le_succ _, Nat.le_succ _⟩
    | out =>
      rw [List.mem_singleton.mp (show q ∈ [r] from hq)]
      exact ⟨g.rest, Nat.le_succ _, Nat.le_succ _⟩
    | opn =>
      rw [List.mem_singleton.mp (show q ∈ [r] from hq)]
      exact ⟨g.rest, Nat.le_succ _, Nat.le_succ _⟩
    | new =>
      rw [List.mem_singleton.mp (show q ∈ [r] from hq)]
      exact ⟨g.rest, Nat.le_succ _, Nat.le_succ _⟩
theorem rsR_ok {c : Str} (hc : Sh 30 c) : ∀ r : List Part, Gd r → ∀ q ∈ rsR c r, RsOk (deepR r) (sizeR r) q
  | [], g, q, hq => nomatch hq
  | p :: r, g, q, hq => by
    rcases List.mem_append.mp (show q ∈ rsP c p ++ rsR c r from hq) with h | h
    · have k := rsP_ok hc p g.head q h
      have k1 := k.deep
      have k2 := k.size
      exact ⟨k.gd, (by show deepR q ≤ max (deepP p) (deepR r); omega), (by show sizeR q ≤ sizeP p + sizeR r; omega)⟩
    · have k := rsR_ok hc r g.tail q h
      have k1 := k.deep
      have k2 := k.size
      exact ⟨k.gd, (by show deepR q ≤ max (deepP p) (deepR r); omega), (by show sizeR q ≤ sizeP p + sizeR r; omega)⟩
end
def spRests (n : Nat) : Sp := fun vs H Q _ => ∃ (v : V) (c : Str) (r : List Part), vs = [v, .str c] ∧ RowAt H r v ∧ deepR r < n ∧ sizeR r ≤ 1000 ∧
  ∀ (H' : Hp) (p : Addr) (us : List V), Same H H' → H p = none → H' p = some (.lst us) → LvAt H' (rsR c r) us → Q (.ref p) H'
/-! ### told tuples compared -/
theorem told_shaped {k : Int} {r : List Part} (h : okR (Sh 30) r) (hd : deepR r ≤ 30) : SeqAt.shaped (.tuple [.int k, .tuple (dR r)]) = true := by
  unfold SeqAt.shaped
  have h1 := depR r
  have h2 := layR (f := Sh 30) (fun n h => h.ok) r h
  simp only [PyData.canLay0, PyData.canLayAll0, h2, PyData.depth, PyData.depthAll, Bool.true_and, Bool.and_self]
  exact decide_eq_true (by omega)
theorem told_eqv {k : Int} {r : List Part} (h : okR (Sh 30) r) : PyData.eqv (.tuple [.int k, .tuple (dR r)]) (.tuple [.int k, .tuple (dR r)]) = true :=
  SeqAt.eqv_refl _ (by
    have h2 := layR (f := Sh 30) (fun n h => h.ok) r h
    simp only [PyData.canLay0, PyData.canLayAll0, h2, Bool.and_self])
theorem ToldAt.dp {K : PySem.W.Frag} {H : Hp} {o : Nat × List Part} {v : V} (h : ToldAt H o v) : Dp K H v (.tuple [.int o.1, .tuple (dR o.2)]) := by
  obtain ⟨t, u, rfl, h1, h2⟩ := h
  exact .tup (SqT.of h1) (.cons (.int _) (.cons h2.dp .nil))
end Wk

set_option Elab.async false
set_option linter.all false
set_option maxRecDepth 100000
set_option maxHeartbeats 4000000
/-! Things of any kind, and which of them are small rows. -/
namespace Wk
open PySem PySem.Spec PyProof.Rows L2 GxR
inductive Th where
  | str (z : Str)
  | non
  | int (i : Int)
  | bl (b : Bool)
  | lst (xs : List Th)
  | tup (xs : List Th)
  | dct
mutual
def ThAt (H : Hp) : Th → V → Prop
  | .str z, v => v = .str z
  | .non, v => v = .non
  | .int i, v => v = .int i
  | .bl b, v => v = .bl b
  | .lst xs, v => ∃ a vs, v = .ref a ∧ H a = some (.lst vs) ∧ ThsAt H xs vs
  | .tup xs, v => ∃ a vs, v = .ref a ∧ H a = some (.tup vs) ∧ ThsAt H xs vs
  | .dct, v => ∃ a, v = .ref a ∧ H a = some (.dK [])
def ThsAt (H : Hp) : List Th → List V → Prop
  | [], vs => vs = []
  | t :: ts, vs => ∃ v us, vs = v :: us ∧ ThAt H t v ∧ ThsAt H ts us
end
/-- all but tables stays -/
def Kpt (H H' : Hp) : Prop := ∀ a o, (∀ ps, o ≠ HO.tbl ps) → H a = some o → H' a = some o
theorem Kpt.refl (H : Hp) : Kpt H H := fun _ _ _ e => e
theorem Kpt.trans {H H1 H2 : Hp} (a : Kpt H H1) (b : Kpt H1 H2) : Kpt H H2 := fun c o n e => b c o n (a c o n e)
theorem Kpt.of {Ts : List Addr} {H H' : Hp} (t : TabsG Ts H) (s : SamTs Ts H H') : Kpt H H' := fun a o n e => s.1 a o (fun m => by
  obtain ⟨ps, q, _⟩ := t a m
  rw [q] at e
  exact n ps (Option.some.inj e).symm) e
theorem Kpt.same {H H' : Hp} (s : Same H H') : Kpt H H' := fun a o _ e => s a o e
mutual
theorem ThAt.mono {H H' : Hp} (s : Kpt H H') : ∀ (t : Th) (v : V), ThAt H t v → ThAt H' t v
  | .str z, v, h => h
  | .non, v, h => h
  | .int i, v, h => h
  | .bl b, v, h => h
  | .lst xs, v, h => by
    obtain ⟨a, vs, e, h1, h2⟩ := h
    exact ⟨a, vs, e, s _ _ (fun _ z => by cases z) h1, ThsAt.mono s xs vs h2⟩
  | .tup xs, v, h => by
    obtain ⟨a, vs, e, h1, h2⟩ := h
    exact ⟨a, vs, e, s _ _ (fun _ z => by cases z) h1, ThsAt.mono s xs vs h2⟩
  | .dct, v, h => by
    obtain ⟨a, e, h1⟩ := h
    exact ⟨a, e, s _ _ (fun _ z => by cases z) h1⟩
theorem ThsAt.mono {H H' : Hp} (s : Kpt H H') : ∀ (ts : List Th) (vs : List V), ThsAt H ts vs → ThsAt H' ts vs
  | [], vs, h => h
  | t :: ts, vs, h => by
    obtain ⟨v, us, e, h1, h2⟩ := h
    exact ⟨v, us, e, ThAt.mono s t v h1, ThsAt.mono s ts us h2⟩
end
theorem ThsAt.len {H : Hp} : ∀ {ts : List Th} {vs : List V}, ThsAt H ts vs → vs.length = ts.length
  | [], vs, h => by rw [show vs = [] from h]; rfl
  | t :: ts, vs, h => by
    obtain ⟨v, us, e, _, h2⟩ := h
    rw [e, List.length_cons, List.length_cons, ThsAt.len h2]
theorem ThsAt.get {H : Hp} : ∀ {ts : List Th} {vs : List V}, ThsAt H ts vs → ∀ {i : Nat} {v : V}, vs[i]? = some v → ∃ t, ts[i]? = some t ∧ ThAt H t v
  | [], vs, h, i, v, e => by rw [show vs = [] from h] at e; simp at e
  | t :: ts, vs, h, 0, v, e => by
    obtain ⟨u, us, rfl, h1, _⟩ := h
    exact ⟨t, rfl, by rw [← Option.some.inj (show some u = some v from e)]; exact h1⟩
  | t :: ts, vs, h, i + 1, v, e => by
    obtain ⟨u, us, rfl, _, h2⟩ := h
    exact ThsAt.get h2 (i := i) (v := v) e
theorem ThsAt.app {H : Hp} {qs : List Th} {us : List V} (g : ThsAt H qs us) : ∀ {ts : List Th} {vs : List V}, ThsAt H ts vs → ThsAt H (ts ++ qs) (vs ++ us)
  | [], vs, h => by rw [show vs = [] from h]; exact g
  | t :: ts, vs, h => by
    obtain ⟨v, ws, rfl, h1, h2⟩ := h
    exact ⟨v, ws ++ us, rfl, h1, ThsAt.app g h2⟩
theorem ThsAt.one {H : Hp} {t : Th} {v : V} (h : ThAt H t v) : ThsAt H [t] [v] := ⟨v, [], rfl, h, rfl⟩
/-! ### rows as things -/
mutual
def thP : Part → Th
  | .say n => .tup [.str "say", .str n]
  | .again r => .tup [.str "again", .tup (thR r)]
  | .oth w n r => .tup [.str w.str, .str n, .tup (thR r)]
def thR : List Part → List Th
  | [] => []
  | p :: r => thP p :: thR r
end
def thRow (r : List Part) : Th := .tup (thR r)
theorem thR_map : ∀ r : List Part, thR r = r.map thP
  | [] => rfl
  | p :: r => by
    show thP p :: thR r = thP p :: r.map thP
    rw [thR_map r]
mutual
theorem thP_at {H : Hp} : ∀ (p : Part) (v : V), ThAt H (thP p) v → PartAt H p v
  | .say n, v, h => by
    obtain ⟨a, vs, e, h1, u1, w1, e1, h2, u2, w2, e2, h3, h4⟩ := h
    have z1 : u1 = .str "say" := h2
    have z2 : u2 = .str n := h3
    have z3 : w2 = [] := h4
    subst z1 z2 z3 e2 e1
    exact ⟨a, e, h1⟩
  | .again r, v, h => by
    obtain ⟨a, vs, e, h1, u1, w1, e1, h2, u2, w2, e2, ⟨b, xs, eb, hb, hx⟩, h4⟩ := h
    have z1 : u1 = .str "again" := h2
    have z3 : w2 = [] := h4
    subst z1 z3 eb e2 e1
    exact ⟨a, b, xs, e, h1, hb, thR_at r xs hx⟩
  | .oth w n r, v, h => by
    obtain ⟨a, vs, e, h1, u1, w1, e1, h2, u2, w2, e2, h3, u3, w3, e3, ⟨b, xs, eb, hb, hx⟩, h4⟩ := h
    have z1 : u1 = .str w.str := h2
    have z2 : u2 = .str n := h3
    have z3 : w3 = [] := h4
    subst z1 z2 z3 eb e3 e2 e1
    exact ⟨a, b, xs, e, h1, hb, thR_at r xs hx⟩
theorem thR_at {H : Hp} : ∀ (r : List Part) (vs : List V), ThsAt H (thR r) vs → PartsAt H r vs
  | [], vs, h => h
  | p :: r, vs, h => by
    obtain ⟨v, us, e, h1, h2⟩ := h
    exact ⟨v, us, e, thP_at p v h1, thR_at r us h2⟩
end
theorem thRow_at {H : Hp} {r : List Part} {v : V} (h : ThAt H (thRow r) v) : RowAt H r v := by
  obtain ⟨a, vs, e, h1, h2⟩ := h
  exact ⟨a, vs, e, h1, thR_at r vs h2⟩
mutual
theorem at_thP {H : Hp} : ∀ (p : Part) (v : V), PartAt H p v → ThAt H (thP p) v
  | .say n, v, h => by
    obtain ⟨a, e, h1⟩ := h
    exact ⟨a, _, e, h1, _, _, rfl, rfl, _, _, rfl, rfl, rfl⟩
  | .again r, v, h => by
    obtain ⟨a, b, xs, e, h1, h2, h3⟩ := h
    exact ⟨a, _, e, h1, _, _, rfl, rfl, _, _, rfl, ⟨b, xs, rfl, h2, at_thR r xs h3⟩, rfl⟩
  | .oth w n r, v, h => by
    obtain ⟨a, b, xs, e, h1, h2, h3⟩ := h
    exact ⟨a, _, e, h1, _, _, rfl, rfl, _, _, rfl, rfl, _, _, rfl, ⟨b, xs, rfl, h2, at_thR r xs h3⟩, rfl⟩
theorem at_thR {H : Hp} : ∀ (r : List Part) (vs : List V), PartsAt H r vs → ThsAt H (thR r) vs
  | [], vs, h => h
  | p :: r, vs, h => by
    obtain ⟨v, us, e, h1, h2⟩ := h
    exact ⟨v, us, e, at_thP p v h1, at_thR r us h2⟩
end
theorem at_thRow {H : Hp} {r : List Part} {v : V} (h : RowAt H r v) : ThAt H (thRow r) v := by
  obtain ⟨a, vs, e, h1, h2⟩ := h
  exact ⟨a, vs, e, h1, at_thR r vs h2⟩
/-! ### forms -/
def szOf (z : Str) : Option Nat :=
  if z = "room" then some 3 else if z = "in" then some 3 else if z = "out" then some 3 else if z = "open" then some 3 else if z = "say" then some 2 else if z = "hear" then some 3 else if z = "new" then some 3 else if z = "again" then some 2 else none
def isTup : Th → Bool
  | .tup _ => true
  | _ => false
def itemsT : Th → List Th
  | .tup xs => xs
  | _ => []
def formB : Th → Bool
  | .tup (.str z :: r) => decide (szOf z = some (r.length + 1))
  | _ => false
def nmT : Th → Bool
  | .str z => nameB z
  | _ => false
def npB : Th → Bool
  | .tup (.str z :: x :: r) => decide (szOf z = some (r.length + 2)) && (decide (z = "again") || nmT x)
  | _ => false
def restT : Th → Th
  | .tup (.str z :: r) => if z = "say" then .tup [] else (r.getLast?).getD .non
  | _ => .non
theorem sz_cases {z : Str} {n : Nat} (h : szOf z = some n) : (z = "say" ∧ n = 2) ∨ (z = "again" ∧ n = 2) ∨ ∃ w : Wd, z = w.str ∧ n = 3 := by
  unfold szOf at h
  by_cases c1 : z = "room"
  · rw [if_pos c1] at h; exact .inr (.inr ⟨.room, c1, (Option.some.inj h).symm⟩)
  rw [if_neg c1] at h
  by_cases c2 : z = "in"
  · rw [if_pos c2] at h; exact .inr (.inr ⟨.inn, c2, (Option.some.inj h).symm⟩)
  rw [if_neg c2] at h
  by_cases c3 : z = "out"
  · rw [if_pos c3] at h; exact .inr (.inr ⟨.out, c3, (Option.some.inj h).symm⟩)
  rw [if_neg c3] at h
  by_cases c4 : z = "open"
  · rw [if_pos c4] at h; exact .inr (.inr ⟨.opn, c4, (Option.some.inj h).symm⟩)
  rw [if_neg c4] at h
  by_cases c5 : z = "say"
  · rw [if_pos c5] at h; exact .inl ⟨c5, (Option.some.inj h).symm⟩
  rw [if_neg c5] at h
  by_cases c6 : z = "hear"
  · rw [if_pos c6] at h; exact .inr (.inr ⟨.hear, c6, (Option.some.inj h).symm⟩)
  rw [if_neg c6] at h
  by_cases c7 : z = "new"
  · rw [if_pos c7] at h; exact .inr (.inr ⟨.new, c7, (Option.some.inj h).symm⟩)
  rw [if_neg c7] at h
  by_cases c8 : z = "again"
  · rw [if_pos c8] at h; exact .inr (.inl ⟨c8, (Option.some.inj h).symm⟩)
  rw [if_neg c8] at h
  cases h
theorem wd_ne_again (w : Wd) : w.str ≠ "again" := by cases w <;> decide +kernel
theorem wd_ne_say (w : Wd) : w.str ≠ "say" := by cases w <;> decide +kernel
/-- a thing that is a part but for its rest -/
theorem np_cases {t : Th} (h : npB t = true) : (∃ n, t = .tup [.str "say", .str n] ∧ nameB n = true) ∨ (∃ x, t = .tup [.str "again", x]) ∨ ∃ (w : Wd) (n : Str) (x : Th), t = .tup [.str w.str, .str n, x] ∧ nameB n = true := by
  match t, h with
  | .tup (.str z :: x :: r), h =>
    obtain ⟨h1, h2⟩ := Bool.and_eq_true_iff.mp (show (decide (szOf z = some (r.length + 2)) && (decide (z = "again") || nmT x)) = true from h)
    have h1 := of_decide_eq_true h1
    have nm : z ≠ "again" → ∃ n, x = .str n ∧ nameB n = true := fun ne => by
      rw [decide_eq_false ne, Bool.false_or] at h2
      cases x with
      | str n => exact ⟨n, rfl, h2⟩
      | _ => cases h2
    rcases sz_cases h1 with ⟨e, l⟩ | ⟨e, l⟩ | ⟨w, e, l⟩
    · have lr : r = [] := List.length_eq_zero_iff.mp (by omega)
      obtain ⟨n, e2, hn⟩ := nm (by rw [e]; decide +kernel)
      subst e lr e2
      exact .inl ⟨n, rfl, hn⟩
    · have lr : r = [] := List.length_eq_zero_iff.mp (by omega)
      subst e lr
      exact .inr (.inl ⟨x, rfl⟩)
    · obtain ⟨y, rfl⟩ := List.length_eq_one_iff.mp (show r.length = 1 by omega)
      obtain ⟨n, e2, hn⟩ := nm (by rw [e]; exact wd_ne_again w)
      subst e e2
      exact .inr (.inr ⟨w, n, y, rfl, hn⟩)
theorem np_part {p : Part} (h : okP NmOk p) : npB (thP p) = true := by
  cases p with
  | say n =>
    have h1 : nameB n = true := h.1
    show (decide (szOf "say" = some 2) && (decide (("say" : Str) = "again") || nameB n)) = true
    rw [h1]
    decide +kernel
  | again r =>
    show (decide (szOf "again" = some 2) && (decide (("again" : Str) = "again") || nmT (Th.tup (thR r)))) = true
    rw [decide_eq_true (rfl : ("again" : Str) = "again"), Bool.true_or]
    decide +kernel
  | oth w n r =>
    have h1 : nameB n = true := h.1.1
    show (decide (szOf w.str = some 3) && (decide (w.str = "again") || nameB n)) = true
    rw [h1, Bool.or_true, Bool.and_true]
    cases w <;> decide +kernel
theorem rest_part (p : Part) : restT (thP p) = thRow (restP p) := by
  cases p with
  | say n => rfl
  | again r =>
    show (if ("again" : Str) = "say" then Th.tup [] else _) = _
    rw [if_neg (by decide +kernel)]
    rfl
  | oth w n r =>
    show (if w.str = "say" then Th.tup [] else _) = _
    rw [if_neg (wd_ne_say w)]
    rfl
/-! ### small rows -/
def smallT : Nat → Nat → List Th → Bool
  | 0, _, _ => false
  | n + 1, m, ts => if ts.all isTup = true then (if m + (ts.map itemsT).flatten.length ≤ 400 then (if (ts.map itemsT).flatten = [] then true else if (ts.map itemsT).flatten.all npB = true then smallT n (m + (ts.map itemsT).flatten.length) ((ts.map itemsT).flatten.map restT) else false) else false) else false
theorem flat_rows (ls : List (List Part)) : ((ls.map thRow).map itemsT).flatten = (flL ls).map thP := by
  induction ls with
  | nil => rfl
  | cons r ls ih =>
    show itemsT (thRow r) ++ ((ls.map thRow).map itemsT).flatten = (r ++ flL ls).map thP
    rw [ih, List.map_append]
    show thR r ++ _ = _
    rw [thR_map]
theorem all_tup (ls : List (List Part)) : (ls.map thRow).all isTup = true := by
  rw [List.all_map]
  exact List.all_eq_true.mpr fun _ _ => rfl
theorem rests_rows (ls : List (List Part)) : ((flL ls).map thP).map restT = (nxL ls).map thRow := by
  unfold nxL
  rw [List.map_map, List.map_map]
  exact List.map_congr_left fun p _ => rest_part p
/-- rows of parts are small where they are not too large -/
theorem small_of : ∀ (n m : Nat) (ls : List (List Part)), okLs NmOk ls → m + sizeL ls ≤ 400 → deepL ls < n → smallT n m (ls.map thRow) = true
  | 0, m, ls, _, _, h => absurd h (Nat.not_lt_zero _)
  | n + 1, m, ls, hok, hs, hd => by
    have sz := sizeL_rests ls
    have dl := deepL_rests ls
    unfold smallT
    rw [if_pos (all_tup ls), flat_rows, List.length_map, if_pos (by omega)]
    by_cases e : (flL ls).map thP = []
    · rw [if_pos e]
    · rw [if_neg e]
      have e2 : flL ls ≠ [] := fun z => e (by rw [z]; rfl)
      have dp := deepL_pos ls e2
      rw [if_pos (by
        rw [List.all_map]
        exact List.all_eq_true.mpr fun p hp => np_part (hok.parts p hp)), rests_rows]
      exact small_of n _ (nxL ls) hok.next (by omega) (by omega)
theorem tups_of : ∀ ts : List Th, ts.all isTup = true → ∃ xs : List (List Th), ts = xs.map Th.tup
  | [], _ => ⟨[], rfl⟩
  | t :: ts, h => by
    obtain ⟨h1, h2⟩ := Bool.and_eq_true_iff.mp (show (isTup t && ts.all isTup) = true from h)
    obtain ⟨xs, e⟩ := tups_of ts h2
    cases t with
    | tup ys => exact ⟨ys :: xs, by rw [e]; rfl⟩
    | _ => cases h1
/-- parts whose rests are rows -/
theorem parts_of : ∀ (ts : List Th) (ls : List (List Part)), ts.all npB = true → (∀ t ∈ ts, ∀ (z : Str) (r : List Th), t = Th.tup r → Th.str z ∈ r → z.length ≤ 1000) → ts.map restT = ls.map thRow → (∀ r ∈ ls, okR NmOk r) → ∃ ps : List Part, ts = ps.map thP ∧ ps.map restP = ls ∧ ∀ p ∈ ps, okP NmOk p
  | [], ls, _, _, e, _ => ⟨[], rfl, (by
      cases ls with
      | nil => rfl
      | cons a l => cases e), fun _ h => nomatch h⟩
  | t :: ts, [], _, _, e, _ => by cases e
  | t :: ts, l :: ls, h, hz, e, hok => by
    obtain ⟨h1, h2⟩ := Bool.and_eq_true_iff.mp (show (npB t && ts.all npB) = true from h)
    have e' : restT t :: ts.map restT = thRow l :: ls.map thRow := e
    obtain ⟨e1, e2⟩ := List.cons.inj e'
    obtain ⟨ps, p1, p2, p3⟩ := parts_of ts ls h2 (fun t ht => hz t (List.mem_cons_of_mem _ ht)) e2 (fun r hr => hok r (List.mem_cons_of_mem _ hr))
    have okl := hok l List.mem_cons_self
    obtain ⟨p, q1, q2, q3⟩ : ∃ p : Part, t = thP p ∧ restP p = l ∧ okP NmOk p := by
      rcases np_cases h1 with ⟨n, rfl, hn⟩ | ⟨y, rfl⟩ | ⟨w, n, y, rfl, hn⟩
      · have el : l = [] := by
          have q : Th.tup [] = thRow l := e1
          cases l with
          | nil => rfl
          | cons a b => cases (Th.tup.inj q)
        exact ⟨.say n, rfl, el.symm, hn, hz _ List.mem_cons_self n _ rfl (List.mem_cons_of_mem _ List.mem_cons_self)⟩
      · have q : restT (Th.tup [.str "again", y]) = y := by
          show (if ("again" : Str) = "say" then Th.tup [] else _) = _
          rw [if_neg (by decide +kernel)]
          rfl
        rw [q] at e1
        exact ⟨.again l, by rw [e1]; rfl, rfl, okl⟩
      · have q : restT (Th.tup [.str w.str, .str n, y]) = y := by
          show (if w.str = "say" then Th.tup [] else _) = _
          rw [if_neg (wd_ne_say w)]
          rfl
        rw [q] at e1
        exact ⟨.oth w n l, by rw [e1]; rfl, rfl, ⟨hn, hz _ List.mem_cons_self n _ rfl (List.mem_cons_of_mem _ List.mem_cons_self)⟩, okl⟩
    exact ⟨p :: ps, by rw [q1, p1]; rfl, by rw [List.map_cons, q2, p2], fun r hr => by
      rcases List.mem_cons.mp hr with z | z
      · rw [z]; exact q3
      · exact p3 r z⟩
/-! texts and rows within are not too long -/
mutual
def okT : Th → Prop
  | .str z => z.length ≤ 1000
  | .lst xs => xs.length ≤ 1000 ∧ okTs xs
  | .tup xs => xs.length ≤ 1000 ∧ okTs xs
  | _ => True
def okTs : List Th → Prop
  | [] => True
  | t :: ts => okT t ∧ okTs ts
end
theorem okTs.mem : ∀ {ts : List Th}, okTs ts → ∀ t ∈ ts, okT t
  | [], _, t, h => nomatch h
  | q :: ts, g, t, h => by
    rcases List.mem_cons.mp h with e | e
    · rw [e]; exact g.1
    · exact okTs.mem g.2 t e
theorem okTs.of : ∀ {ts : List Th}, (∀ t ∈ ts, okT t) → okTs ts
  | [], _ => trivial
  | q :: ts, h => ⟨h q List.mem_cons_self, okTs.of fun t ht => h t (List.mem_cons_of_mem _ ht)⟩
theorem okT.items {t : Th} (h : okT t) : (itemsT t).length ≤ 1000 ∧ ∀ q ∈ itemsT t, okT q := by
  cases t with
  | tup xs => exact ⟨h.1, h.2.mem⟩
  | _ => exact ⟨Nat.zero_le _, fun q hq => nomatch hq⟩
theorem okT.rest {t : Th} (h : okT t) : okT (restT t) := by
  match t, h with
  | .tup (.str z :: r), h =>
    show okT (if z = "say" then Th.tup [] else (r.getLast?).getD .non)
    by_cases c : z = "say"
    · rw [if_pos c]; exact ⟨Nat.zero_le _, trivial⟩
    · rw [if_neg c]
      cases e : r.getLast? with
      | none => trivial
      | some x => exact h.2.2.mem x (List.mem_of_getLast? e)
  | .tup [], h => trivial
  | .tup (.non :: r), h => trivial
  | .tup (.int _ :: r), h => trivial
  | .tup (.bl _ :: r), h => trivial
  | .tup (.lst _ :: r), h => trivial
  | .tup (.tup _ :: r), h => trivial
  | .tup (.dct :: r), h => trivial
  | .str _, h => trivial
  | .non, h => trivial
  | .int _, h => trivial
  | .bl _, h => trivial
  | .lst _, h => trivial
  | .dct, h => trivial
theorem split_flat : ∀ (xs : List (List Th)) (ps : List Part), xs.flatten = ps.map thP → ∃ ls : List (List Part), xs = ls.map (List.map thP) ∧ flL ls = ps
  | [], ps, e => ⟨[], rfl, by
      cases ps with
      | nil => rfl
      | cons a b => cases e⟩
  | x :: xs, ps, e => by
    have e' : ps.map thP = x ++ xs.flatten := e.symm
    obtain ⟨a, b, e1, e2, e3⟩ := List.map_eq_append_iff.mp e'
    obtain ⟨ls, l1, l2⟩ := split_flat xs b e3.symm
    exact ⟨a :: ls, by rw [List.map_cons, e2, l1], by rw [flL_cons, l2, e1]⟩
theorem deepR_up : ∀ r : List Part, deepR r ≤ deepL (r.map restP) + 1
  | [] => Nat.zero_le _
  | p :: r => by
    have h := deepR_up r
    have d := deep_rest p
    show max (deepP p) (deepR r) ≤ max (deepR (restP p)) (deepL (r.map restP)) + 1
    omega
theorem deepL_up : ∀ ls : List (List Part), deepL ls ≤ deepL (nxL ls) + 1
  | [] => Nat.zero_le _
  | r :: ls => by
    have h := deepL_up ls
    have h2 := deepR_up r
    show max (deepR r) (deepL ls) ≤ deepL ((r ++ flL ls).map restP) + 1
    rw [List.map_append, deepL_app]
    have e : deepL (nxL ls) = deepL ((flL ls).map restP) := rfl
    omega
/-- what is small is rows of parts -/
theorem rows_of : ∀ (n m : Nat) (ts : List Th), (∀ t ∈ ts, okT t) → smallT n m ts = true → ∃ ls : List (List Part), ts = ls.map thRow ∧ okLs NmOk ls ∧ m + sizeL ls ≤ 400 ∧ deepL ls < n
  | 0, m, ts, _, h => by cases h
  | n + 1, m, ts, ok, h => by
    unfold smallT at h
    by_cases c1 : ts.all isTup = true
    · rw [if_pos c1] at h
      obtain ⟨xs, rfl⟩ := tups_of ts c1
      have ei : ((xs.map Th.tup).map itemsT).flatten = xs.flatten := by
        rw [List.map_map, show itemsT ∘ Th.tup = id from rfl, List.map_id]
      rw [ei] at h
      by_cases c2 : m + xs.flatten.length ≤ 400
      · rw [if_pos c2] at h
        by_cases c3 : xs.flatten = []
        · have all0 : ∀ x ∈ xs, x = [] := List.flatten_eq_nil_iff.mp c3
          refine ⟨xs.map fun _ => [], ?_, fun r hr => ?_, ?_, ?_⟩
          · rw [List.map_map]
            exact List.map_congr_left fun x hx => by rw [all0 x hx]; rfl
          · obtain ⟨_, _, rfl⟩ := List.mem_map.mp hr
            trivial
          · have z : ∀ ys : List (List Th), sizeL (ys.map fun _ => ([] : List Part)) = 0 := by
              intro ys
              induction ys with
              | nil => rfl
              | cons y ys ih => show 0 + sizeL (ys.map fun _ => ([] : List Part)) = 0; omega
            rw [z]; omega
          · have z : ∀ ys : List (List Th), deepL (ys.map fun _ => ([] : List Part)) = 0 := by
              intro ys
              induction ys with
              | nil => rfl
              | cons y ys ih => show max 0 (deepL (ys.map fun _ => ([] : List Part))) = 0; omega
            rw [z]; omega
        · rw [if_neg c3] at h
          by_cases c4 : xs.flatten.all npB = true
          · rw [if_pos c4] at h
            have okp : ∀ t ∈ xs.flatten, okT t := fun t ht => by
              obtain ⟨x, hx, hx2⟩ := List.mem_flatten.mp ht
              exact (ok (.tup x) (List.mem_map.mpr ⟨x, hx, rfl⟩)).2.mem t hx2
            obtain ⟨ls', e', hok', hs', hd'⟩ := rows_of n _ _ (fun t ht => by
              obtain ⟨q, hq, rfl⟩ := List.mem_map.mp ht
              exact (okp q hq).rest) h
            obtain ⟨ps, p1, p2, p3⟩ := parts_of xs.flatten ls' c4 (fun t ht z r er hz => by
              have o := okp t ht
              rw [er] at o
              exact o.2.mem _ hz) e' hok'
            obtain ⟨ls, l1, l2⟩ := split_flat xs ps p1
            have enx : nxL ls = ls' := by unfold nxL; rw [l2, p2]
            have sz := sizeL_rests ls
            have du := deepL_up ls
            rw [enx] at sz du
            have el : (flL ls).length = xs.flatten.length := by rw [l2, p1, List.length_map]
            refine ⟨ls, ?_, fun r hr => ?_, by omega, by omega⟩
            · rw [l1, List.map_map]
              exact List.map_congr_left fun r _ => by
                show Th.tup (r.map thP) = Th.tup (thR r)
                rw [thR_map]
            · have sub : ∀ p ∈ r, p ∈ ps := fun p hp => by
                rw [← l2]
                exact List.mem_flatten.mpr ⟨r, hr, hp⟩
              have mk : ∀ q : List Part, (∀ p ∈ q, okP NmOk p) → okR NmOk q := by
                intro q
                induction q with
                | nil => intro _; trivial
                | cons p q ih => intro hh; exact ⟨hh p List.mem_cons_self, ih fun y hy => hh y (List.mem_cons_of_mem _ hy)⟩
              exact mk r fun p hp => p3 p (sub p hp)
          · rw [if_neg c4] at h; cases h
      · rw [if_neg c2] at h; cases h
    · rw [if_neg c1] at h; cases h
/-- a thing is a small row -/
theorem small_iff {t : Th} (ok : okT t) : smallT 25 0 [t] = true ↔ ∃ r : List Part, t = thRow r ∧ okR NmOk r ∧ sizeR r ≤ 400 ∧ deepR r ≤ 24 := by
  constructor
  · intro h
    obtain ⟨ls, e, hok, hs, hd⟩ := rows_of 25 0 [t] (fun q hq => by rw [List.mem_singleton.mp hq]; exact ok) h
    match ls, e, hok, hs, hd with
    | [r], e, hok, hs, hd =>
      have hs' : 0 + (sizeR r + 0) ≤ 400 := hs
      have hd' : max (deepR r) 0 < 25 := hd
      exact ⟨r, (List.cons.inj e).1, hok r List.mem_cons_self, by omega, by omega⟩
    | [], e, _, _, _ => cases e
    | _ :: _ :: _, e, _, _, _ => cases (List.cons.inj e).2
  · rintro ⟨r, rfl, hok, hs, hd⟩
    exact small_of 25 0 [r] (fun q hq => by rw [List.mem_singleton.mp hq]; exact hok) (by show 0 + (sizeR r + 0) ≤ 400; omega) (by show max (deepR r) 0 < 25; omega)
end Wk

set_option Elab.async false
set_option linter.all false
set_option maxRecDepth 100000
set_option maxHeartbeats 4000000
/-! Things of any kind: their types, promises. -/
namespace Wk
open PySem PySem.Spec PyProof.Rows L2 GxR
def isStrT : Th → Bool
  | .str _ => true
  | _ => false
theorem ThAt.tyT {K : PySem.W.Frag} {H : Hp} {t : Th} {v : V} (h : ThAt H t v) : ∃ ty : String, TyX K H v (.type ty) ∧ PySem.W.kitOne K (.type ty) (.type "tuple") = some (isTup t) ∧ PySem.W.kitOne K (.type ty) (.type "str") = some (isStrT t) := by
  cases t with
  | str z => cases h; exact ⟨_, .base (.str z), kit_ty (show kitB "str" "tuple" = some false by decide +kernel), kit_ty (show kitB "str" "str" = some true by decide +kernel)⟩
  | non => cases h; exact ⟨_, .base .non, kit_ty (show kitB "NoneType" "tuple" = some false by decide +kernel), kit_ty (show kitB "NoneType" "str" = some false by decide +kernel)⟩
  | int i => cases h; exact ⟨_, .base (.int i), kit_ty (show kitB "int" "tuple" = some false by decide +kernel), kit_ty (show kitB "int" "str" = some false by decide +kernel)⟩
  | bl b => cases h; exact ⟨_, .base (.bl b), kit_ty (show kitB "bool" "tuple" = some false by decide +kernel), kit_ty (show kitB "bool" "str" = some false by decide +kernel)⟩
  | lst xs =>
    obtain ⟨a, vs, rfl, e, _⟩ := h
    exact ⟨_, .base (.lst e), kit_ty (show kitB "list" "tuple" = some false by decide +kernel), kit_ty (show kitB "list" "str" = some false by decide +kernel)⟩
  | tup xs =>
    obtain ⟨a, vs, rfl, e, _⟩ := h
    exact ⟨_, .base (.tup e), kit_ty (show kitB "tuple" "tuple" = some true by decide +kernel), kit_ty (show kitB "tuple" "str" = some false by decide +kernel)⟩
  | dct =>
    obtain ⟨a, rfl, e⟩ := h
    exact ⟨_, .base (.dK e), kit_ty (show kitB "dict" "tuple" = some false by decide +kernel), kit_ty (show kitB "dict" "str" = some false by decide +kernel)⟩
theorem ThAt.thing {H : Hp} {t : Th} {v : V} (h : ThAt H t v) (ok : okT t) : Thing H v ∧ nmV v = nmT t := by
  cases t with
  | str z => cases h; exact ⟨.str z ok, rfl⟩
  | non => cases h; exact ⟨.non, rfl⟩
  | int i => cases h; exact ⟨.int i, rfl⟩
  | bl b => cases h; exact ⟨.bl b, rfl⟩
  | lst xs =>
    obtain ⟨a, vs, rfl, e, _⟩ := h
    exact ⟨.lst e, rfl⟩
  | tup xs =>
    obtain ⟨a, vs, rfl, e, _⟩ := h
    exact ⟨.tup e, rfl⟩
  | dct =>
    obtain ⟨a, rfl, e⟩ := h
    exact ⟨.dct e, rfl⟩
def szV (z : Str) : V := match szOf z with
  | some n => .int (n : Nat)
  | none => .non
def SizesG (K : PySem.W.Frag) (w : World) (d : Addr) : Prop := KGot K w d ∧ ∀ z : Str, ∃ (r : Option Value), PySem.W.nsIn K d z = some r ∧ RelV (szV z) (r.getD .none)
theorem szV_eq (z : Str) (n : Nat) : decide (szV z = V.int (n : Nat)) = decide (szOf z = some n) := by
  unfold szV
  cases e : szOf z with
  | none =>
    rw [decide_eq_false (by intro h; cases h), decide_eq_false (by intro h; cases h)]
  | some k =>
    by_cases c : k = n
    · rw [c, decide_eq_true rfl, decide_eq_true rfl]
    · rw [decide_eq_false (by intro h; exact c (by have := V.int.inj h; omega)), decide_eq_false (by intro h; exact c (Option.some.inj h))]
theorem szV_scal (z : Str) (n : Int) : scal (szV z) (.int n) = true := by
  unfold szV
  cases szOf z <;> rfl
theorem np_form {t : Th} (h : npB t = true) : formB t = true := by
  match t, h with
  | .tup (.str z :: x :: r), h => exact (Bool.and_eq_true_iff.mp h).1
theorem form_cases {t : Th} (h : formB t = true) : ∃ z x r, t = .tup (.str z :: x :: r) ∧ szOf z = some (r.length + 2) := by
  match t, h with
  | .tup (.str z :: []), h =>
    have h1 : szOf z = some 1 := of_decide_eq_true h
    rcases sz_cases h1 with ⟨_, l⟩ | ⟨_, l⟩ | ⟨_, _, l⟩ <;> omega
  | .tup (.str z :: x :: r), h => exact ⟨z, x, r, rfl, of_decide_eq_true h⟩
def spFormG : Sp := fun vs H Q _ => ∃ (v : V) (t : Th), vs = [v] ∧ ThAt H t v ∧ Q (.bl (formB t)) H
def spCallingG : Sp := fun vs H Q _ => ∃ (v : V) (z : Str) (x : Th) (r : List Th), vs = [v] ∧ ThAt H (.tup (.str z :: x :: r)) v ∧ ((z = "again" → Q .non H) ∧ (z ≠ "again" → ∀ u, ThAt H x u → Q u H))
/-- a thing of G, or a row without parts -/
def ThOr (G H : Hp) (t : Th) (v : V) : Prop := ThAt G t v ∨ (t = .tup [] ∧ ∃ a, v = .ref a ∧ H a = some (.tup []))
def OrsAt (G H : Hp) : List Th → List V → Prop
  | [], vs => vs = []
  | t :: ts, vs => ∃ v us, vs = v :: us ∧ ThOr G H t v ∧ OrsAt G H ts us
theorem OrsAt.mono {G H H' : Hp} (s : STup H H') : ∀ {ts : List Th} {vs : List V}, OrsAt G H ts vs → OrsAt G H' ts vs
  | [], _, h => h
  | t :: ts, _, h => by
    obtain ⟨v, us, e, h1, h2⟩ := h
    refine ⟨v, us, e, ?_, OrsAt.mono s h2⟩
    rcases h1 with h1 | ⟨e1, a, e2, h3⟩
    · exact .inl h1
    · exact .inr ⟨e1, a, e2, s _ _ h3⟩
theorem OrsAt.len {G H : Hp} : ∀ {ts : List Th} {vs : List V}, OrsAt G H ts vs → vs.length = ts.length
  | [], vs, h => by rw [show vs = [] from h]; rfl
  | t :: ts, vs, h => by
    obtain ⟨v, us, e, _, h2⟩ := h
    rw [e, List.length_cons, List.length_cons, OrsAt.len h2]
theorem OrsAt.snoc {G H : Hp} {q : Th} {u : V} (g : ThOr G H q u) : ∀ {ts : List Th} {vs : List V}, OrsAt G H ts vs → OrsAt G H (ts ++ [q]) (vs ++ [u])
  | [], vs, h => by rw [show vs = [] from h]; exact ⟨u, [], rfl, g, rfl⟩
  | t :: ts, vs, h => by
    obtain ⟨v, ws, rfl, h1, h2⟩ := h
    exact ⟨v, ws ++ [u], rfl, h1, OrsAt.snoc g h2⟩
theorem OrsAt.all {G H : Hp} (s : Kpt G H) : ∀ {ts : List Th} {vs : List V}, OrsAt G H ts vs → ThsAt H ts vs
  | [], _, h => h
  | t :: ts, _, h => by
    obtain ⟨v, us, e, h1, h2⟩ := h
    refine ⟨v, us, e, ?_, OrsAt.all s h2⟩
    rcases h1 with h1 | ⟨rfl, a, e2, h3⟩
    · exact ThAt.mono s t v h1
    · exact ⟨a, [], e2, h3, rfl⟩
def spRestG : Sp := fun vs H Q _ => ∃ (v : V) (t : Th) (G : Hp), vs = [v] ∧ ThAt G t v ∧ Kpt G H ∧ npB t = true ∧ ∀ (H' : Hp) (u : V), Same H H' → ThOr G H' (restT t) u → Q u H'
def spNPartG (Ts : List Addr) : Sp := fun vs H Q _ => ∃ (v : V) (t : Th), vs = [v] ∧ ThAt H t v ∧ okT t ∧ TabsG Ts H ∧ ∀ H', SamTs Ts H H' → Q (.bl (npB t)) H'
def spSmallG (Ts : List Addr) : Sp := fun vs H Q _ => ∃ (v : V) (t : Th), vs = [v] ∧ ThAt H t v ∧ okT t ∧ TabsG Ts H ∧ ∀ H', SamTs Ts H H' → Q (.bl (smallT 25 0 [t])) H'
def spHouseG (Ts : List Addr) : Sp := fun vs H Q _ => ∃ (v : V) (t : Th), vs = [v] ∧ ThAt H t v ∧ okT t ∧ TabsG Ts H ∧ ∀ (H' : Hp) (b : Bool), SamTs Ts H H' → (b = true ↔ ∃ r, t = thRow r ∧ HouseR r) → Q (.bl b) H'
theorem lens_sum : ∀ (ts : List Th) (i : Nat), i ≤ ts.length → preSum (fun j => ((ts[j]?).elim (0 : Int) fun t => ((itemsT t).length : Nat))) i = ((((ts.take i).map itemsT).flatten).length : Nat)
  | ts, 0, _ => by simp [preSum]
  | ts, i + 1, h => by
    have hi : i < ts.length := h
    rw [preSum, lens_sum ts i (Nat.le_of_lt hi), List.take_add_one, List.getElem?_eq_getElem hi, List.map_append, List.flatten_append, List.length_append]
    simp
theorem flat_le {ts : List Th} (ok : ∀ t ∈ ts, okT t) : ∀ i, (((ts.take i).map itemsT).flatten).length ≤ 1000 * i
  | 0 => by simp
  | i + 1 => by
    have h := flat_le ok i
    rw [List.take_add_one, List.map_append, List.flatten_append, List.length_append]
    cases e : ts[i]? with
    | none =>
      show (((ts.take i).map itemsT).flatten).length + 0 ≤ 1000 * (i + 1)
      omega
    | some t =>
      have o := (ok t (List.mem_of_getElem? e)).items.1
      show (((ts.take i).map itemsT).flatten).length + (itemsT t ++ []).length ≤ 1000 * (i + 1)
      rw [List.append_nil]
      omega
end Wk
namespace Wk
open PySem PySem.Spec PyProof.Rows L2 GxR
theorem wd_inj {w w' : Wd} (h : w.str = w'.str) : w = w' := by
  cases w <;> cases w' <;> first | rfl | exact absurd h (by decide +kernel)
mutual
theorem thP_inj : ∀ (p q : Part), thP p = thP q → p = q
  | .say n, .say m, h => by
    have := Th.tup.inj h
    have h1 := (List.cons.inj (List.cons.inj this).2).1
    rw [Th.str.inj h1]
  | .again r, .again t, h => by
    have := Th.tup.inj h
    have h1 := (List.cons.inj (List.cons.inj this).2).1
    rw [thR_inj r t (Th.tup.inj h1)]
  | .oth w n r, .oth w' m t, h => by
    have := Th.tup.inj h
    have h0 := (List.cons.inj this).1
    have h1 := (List.cons.inj (List.cons.inj this).2).1
    have h2 := (List.cons.inj (List.cons.inj (List.cons.inj this).2).2).1
    rw [wd_inj (Th.str.inj h0), Th.str.inj h1, thR_inj r t (Th.tup.inj h2)]
  | .say n, .again t, h => by
    have h0 := Th.str.inj (List.cons.inj (Th.tup.inj h)).1
    exact absurd h0 (by decide +kernel)
  | .again r, .say m, h => by
    have h0 := Th.str.inj (List.cons.inj (Th.tup.inj h)).1
    exact absurd h0 (by decide +kernel)
  | .say n, .oth w m t, h => by
    have h0 := Th.str.inj (List.cons.inj (Th.tup.inj h)).1
    exact absurd h0.symm (wd_ne_say w)
  | .oth w n r, .say m, h => by
    have h0 := Th.str.inj (List.cons.inj (Th.tup.inj h)).1
    exact absurd h0 (wd_ne_say w)
  | .again r, .oth w m t, h => by
    have h0 := Th.str.inj (List.cons.inj (Th.tup.inj h)).1
    exact absurd h0.symm (wd_ne_again w)
  | .oth w n r, .again t, h => by
    have h0 := Th.str.inj (List.cons.inj (Th.tup.inj h)).1
    exact absurd h0 (wd_ne_again w)
theorem thR_inj : ∀ (r q : List Part), thR r = thR q → r = q
  | [], [], _ => rfl
  | p :: r, q :: t, h => by
    have h' : thP p :: thR r = thP q :: thR t := h
    rw [thP_inj p q (List.cons.inj h').1, thR_inj r t (List.cons.inj h').2]
  | [], q :: t, h => by cases h
  | p :: r, [], h => by cases h
end
theorem thRow_inj {r q : List Part} (h : thRow r = thRow q) : r = q := thR_inj r q (Th.tup.inj h)
/-- as many as the unlike ones: each once -/
theorem nodup_of_len : ∀ {l D : List Str}, D.Nodup → (∀ x ∈ l, x ∈ D) → D.length = l.length → (∀ x ∈ D, x ∈ l) → l.Nodup
  | l, D, nd, sub, len, sup => by
    by_cases h : l.Nodup
    · exact h
    · exfalso
      -- some text stands twice
      have key : ∀ m : List Str, ¬ m.Nodup → ∃ a x b, m = a ++ x :: b ∧ x ∈ a ++ b := by
        intro m
        induction m with
        | nil => intro h; exact absurd List.nodup_nil h
        | cons y m ih =>
          intro h
          by_cases c : y ∈ m
          · exact ⟨[], y, m, rfl, c⟩
          · have h2 : ¬ m.Nodup := fun z => h (List.nodup_cons.mpr ⟨c, z⟩)
            obtain ⟨a, x, b, e, hx⟩ := ih h2
            exact ⟨y :: a, x, b, by rw [e]; rfl, List.mem_cons_of_mem _ hx⟩
      obtain ⟨a, x, b, e, hx⟩ := key l h
      have hsub : ∀ z ∈ D, z ∈ a ++ b := fun z hz => by
        have := sup z hz
        rw [e] at this
        rcases List.mem_append.mp this with g | g
        · exact List.mem_append_left _ g
        · rcases List.mem_cons.mp g with g | g
          · rw [g]; exact hx
          · exact List.mem_append_right _ g
      have := sub_len D (a ++ b) nd hsub
      rw [e, List.length_append, List.length_cons] at len
      rw [List.length_append] at this
      omega
end Wk

set_option Elab.async false
set_option linter.all false
set_option maxRecDepth 100000
set_option maxHeartbeats 4000000
/-! All parts of a row within bounds; what binds well: promises. -/
namespace Wk
open PySem PySem.Spec PyProof.Rows L2 GxR
def wordT : Th → Bool
  | .tup (.str _ :: _) => true
  | _ => false
def spBegins : Sp := fun vs H Q _ => ∃ (v : V) (t : Th), vs = [v] ∧ ThAt H t v ∧ Q (.bl (wordT t)) H
theorem form_word {t : Th} (h : wordT t = false) : formB t = false := by
  cases t with
  | tup xs =>
    cases xs with
    | nil => rfl
    | cons x r => cases x <;> first | rfl | cases h
  | _ => rfl
theorem word_cases {t : Th} (h : wordT t = true) : ∃ z r, t = .tup (.str z :: r) := by
  match t, h with
  | .tup (.str z :: r), _ => exact ⟨z, r, rfl⟩
theorem OrsAt.get {G H : Hp} : ∀ {ts : List Th} {vs : List V}, OrsAt G H ts vs → ∀ {i : Nat} {v : V}, vs[i]? = some v → ∃ t, ts[i]? = some t ∧ ThOr G H t v
  | [], vs, h, i, v, e => by
    rw [show vs = [] from h] at e
    cases e
  | t :: ts, vs, h, i, v, e => by
    obtain ⟨u, us, rfl, h1, h2⟩ := h
    cases i with
    | zero =>
      cases e
      exact ⟨t, rfl, h1⟩
    | succ i => exact OrsAt.get h2 e
theorem ThOr.tup {G H : Hp} {ys : List Th} {v : V} (s : Kpt G H) (h : ThOr G H (.tup ys) v) : ∃ a xs, v = .ref a ∧ H a = some (.tup xs) ∧ ThsAt G ys xs := by
  rcases h with h | ⟨e, a, rfl, h⟩
  · obtain ⟨a, xs, rfl, ha, hx⟩ := h
    exact ⟨a, xs, rfl, s _ _ (fun _ z => by cases z) ha, hx⟩
  · cases e
    exact ⟨a, [], rfl, h, rfl⟩
/-- the parts within the bounds of a house, or none -/
def spPartsG (Ts : List Addr) (fN fR : Addr) : Sp := fun vs H Q _ => ∃ (v : V) (t : Th), vs = [v, .int 400, .int 24, .ref fN, .ref fR] ∧ ThAt H t v ∧ okT t ∧ TabsG Ts H ∧
  (smallT 25 0 [t] = false → ∀ H', SamTs Ts H H' → Q .non H') ∧ (smallT 25 0 [t] = true → ∀ (H' : Hp) (a : Addr), SamTs Ts H H' → Q (.ref a) H')
/-- what is bound, and what is free -/
def spBinds (Ts : List Addr) : Sp := fun vs H Q _ => ∃ (Fl Bl : Addr) (fs bs : List Str), vs = [.ref Fl, .ref Bl] ∧ H Fl = some (.lst (fs.map V.str)) ∧ H Bl = some (.lst (bs.map V.str)) ∧ fs.length ≤ 1000 ∧ bs.length ≤ 1000 ∧ TabsG Ts H ∧
  ∀ (H' : Hp) (b : Bool), SamTs Ts H H' → (b = true ↔ bs.Nodup ∧ ∀ x ∈ bs, x ∉ fs) → Q (.bl b) H'
theorem thR_len (r : List Part) : (thR r).length = r.length := by rw [thR_map, List.length_map]
theorem wd_len (w : Wd) : w.str.length ≤ 1000 := by cases w <;> decide +kernel
theorem sizeP_pos (p : Part) : 1 ≤ sizeP p := by
  cases p <;> (show 1 ≤ _; unfold sizeP; omega)
mutual
theorem okT_P : ∀ p : Part, okP NmOk p → sizeP p ≤ 1000 → okT (thP p)
  | .say n, h, hs => by
    have h : NmOk n := h
    exact ⟨(show 2 ≤ 1000 by decide), (show ("say" : Str).length ≤ 1000 by decide +kernel), h.2, trivial⟩
  | .again r, h, hs => by
    have h : okR NmOk r := h
    have hs : sizeP (.again r) ≤ 1000 := hs
    unfold sizeP at hs
    have l := len_sizeR r
    exact ⟨(show 2 ≤ 1000 by decide), (show ("again" : Str).length ≤ 1000 by decide +kernel), ⟨by rw [thR_len]; omega, okT_R r h (by omega)⟩, trivial⟩
  | .oth w n r, h, hs => by
    have h : NmOk n ∧ okR NmOk r := h
    unfold sizeP at hs
    have l := len_sizeR r
    exact ⟨(show 3 ≤ 1000 by decide), wd_len w, h.1.2, ⟨by rw [thR_len]; omega, okT_R r h.2 (by omega)⟩, trivial⟩
theorem okT_R : ∀ r : List Part, okR NmOk r → sizeR r ≤ 1000 → okTs (thR r)
  | [], _, _ => trivial
  | p :: r, h, hs => by
    have h : okP NmOk p ∧ okR NmOk r := h
    unfold sizeR at hs
    exact ⟨okT_P p h.1 (by omega), okT_R r h.2 (by omega)⟩
end
theorem okT_row {r : List Part} (h : okR NmOk r) (hs : sizeR r ≤ 1000) : okT (thRow r) := by
  have l := len_sizeR r
  exact ⟨by rw [thR_len]; omega, okT_R r h hs⟩
/-- of a row that is a house -/
theorem house_of_G {P : Program} {w : World} {K : PySem.W.Frag} {mg : Str → Option Value} {base : Heap} {Ts : List Addr} {f : Addr} {fd : FuncData} {k n : Nat}
    (G : FnOk P w K mg base CX0 k f fd ["thing"] (spHouseG Ts)) : FnOk P w K mg base CX0 k f fd ["thing"] (spHouse Ts n) := by
  refine G.imp fun vs H Q E h => ?_
  obtain ⟨v, r, rfl, hR, hh, hd, tg, q⟩ := h
  have hz := hh.size
  refine ⟨v, thRow r, rfl, at_thRow hR, okT_row hh.ok (by omega), tg, fun H' b st e => ?_⟩
  have : b = true := e.mpr ⟨r, rfl, hh⟩
  rw [this]
  exact q H' st
end Wk

set_option Elab.async false
set_option linter.all false
set_option maxRecDepth 100000
set_option maxHeartbeats 4000000
/-! All parts of a row within bounds, whatever a part is: promises. -/
namespace Wk
open PySem PySem.Spec PyProof.Rows L2 GxR
def flT (ts : List Th) : List Th := (ts.map itemsT).flatten
/-- the rows ts, and so on: at most mp parts with the m ahead, less than n deep -/
def smQ (np : Th → Bool) (rst : Th → Th) (mp : Nat) : Nat → Nat → List Th → Bool
  | 0, _, _ => false
  | n + 1, m, ts => if ts.all isTup = true then (if m + (ts.map itemsT).flatten.length ≤ mp then (if (ts.map itemsT).flatten = [] then true else if (ts.map itemsT).flatten.all np = true then smQ np rst mp n (m + (ts.map itemsT).flatten.length) ((ts.map itemsT).flatten.map rst) else false) else false) else false
/-- their parts, level by level -/
def allQ (rst : Th → Th) : Nat → List Th → List Th
  | 0, _ => []
  | n + 1, ts => if (ts.map itemsT).flatten = [] then [] else (ts.map itemsT).flatten ++ allQ rst n ((ts.map itemsT).flatten.map rst)
def spNPQ (Ts : List Addr) (np : Th → Bool) : Sp := fun vs H Q _ => ∃ (v : V) (t : Th), vs = [v] ∧ ThAt H t v ∧ okT t ∧ TabsG Ts H ∧ ∀ H', SamTs Ts H H' → Q (.bl (np t)) H'
def spRestQ (np : Th → Bool) (rst : Th → Th) : Sp := fun vs H Q _ => ∃ (v : V) (t : Th) (G : Hp), vs = [v] ∧ ThAt G t v ∧ Kpt G H ∧ np t = true ∧ ∀ (H' : Hp) (u : V), Same H H' → ThOr G H' (rst t) u → Q u H'
def spWithinQ (Ts : List Addr) (np : Th → Bool) (rst : Th → Th) (mp md : Nat) (fN fR : Addr) : Sp := fun vs H Q _ => ∃ (v : V) (t : Th), vs = [v, .int (mp : Nat), .int (md : Nat), .ref fN, .ref fR] ∧ ThAt H t v ∧ okT t ∧ TabsG Ts H ∧
  (smQ np rst mp (md + 1) 0 [t] = false → ∀ H', SamTs Ts H H' → Q .non H') ∧
  (smQ np rst mp (md + 1) 0 [t] = true → ∀ (H' : Hp) (a : Addr) (tv : List V), SamTs Ts H H' → H a = none → H' a = some (.lst tv) → ThsAt H (allQ rst (md + 1) [t]) tv → Q (.ref a) H')
end Wk

set_option Elab.async false
set_option linter.all false
set_option maxRecDepth 100000
set_option maxHeartbeats 4000000
/-! Mail: parts that send and get, rows of them, which things are such rows. -/
namespace Wk
open PySem PySem.Spec PyProof.Rows L2 GxR
inductive MP where
  | send (n m : Str)
  | get (n x : Str) (r : List MP)
def mnB (z : Str) : Bool := nameB z && (decide (z.length ≤ 4) && !decide (z.cps.toList.head? = some 122))
def mnT : Th → Bool
  | .str z => mnB z
  | _ => false
mutual
def thM : MP → Th
  | .send n m => .tup [.str "send", .str n, .str m]
  | .get n x r => .tup [.str "get", .str n, .str x, .tup (thMs r)]
def thMs : List MP → List Th
  | [] => []
  | p :: r => thM p :: thMs r
end
def thMR (r : List MP) : Th := .tup (thMs r)
theorem thMs_map : ∀ r : List MP, thMs r = r.map thM
  | [] => rfl
  | p :: r => by
    show thM p :: thMs r = thM p :: r.map thM
    rw [thMs_map r]
def restM : MP → List MP
  | .send _ _ => []
  | .get _ _ r => r
mutual
def okM : MP → Prop
  | .send n m => mnB n = true ∧ mnB m = true
  | .get n x r => mnB n = true ∧ mnB x = true ∧ okMs r
def okMs : List MP → Prop
  | [] => True
  | p :: r => okM p ∧ okMs r
end
mutual
def deepM : MP → Nat
  | .send _ _ => 1
  | .get _ _ r => deepMs r + 1
def deepMs : List MP → Nat
  | [] => 0
  | p :: r => max (deepM p) (deepMs r)
end
mutual
def sizeM : MP → Nat
  | .send _ _ => 1
  | .get _ _ r => sizeMs r + 1
def sizeMs : List MP → Nat
  | [] => 0
  | p :: r => sizeM p + sizeMs r
end
mutual
def bdM : MP → List Str
  | .send _ _ => []
  | .get _ x r => x :: bdMs r
def bdMs : List MP → List Str
  | [] => []
  | p :: r => bdM p ++ bdMs r
end
def fltM (S l : List Str) : List Str := l.filter fun n => decide (n ∉ S)
mutual
def frM (S : List Str) : MP → List Str
  | .send n m => fltM S [n, m]
  | .get n x r => fltM S [n] ++ frMs (S ++ [x]) r
def frMs (S : List Str) : List MP → List Str
  | [] => []
  | p :: r => frM S p ++ frMs S r
end
theorem size_restM (p : MP) : sizeM p = sizeMs (restM p) + 1 := by cases p <;> rfl
theorem deep_restM (p : MP) : deepM p = deepMs (restM p) + 1 := by cases p <;> rfl
theorem rest_okM {p : MP} (h : okM p) : okMs (restM p) := by
  cases p with
  | send _ _ => exact trivial
  | get _ _ _ => exact h.2.2
theorem okMs.mem : ∀ {r : List MP}, okMs r → ∀ p ∈ r, okM p
  | [], _, p, h => nomatch h
  | q :: r, h, p, hp => by
    rcases List.mem_cons.mp hp with e | e
    · rw [e]; exact h.1
    · exact okMs.mem h.2 p e
theorem okMs.of : ∀ {r : List MP}, (∀ p ∈ r, okM p) → okMs r
  | [], _ => trivial
  | q :: r, h => ⟨h q List.mem_cons_self, okMs.of fun p hp => h p (List.mem_cons_of_mem _ hp)⟩
theorem len_sizeMs : ∀ r : List MP, r.length ≤ sizeMs r
  | [] => Nat.le_refl _
  | p :: r => by
    have h := len_sizeMs r
    have s := size_restM p
    show r.length + 1 ≤ sizeM p + sizeMs r
    omega
mutual
theorem bd_sizeM : ∀ p : MP, (bdM p).length ≤ sizeM p
  | .send _ _ => Nat.zero_le _
  | .get _ x r => by
    have h := bd_sizeMs r
    show (bdMs r).length + 1 ≤ sizeMs r + 1
    omega
theorem bd_sizeMs : ∀ r : List MP, (bdMs r).length ≤ sizeMs r
  | [] => Nat.le_refl _
  | p :: r => by
    have h := bd_sizeM p
    have h2 := bd_sizeMs r
    show (bdM p ++ bdMs r).length ≤ sizeM p + sizeMs r
    rw [List.length_append]
    omega
end
theorem flt_len (S l : List Str) : (fltM S l).length ≤ l.length := List.length_filter_le _ _
mutual
theorem fr_sizeM : ∀ (p : MP) (S : List Str), (frM S p).length ≤ 2 * sizeM p
  | .send n m, S => by
    have := flt_len S [n, m]
    show (fltM S [n, m]).length ≤ 2 * 1
    exact this
  | .get n x r, S => by
    have h := fr_sizeMs r (S ++ [x])
    have := flt_len S [n]
    show (fltM S [n] ++ frMs (S ++ [x]) r).length ≤ 2 * (sizeMs r + 1)
    rw [List.length_append]
    have e : [n].length = 1 := rfl
    omega
theorem fr_sizeMs : ∀ (r : List MP) (S : List Str), (frMs S r).length ≤ 2 * sizeMs r
  | [], S => Nat.le_refl _
  | p :: r, S => by
    have h := fr_sizeM p S
    have h2 := fr_sizeMs r S
    show (frM S p ++ frMs S r).length ≤ 2 * (sizeM p + sizeMs r)
    rw [List.length_append]
    omega
end
theorem mn_len {z : Str} (h : mnB z = true) : z.length ≤ 4 := of_decide_eq_true (Bool.and_eq_true_iff.mp (Bool.and_eq_true_iff.mp h).2).1
/-! ### levels -/
def flM (ls : List (List MP)) : List MP := ls.flatten
def nxM (ls : List (List MP)) : List (List MP) := (flM ls).map restM
def deepMl : List (List MP) → Nat
  | [] => 0
  | r :: ls => max (deepMs r) (deepMl ls)
def sizeMl : List (List MP) → Nat
  | [] => 0
  | r :: ls => sizeMs r + sizeMl ls
def bdMl : List (List MP) → Nat
  | [] => 0
  | r :: ls => (bdMs r).length + bdMl ls
theorem deepMl_app : ∀ a b, deepMl (a ++ b) = max (deepMl a) (deepMl b)
  | [], b => by show deepMl b = max 0 (deepMl b); omega
  | r :: a, b => by
    show max (deepMs r) (deepMl (a ++ b)) = max (max (deepMs r) (deepMl a)) (deepMl b)
    rw [deepMl_app a b]; omega
theorem sizeMl_app : ∀ a b, sizeMl (a ++ b) = sizeMl a + sizeMl b
  | [], b => by show sizeMl b = 0 + sizeMl b; omega
  | r :: a, b => by
    show sizeMs r + sizeMl (a ++ b) = sizeMs r + sizeMl a + sizeMl b
    rw [sizeMl_app a b]; omega
theorem bdMl_app : ∀ a b, bdMl (a ++ b) = bdMl a + bdMl b
  | [], b => by show bdMl b = 0 + bdMl b; omega
  | r :: a, b => by
    show (bdMs r).length + bdMl (a ++ b) = (bdMs r).length + bdMl a + bdMl b
    rw [bdMl_app a b]; omega
theorem sizeMs_rests : ∀ r : List MP, sizeMs r = r.length + sizeMl (r.map restM)
  | [] => rfl
  | p :: r => by
    have h := sizeMs_rests r
    have s := size_restM p
    show sizeM p + sizeMs r = r.length + 1 + (sizeMs (restM p) + sizeMl (r.map restM))
    omega
theorem sizeMl_rests : ∀ ls : List (List MP), sizeMl ls = (flM ls).length + sizeMl (nxM ls)
  | [] => rfl
  | r :: ls => by
    have h := sizeMl_rests ls
    have h2 := sizeMs_rests r
    show sizeMs r + sizeMl ls = (r ++ flM ls).length + sizeMl ((r ++ flM ls).map restM)
    rw [List.length_append, List.map_append, sizeMl_app]
    have e : sizeMl (nxM ls) = sizeMl ((flM ls).map restM) := rfl
    omega
theorem deepMs_rests : ∀ r : List MP, deepMl (r.map restM) ≤ deepMs r - 1
  | [] => Nat.le_refl _
  | p :: r => by
    have h := deepMs_rests r
    have d := deep_restM p
    show max (deepMs (restM p)) (deepMl (r.map restM)) ≤ max (deepM p) (deepMs r) - 1
    omega
theorem deepMl_rests : ∀ ls : List (List MP), deepMl (nxM ls) ≤ deepMl ls - 1
  | [] => Nat.le_refl _
  | r :: ls => by
    have h := deepMl_rests ls
    have h2 := deepMs_rests r
    show deepMl ((r ++ flM ls).map restM) ≤ max (deepMs r) (deepMl ls) - 1
    rw [List.map_append, deepMl_app]
    have e : deepMl (nxM ls) = deepMl ((flM ls).map restM) := rfl
    omega
theorem deepMs_up : ∀ r : List MP, deepMs r ≤ deepMl (r.map restM) + 1
  | [] => Nat.zero_le _
  | p :: r => by
    have h := deepMs_up r
    have d := deep_restM p
    show max (deepM p) (deepMs r) ≤ max (deepMs (restM p)) (deepMl (r.map restM)) + 1
    omega
theorem deepMl_up : ∀ ls : List (List MP), deepMl ls ≤ deepMl (nxM ls) + 1
  | [] => Nat.zero_le _
  | r :: ls => by
    have h := deepMl_up ls
    have h2 := deepMs_up r
    show max (deepMs r) (deepMl ls) ≤ deepMl ((r ++ flM ls).map restM) + 1
    rw [List.map_append, deepMl_app]
    have e : deepMl (nxM ls) = deepMl ((flM ls).map restM) := rfl
    omega
theorem deepMl_pos : ∀ ls : List (List MP), flM ls ≠ [] → 1 ≤ deepMl ls
  | [], h => absurd rfl h
  | [] :: ls, h => by
    have := deepMl_pos ls h
    show 1 ≤ max (deepMs []) (deepMl ls)
    omega
  | (p :: r) :: ls, h => by
    have := deep_restM p
    show 1 ≤ max (max (deepM p) (deepMs r)) (deepMl ls)
    omega
def isGetM : MP → Bool
  | .send _ _ => false
  | .get _ _ _ => true
def getsM (r : List MP) : Nat := (r.filter isGetM).length
theorem getsM_app (a b : List MP) : getsM (a ++ b) = getsM a + getsM b := by
  unfold getsM
  rw [List.filter_append, List.length_append]
theorem bdMs_rests : ∀ r : List MP, (bdMs r).length = getsM r + bdMl (r.map restM)
  | [] => rfl
  | p :: r => by
    have h := bdMs_rests r
    have e : getsM (p :: r) = getsM [p] + getsM r := getsM_app [p] r
    have e2 : (bdM p).length = getsM [p] + (bdMs (restM p)).length := by
      cases p with
      | send _ _ => rfl
      | get n x q => show (bdMs q).length + 1 = 1 + (bdMs q).length; omega
    show (bdM p ++ bdMs r).length = getsM (p :: r) + ((bdMs (restM p)).length + bdMl (r.map restM))
    rw [List.length_append]
    omega
theorem bdMl_rests : ∀ ls : List (List MP), bdMl ls = getsM (flM ls) + bdMl (nxM ls)
  | [] => rfl
  | r :: ls => by
    have h := bdMl_rests ls
    have h2 := bdMs_rests r
    show (bdMs r).length + bdMl ls = getsM (r ++ flM ls) + bdMl ((r ++ flM ls).map restM)
    rw [getsM_app, List.map_append, bdMl_app]
    have e : bdMl (nxM ls) = bdMl ((flM ls).map restM) := rfl
    omega
def okMl (ls : List (List MP)) : Prop := ∀ r ∈ ls, okMs r
theorem okMl.parts {ls : List (List MP)} (h : okMl ls) : ∀ p ∈ flM ls, okM p := fun p hp => by
  obtain ⟨r, hr, hp⟩ := List.mem_flatten.mp hp
  exact (h r hr).mem p hp
theorem okMl.next {ls : List (List MP)} (h : okMl ls) : okMl (nxM ls) := fun r hr => by
  obtain ⟨p, hp, rfl⟩ := List.mem_map.mp hr
  exact rest_okM (h.parts p hp)
/-! ### forms -/
def msOf (z : Str) : Option Nat := if z = "send" then some 3 else if z = "get" then some 4 else none
def mpB : Th → Bool
  | .tup (.str z :: r) => decide (msOf z = some (r.length + 1)) && (r.take 2).all mnT
  | _ => false
def rstM : Th → Th
  | .tup (.str z :: r) => if z = "get" then (r[2]?).getD .non else .tup []
  | _ => .non
theorem mp_cases {t : Th} (h : mpB t = true) : (∃ n m, t = .tup [.str "send", .str n, .str m] ∧ mnB n = true ∧ mnB m = true) ∨ ∃ n x y, t = .tup [.str "get", .str n, .str x, y] ∧ mnB n = true ∧ mnB x = true := by
  match t, h with
  | .tup (.str z :: r), h =>
    obtain ⟨h1, h2⟩ := Bool.and_eq_true_iff.mp (show (decide (msOf z = some (r.length + 1)) && (r.take 2).all mnT) = true from h)
    have h1 := of_decide_eq_true h1
    have nm : ∀ x : Th, mnT x = true → ∃ n, x = .str n ∧ mnB n = true := fun x hx => by
      cases x with
      | str n => exact ⟨n, rfl, hx⟩
      | _ => cases hx
    unfold msOf at h1
    by_cases c : z = "send"
    · rw [if_pos c] at h1
      have l : r.length = 2 := by have := Option.some.inj h1; omega
      obtain ⟨a, b, rfl⟩ : ∃ a b, r = [a, b] := by
        match r, l with
        | [a, b], _ => exact ⟨a, b, rfl⟩
      obtain ⟨g1, g2⟩ := Bool.and_eq_true_iff.mp (show (mnT a && (mnT b && true)) = true from h2)
      obtain ⟨n, rfl, hn⟩ := nm a g1
      obtain ⟨m, rfl, hm⟩ := nm b (Bool.and_eq_true_iff.mp g2).1
      exact .inl ⟨n, m, by rw [c], hn, hm⟩
    · rw [if_neg c] at h1
      by_cases c2 : z = "get"
      · rw [if_pos c2] at h1
        have l : r.length = 3 := by have := Option.some.inj h1; omega
        obtain ⟨a, b, y, rfl⟩ : ∃ a b y, r = [a, b, y] := by
          match r, l with
          | [a, b, y], _ => exact ⟨a, b, y, rfl⟩
        obtain ⟨g1, g2⟩ := Bool.and_eq_true_iff.mp (show (mnT a && (mnT b && true)) = true from h2)
        obtain ⟨n, rfl, hn⟩ := nm a g1
        obtain ⟨m, rfl, hm⟩ := nm b (Bool.and_eq_true_iff.mp g2).1
        exact .inr ⟨n, m, y, by rw [c2], hn, hm⟩
      · rw [if_neg c2] at h1
        cases h1
theorem mp_part {p : MP} (h : okM p) : mpB (thM p) = true := by
  cases p with
  | send n m =>
    have h1 : mnB n = true := h.1
    have h2 : mnB m = true := h.2
    show (decide (msOf "send" = some 3) && (mnB n && (mnB m && true))) = true
    rw [h1, h2]
    decide +kernel
  | get n x r =>
    have h1 : mnB n = true := h.1
    have h2 : mnB x = true := h.2.1
    show (decide (msOf "get" = some 4) && (mnB n && (mnB x && true))) = true
    rw [h1, h2]
    decide +kernel
theorem rst_part (p : MP) : rstM (thM p) = thMR (restM p) := by
  cases p with
  | send n m =>
    show (if ("send" : Str) = "get" then (([.str n, .str m] : List Th)[2]?).getD .non else Th.tup []) = _
    rw [if_neg (by decide +kernel)]
    rfl
  | get n x r =>
    show (if ("get" : Str) = "get" then _ else Th.tup []) = _
    rw [if_pos rfl]
    rfl
theorem mflat_rows (ls : List (List MP)) : ((ls.map thMR).map itemsT).flatten = (flM ls).map thM := by
  induction ls with
  | nil => rfl
  | cons r ls ih =>
    show itemsT (thMR r) ++ ((ls.map thMR).map itemsT).flatten = (r ++ flM ls).map thM
    rw [ih, List.map_append]
    show thMs r ++ _ = _
    rw [thMs_map]
theorem mall_tup (ls : List (List MP)) : (ls.map thMR).all isTup = true := by
  rw [List.all_map]
  exact List.all_eq_true.mpr fun _ _ => rfl
theorem mrests_rows (ls : List (List MP)) : ((flM ls).map thM).map rstM = (nxM ls).map thMR := by
  unfold nxM
  rw [List.map_map, List.map_map]
  exact List.map_congr_left fun p _ => rst_part p
theorem msmall_of : ∀ (n m : Nat) (ls : List (List MP)), okMl ls → m + sizeMl ls ≤ 20 → deepMl ls < n → smQ mpB rstM 20 n m (ls.map thMR) = true
  | 0, m, ls, _, _, h => absurd h (Nat.not_lt_zero _)
  | n + 1, m, ls, hok, hs, hd => by
    have sz := sizeMl_rests ls
    have dl := deepMl_rests ls
    unfold smQ
    rw [if_pos (mall_tup ls), mflat_rows, List.length_map, if_pos (by omega)]
    by_cases e : (flM ls).map thM = []
    · rw [if_pos e]
    · rw [if_neg e]
      have e2 : flM ls ≠ [] := fun z => e (by rw [z]; rfl)
      have dp := deepMl_pos ls e2
      rw [if_pos (by
        rw [List.all_map]
        exact List.all_eq_true.mpr fun p hp => mp_part (hok.parts p hp)), mrests_rows]
      exact msmall_of n _ (nxM ls) hok.next (by omega) (by omega)
theorem mparts_of : ∀ (ts : List Th) (ls : List (List MP)), ts.all mpB = true → ts.map rstM = ls.map thMR → (∀ r ∈ ls, okMs r) → ∃ ps : List MP, ts = ps.map thM ∧ ps.map restM = ls ∧ ∀ p ∈ ps, okM p
  | [], ls, _, e, _ => ⟨[], rfl, (by
      cases ls with
      | nil => rfl
      | cons a l => cases e), fun _ h => nomatch h⟩
  | t :: ts, [], _, e, _ => by cases e
  | t :: ts, l :: ls, h, e, hok => by
    obtain ⟨h1, h2⟩ := Bool.and_eq_true_iff.mp (show (mpB t && ts.all mpB) = true from h)
    have e' : rstM t :: ts.map rstM = thMR l :: ls.map thMR := e
    obtain ⟨e1, e2⟩ := List.cons.inj e'
    obtain ⟨ps, p1, p2, p3⟩ := mparts_of ts ls h2 e2 (fun r hr => hok r (List.mem_cons_of_mem _ hr))
    have okl := hok l List.mem_cons_self
    obtain ⟨p, q1, q2, q3⟩ : ∃ p : MP, t = thM p ∧ restM p = l ∧ okM p := by
      rcases mp_cases h1 with ⟨n, m, rfl, hn, hm⟩ | ⟨n, x, y, rfl, hn, hx⟩
      · have q : rstM (Th.tup [.str "send", .str n, .str m]) = .tup [] := by
          show (if ("send" : Str) = "get" then (([.str n, .str m] : List Th)[2]?).getD .non else Th.tup []) = _
          rw [if_neg (by decide +kernel)]
        rw [q] at e1
        have el : l = [] := by
          cases l with
          | nil => rfl
          | cons a b => cases (Th.tup.inj e1)
        exact ⟨.send n m, rfl, el.symm, hn, hm⟩
      · have q : rstM (Th.tup [.str "get", .str n, .str x, y]) = y := by
          show (if ("get" : Str) = "get" then _ else Th.tup []) = _
          rw [if_pos rfl]
          rfl
        rw [q] at e1
        exact ⟨.get n x l, by rw [e1]; rfl, rfl, hn, hx, okl⟩
    exact ⟨p :: ps, by rw [q1, p1]; rfl, by rw [List.map_cons, q2, p2], fun r hr => by
      rcases List.mem_cons.mp hr with z | z
      · rw [z]; exact q3
      · exact p3 r z⟩
theorem msplit_flat : ∀ (xs : List (List Th)) (ps : List MP), xs.flatten = ps.map thM → ∃ ls : List (List MP), xs = ls.map (List.map thM) ∧ flM ls = ps
  | [], ps, e => ⟨[], rfl, by
      cases ps with
      | nil => rfl
      | cons a b => cases e⟩
  | x :: xs, ps, e => by
    have e' : ps.map thM = x ++ xs.flatten := e.symm
    obtain ⟨a, b, e1, e2, e3⟩ := List.map_eq_append_iff.mp e'
    obtain ⟨ls, l1, l2⟩ := msplit_flat xs b e3.symm
    exact ⟨a :: ls, by rw [List.map_cons, e2, l1], by show a ++ flM ls = ps; rw [l2, e1]⟩
theorem mrows_of : ∀ (n m : Nat) (ts : List Th), smQ mpB rstM 20 n m ts = true → ∃ ls : List (List MP), ts = ls.map thMR ∧ okMl ls ∧ m + sizeMl ls ≤ 20 ∧ deepMl ls < n
  | 0, m, ts, h => by cases h
  | n + 1, m, ts, h => by
    unfold smQ at h
    by_cases c1 : ts.all isTup = true
    · rw [if_pos c1] at h
      obtain ⟨xs, rfl⟩ := tups_of ts c1
      have ei : ((xs.map Th.tup).map itemsT).flatten = xs.flatten := by
        rw [List.map_map, show itemsT ∘ Th.tup = id from rfl, List.map_id]
      rw [ei] at h
      by_cases c2 : m + xs.flatten.length ≤ 20
      · rw [if_pos c2] at h
        by_cases c3 : xs.flatten = []
        · have all0 : ∀ x ∈ xs, x = [] := List.flatten_eq_nil_iff.mp c3
          refine ⟨xs.map fun _ => [], ?_, fun r hr => ?_, ?_, ?_⟩
          · rw [List.map_map]
            exact List.map_congr_left fun x hx => by rw [all0 x hx]; rfl
          · obtain ⟨_, _, rfl⟩ := List.mem_map.mp hr
            trivial
          · have z : ∀ ys : List (List Th), sizeMl (ys.map fun _ => ([] : List MP)) = 0 := by
              intro ys
              induction ys with
              | nil => rfl
              | cons y ys ih => show 0 + sizeMl (ys.map fun _ => ([] : List MP)) = 0; omega
            rw [z]; omega
          · have z : ∀ ys : List (List Th), deepMl (ys.map fun _ => ([] : List MP)) = 0 := by
              intro ys
              induction ys with
              | nil => rfl
              | cons y ys ih => show max 0 (deepMl (ys.map fun _ => ([] : List MP))) = 0; omega
            rw [z]; omega
        · rw [if_neg c3] at h
          by_cases c4 : xs.flatten.all mpB = true
          · rw [if_pos c4] at h
            obtain ⟨ls', e', hok', hs', hd'⟩ := mrows_of n _ _ h
            obtain ⟨ps, p1, p2, p3⟩ := mparts_of xs.flatten ls' c4 e' hok'
            obtain ⟨ls, l1, l2⟩ := msplit_flat xs ps p1
            have enx : nxM ls = ls' := by unfold nxM; rw [l2, p2]
            have sz := sizeMl_rests ls
            have du := deepMl_up ls
            rw [enx] at sz du
            have el : (flM ls).length = xs.flatten.length := by rw [l2, p1, List.length_map]
            refine ⟨ls, ?_, fun r hr => ?_, by omega, by omega⟩
            · rw [l1, List.map_map]
              exact List.map_congr_left fun r _ => by
                show Th.tup (r.map thM) = Th.tup (thMs r)
                rw [thMs_map]
            · have sub : ∀ p ∈ r, p ∈ ps := fun p hp => by
                rw [← l2]
                exact List.mem_flatten.mpr ⟨r, hr, hp⟩
              exact okMs.of fun p hp => p3 p (sub p hp)
          · rw [if_neg c4] at h; cases h
      · rw [if_neg c2] at h; cases h
    · rw [if_neg c1] at h; cases h
theorem mail_iff {t : Th} : smQ mpB rstM 20 5 0 [t] = true ↔ ∃ r : List MP, t = thMR r ∧ okMs r ∧ sizeMs r ≤ 20 ∧ deepMs r ≤ 4 := by
  constructor
  · intro h
    obtain ⟨ls, e, hok, hs, hd⟩ := mrows_of 5 0 [t] h
    match ls, e, hok, hs, hd with
    | [r], e, hok, hs, hd =>
      have hs' : 0 + (sizeMs r + 0) ≤ 20 := hs
      have hd' : max (deepMs r) 0 < 5 := hd
      exact ⟨r, (List.cons.inj e).1, hok r List.mem_cons_self, by omega, by omega⟩
    | [], e, _, _, _ => cases e
    | _ :: _ :: _, e, _, _, _ => cases (List.cons.inj e).2
  · rintro ⟨r, rfl, hok, hs, hd⟩
    exact msmall_of 5 0 [r] (fun q hq => by rw [List.mem_singleton.mp hq]; exact hok) (by show 0 + (sizeMs r + 0) ≤ 20; omega) (by show max (deepMs r) 0 < 5; omega)
/-- all parts, level by level -/
def allM : Nat → List (List MP) → List MP
  | 0, _ => []
  | n + 1, ls => if flM ls = [] then [] else flM ls ++ allM n (nxM ls)
theorem allQ_rows : ∀ (n : Nat) (ls : List (List MP)), allQ rstM n (ls.map thMR) = (allM n ls).map thM
  | 0, ls => rfl
  | n + 1, ls => by
    unfold allQ allM
    rw [mflat_rows]
    by_cases e : flM ls = []
    · rw [e]; rfl
    · rw [if_neg e, if_neg (fun z => e (List.map_eq_nil_iff.mp z)), mrests_rows, allQ_rows n (nxM ls), List.map_append]
theorem allM_gets : ∀ (n : Nat) (ls : List (List MP)), deepMl ls < n → getsM (allM n ls) = bdMl ls
  | 0, ls, h => absurd h (Nat.not_lt_zero _)
  | n + 1, ls, h => by
    have b := bdMl_rests ls
    have d := deepMl_rests ls
    unfold allM
    by_cases e : flM ls = []
    · rw [if_pos e]
      have e2 : nxM ls = [] := by unfold nxM; rw [e]; rfl
      rw [e, e2] at b
      exact b.symm
    · rw [if_neg e, getsM_app]
      have dp := deepMl_pos ls e
      rw [allM_gets n (nxM ls) (by omega)]
      exact b.symm
theorem allM_len : ∀ (n : Nat) (ls : List (List MP)), deepMl ls < n → (allM n ls).length = sizeMl ls
  | 0, ls, h => absurd h (Nat.not_lt_zero _)
  | n + 1, ls, h => by
    have b := sizeMl_rests ls
    have d := deepMl_rests ls
    unfold allM
    by_cases e : flM ls = []
    · rw [if_pos e]
      have e2 : nxM ls = [] := by unfold nxM; rw [e]; rfl
      rw [e, e2] at b
      exact b.symm
    · rw [if_neg e, List.length_append]
      have dp := deepMl_pos ls e
      rw [allM_len n (nxM ls) (by omega)]
      exact b.symm
/-- a row that is mail -/
structure MailR (r : List MP) : Prop where
  ok : okMs r
  size : sizeMs r ≤ 20
  deep : deepMs r ≤ 4
  gets : (bdMs r).length ≤ 10
  nd : (bdMs r).Nodup
  apart : ∀ x ∈ bdMs r, x ∉ frMs [] r
mutual
theorem thM_inj : ∀ (p q : MP), thM p = thM q → p = q
  | .send n m, .send n' m', h => by
    have := Th.tup.inj h
    have h1 := (List.cons.inj (List.cons.inj this).2).1
    have h2 := (List.cons.inj (List.cons.inj (List.cons.inj this).2).2).1
    rw [Th.str.inj h1, Th.str.inj h2]
  | .get n x r, .get n' x' r', h => by
    have := Th.tup.inj h
    have h1 := (List.cons.inj (List.cons.inj this).2).1
    have h2 := (List.cons.inj (List.cons.inj (List.cons.inj this).2).2).1
    have h3 := (List.cons.inj (List.cons.inj (List.cons.inj (List.cons.inj this).2).2).2).1
    rw [Th.str.inj h1, Th.str.inj h2, thMs_inj r r' (Th.tup.inj h3)]
  | .send n m, .get n' x' r', h => by
    have h0 := Th.str.inj (List.cons.inj (Th.tup.inj h)).1
    exact absurd h0 (by decide +kernel)
  | .get n x r, .send n' m', h => by
    have h0 := Th.str.inj (List.cons.inj (Th.tup.inj h)).1
    exact absurd h0 (by decide +kernel)
theorem thMs_inj : ∀ (r q : List MP), thMs r = thMs q → r = q
  | [], [], _ => rfl
  | p :: r, q :: t, h => by
    have h' : thM p :: thMs r = thM q :: thMs t := h
    rw [thM_inj p q (List.cons.inj h').1, thMs_inj r t (List.cons.inj h').2]
  | [], q :: t, h => by cases h
  | p :: r, [], h => by cases h
end
theorem thMR_inj {r q : List MP} (h : thMR r = thMR q) : r = q := thMs_inj r q (Th.tup.inj h)
theorem thMs_len (r : List MP) : (thMs r).length = r.length := by rw [thMs_map, List.length_map]
mutual
theorem okT_M : ∀ p : MP, okM p → sizeM p ≤ 1000 → okT (thM p)
  | .send n m, h, hs => by
    have l1 := mn_len h.1
    have l2 := mn_len h.2
    exact ⟨(show 3 ≤ 1000 by decide), (show ("send" : Str).length ≤ 1000 by decide +kernel), (show n.length ≤ 1000 by omega), (show m.length ≤ 1000 by omega), trivial⟩
  | .get n x r, h, hs => by
    have l1 := mn_len h.1
    have l2 := mn_len h.2.1
    unfold sizeM at hs
    have l := len_sizeMs r
    exact ⟨(show 4 ≤ 1000 by decide), (show ("get" : Str).length ≤ 1000 by decide +kernel), (show n.length ≤ 1000 by omega), (show x.length ≤ 1000 by omega), ⟨by rw [thMs_len]; omega, okT_Ms r h.2.2 (by omega)⟩, trivial⟩
theorem okT_Ms : ∀ r : List MP, okMs r → sizeMs r ≤ 1000 → okTs (thMs r)
  | [], _, _ => trivial
  | p :: r, h, hs => by
    unfold sizeMs at hs
    exact ⟨okT_M p h.1 (by omega), okT_Ms r h.2 (by omega)⟩
end
theorem okT_mail {r : List MP} (h : okMs r) (hs : sizeMs r ≤ 1000) : okT (thMR r) := by
  have l := len_sizeMs r
  exact ⟨by rw [thMs_len]; omega, okT_Ms r h hs⟩
theorem okT.rstM {t : Th} (h : okT t) (g : mpB t = true) : okT (rstM t) := by
  rcases mp_cases g with ⟨n, m, rfl, _, _⟩ | ⟨n, x, y, rfl, _, _⟩
  · have q : Wk.rstM (Th.tup [.str "send", .str n, .str m]) = .tup [] := by
      show (if ("send" : Str) = "get" then (([.str n, .str m] : List Th)[2]?).getD .non else Th.tup []) = _
      rw [if_neg (by decide +kernel)]
    rw [q]
    exact ⟨Nat.zero_le _, trivial⟩
  · have q : Wk.rstM (Th.tup [.str "get", .str n, .str x, y]) = y := by
      show (if ("get" : Str) = "get" then _ else Th.tup []) = _
      rw [if_pos rfl]
      rfl
    rw [q]
    exact h.2.2.2.2.1
end Wk

set_option Elab.async false
set_option linter.all false
set_option maxRecDepth 100000
set_option maxHeartbeats 4000000
/-! Mail: promises. -/
namespace Wk
open PySem PySem.Spec PyProof.Rows L2 GxR
def mnV : V → Bool
  | .str z => mnB z
  | _ => false
theorem ThAt.mthing {H : Hp} {t : Th} {v : V} (h : ThAt H t v) (ok : okT t) : Thing H v ∧ mnV v = mnT t := by
  refine ⟨(h.thing ok).1, ?_⟩
  cases t with
  | str z => cases h; rfl
  | non => cases h; rfl
  | int i => cases h; rfl
  | bl b => cases h; rfl
  | lst xs =>
    obtain ⟨a, vs, rfl, e, _⟩ := h
    rfl
  | tup xs =>
    obtain ⟨a, vs, rfl, e, _⟩ := h
    rfl
  | dct =>
    obtain ⟨a, rfl, e⟩ := h
    rfl
theorem mword_pos {z s : Str} (h : wordB z s = true) : ∃ c r, z.cps.toList = c :: r := by
  unfold wordB at h
  rw [Bool.and_eq_true] at h
  have h1 := of_decide_eq_true h.1
  cases e : z.cps.toList with
  | nil =>
    have : z.length = z.cps.toList.length := (Array.length_toList).symm
    rw [e, List.length_nil] at this
    omega
  | cons c r => exact ⟨c, r, rfl⟩
theorem msign_eq {c d : Nat} {z : Str} (hz : z = ⟨#[d]⟩) : decide (V.str ⟨#[c]⟩ = V.str z) = decide (c = d) := by
  subst hz
  by_cases h : c = d
  · rw [h, decide_eq_true rfl, decide_eq_true rfl]
  · rw [decide_eq_false h, decide_eq_false (fun g => h (by
      have := congrArg (fun s : Str => s.cps.toList) (V.str.inj g)
      simpa using this))]
def msV (z : Str) : V := match msOf z with
  | some n => .int (n : Nat)
  | none => .non
def MSizesG (K : PySem.W.Frag) (w : World) (d : Addr) : Prop := KGot K w d ∧ ∀ z : Str, ∃ (r : Option Value), PySem.W.nsIn K d z = some r ∧ RelV (msV z) (r.getD .none)
theorem msV_eq (z : Str) (n : Nat) : decide (msV z = V.int (n : Nat)) = decide (msOf z = some n) := by
  unfold msV
  cases e : msOf z with
  | none =>
    rw [decide_eq_false (by intro h; cases h), decide_eq_false (by intro h; cases h)]
  | some k =>
    by_cases c : k = n
    · rw [c, decide_eq_true rfl, decide_eq_true rfl]
    · rw [decide_eq_false (by intro h; exact c (by have := V.int.inj h; omega)), decide_eq_false (by intro h; exact c (Option.some.inj h))]
theorem msV_scal (z : Str) (n : Int) : scal (msV z) (.int n) = true := by
  unfold msV
  cases msOf z <;> rfl
theorem mp_word {t : Th} (h : wordT t = false) : mpB t = false := by
  cases t with
  | tup xs =>
    cases xs with
    | nil => rfl
    | cons x r => cases x <;> first | rfl | cases h
  | _ => rfl
mutual
theorem thM_tup {H H' : Hp} (s : STup H H') : ∀ (p : MP) (v : V), ThAt H (thM p) v → ThAt H' (thM p) v
  | .send n m, v, h => by
    obtain ⟨a, vs, e, h1, h2⟩ := h
    exact ⟨a, vs, e, s _ _ h1, h2⟩
  | .get n x r, v, h => by
    obtain ⟨a, vs, e, h1, u1, w1, e1, g1, u2, w2, e2, g2, u3, w3, e3, g3, u4, w4, e4, ⟨b, xs, eb, hb, hx⟩, g5⟩ := h
    exact ⟨a, vs, e, s _ _ h1, u1, w1, e1, g1, u2, w2, e2, g2, u3, w3, e3, g3, u4, w4, e4, ⟨b, xs, eb, s _ _ hb, thMs_tup s r xs hx⟩, g5⟩
theorem thMs_tup {H H' : Hp} (s : STup H H') : ∀ (r : List MP) (vs : List V), ThsAt H (thMs r) vs → ThsAt H' (thMs r) vs
  | [], vs, h => h
  | p :: r, vs, h => by
    obtain ⟨v, us, e, h1, h2⟩ := h
    exact ⟨v, us, e, thM_tup s p v h1, thMs_tup s r us h2⟩
end
theorem thMR_tup {H H' : Hp} (s : STup H H') {r : List MP} {v : V} (h : ThAt H (thMR r) v) : ThAt H' (thMR r) v := by
  obtain ⟨a, vs, e, h1, h2⟩ := h
  exact ⟨a, vs, e, s _ _ h1, thMs_tup s r vs h2⟩
theorem thMs_get {H : Hp} {r : List MP} {vs : List V} (h : ThsAt H (thMs r) vs) {i : Nat} {v : V} (e : vs[i]? = some v) : ∃ p, r[i]? = some p ∧ ThAt H (thM p) v := by
  obtain ⟨t, ht, hv⟩ := ThsAt.get h e
  rw [thMs_map, List.getElem?_map] at ht
  cases ep : r[i]? with
  | none => rw [ep] at ht; cases ht
  | some p =>
    rw [ep] at ht
    cases ht
    exact ⟨p, rfl, hv⟩
theorem deepMs.mem : ∀ {r : List MP} (p : MP), p ∈ r → deepM p ≤ deepMs r
  | q :: r, p, h => by
    show deepM p ≤ max (deepM q) (deepMs r)
    rcases List.mem_cons.mp h with e | e
    · rw [e]; omega
    · have := deepMs.mem p e
      omega
theorem sizeMs_app : ∀ r q : List MP, sizeMs (r ++ q) = sizeMs r + sizeMs q
  | [], q => by show sizeMs q = 0 + sizeMs q; omega
  | p :: r, q => by
    have := sizeMs_app r q
    show sizeM p + sizeMs (r ++ q) = sizeM p + sizeMs r + sizeMs q
    omega
theorem sizeMs_take (r : List MP) (i : Nat) : sizeMs (r.take i) ≤ sizeMs r := by
  have e := sizeMs_app (r.take i) (r.drop i)
  rw [List.take_append_drop] at e
  omega
theorem bdMs_app : ∀ r q : List MP, bdMs (r ++ q) = bdMs r ++ bdMs q
  | [], q => rfl
  | p :: r, q => by
    show bdM p ++ bdMs (r ++ q) = (bdM p ++ bdMs r) ++ bdMs q
    rw [bdMs_app r q, List.append_assoc]
theorem frMs_app (S : List Str) : ∀ r q : List MP, frMs S (r ++ q) = frMs S r ++ frMs S q
  | [], q => rfl
  | p :: r, q => by
    show frM S p ++ frMs S (r ++ q) = (frM S p ++ frMs S r) ++ frMs S q
    rw [frMs_app S r q, List.append_assoc]
def spGatherM (n : Nat) : Sp := fun vs H Q _ => ∃ (v : V) (r : List MP) (aS F B : Addr) (S fs bs : List Str), vs = [v, .ref aS, .ref F, .ref B] ∧ ThAt H (thMR r) v ∧ H aS = some (.tup (S.map V.str)) ∧ H F = some (.lst (fs.map V.str)) ∧ H B = some (.lst (bs.map V.str)) ∧ F ≠ B ∧
  deepMs r < n ∧ 2 * sizeMs r + fs.length ≤ 1000 ∧ sizeMs r + bs.length ≤ 1000 ∧ S.length + deepMs r ≤ 1000 ∧
  ∀ H', Sam2 F B H H' → H' F = some (.lst ((fs ++ frMs S r).map V.str)) → H' B = some (.lst ((bs ++ bdMs r).map V.str)) → Q .non H'
def spCallingsM (n : Nat) : Sp := fun vs H Q _ => ∃ (v : V) (r : List MP), vs = [v] ∧ ThAt H (thMR r) v ∧ deepMs r < n ∧ sizeMs r ≤ 500 ∧ deepMs r ≤ 1000 ∧
  ∀ (H' : Hp) (t F B : Addr), Same H H' → H F = none → H B = none → F ≠ B → H' t = some (.tup [.ref F, .ref B]) → H' F = some (.lst ((frMs [] r).map V.str)) → H' B = some (.lst ((bdMs r).map V.str)) → Q (.ref t) H'
def spMail (Ts : List Addr) : Sp := fun vs H Q _ => ∃ (v : V) (t : Th), vs = [v] ∧ ThAt H t v ∧ okT t ∧ TabsG Ts H ∧ ∀ (H' : Hp) (b : Bool), SamTs Ts H H' → (b = true ↔ ∃ r, t = thMR r ∧ MailR r) → Q (.bl b) H'
end Wk

set_option Elab.async false
set_option linter.all false
set_option maxRecDepth 100000
set_option maxHeartbeats 4000000
/-! A tuple's items among written ones: ( *t, x). -/
namespace Wk
open PySem PySem.Spec PyProof.Rows L2 GxR
def tStar (K : PySem.W.Frag) (te : TE) (t : TA) : TA := fun σ H Q => te σ H fun x H1 => ∃ a xs, x = .ref a ∧ SqT K H1 a xs ∧ t σ H1 fun ys H2 => Q (xs ++ ys) H2
section
variable {X : Cx} {e : Expr} {es : List Expr} {te : TE} {t : TA} {p : Pos}
theorem pa_star (ha : PE X e te) (hr : PA X es t) (hs : starEach (.Starred e p :: es) X.env = (true, eval e X.env) :: starEach es X.env := by rfl) : PA X (.Starred e p :: es) (tStar X.K te t) := by
  refine ⟨fun pos pins s σ H Q I h => ?_⟩
  rw [hs]
  show wpAny _ _ (spliced ((true, (do let v ← eval e X.env; standAt pos; pure v)) :: backTo pos (starEach es X.env))) _ _ s
  refine PySem.W.ks_spliced (thn (ha.run pins s σ H _ I h) fun u s1 ⟨x, H1, I1, r1, a, xs, ex, hq, q1⟩ => ?_)
  subst ex
  obtain rfl : u = Value.ref a := r1
  refine star_tup I1 hq fun us s2 I2 rv => ?_
  exact thn (hr.run pos pins s2 σ H1 _ I2 q1) fun vs s3 ⟨ys, H2, I3, r2, q2⟩ => ⟨xs ++ ys, H2, I3, rv.append r2, q2⟩
end
end Wk
namespace Wk
open PySem PySem.Spec PyProof.Rows L2 GxR
/-- the names that a part uses -/
def usedM : MP → List Str
  | .send n m => [n, m]
  | .get n _ _ => [n]
theorem frM_used (S : List Str) (p : MP) : frM S p = fltM S (usedM p) ++ (match p with | .send _ _ => [] | .get _ x r => frMs (S ++ [x]) r) := by
  cases p with
  | send n m => exact (List.append_nil _).symm
  | get n x r => rfl
theorem used_len (p : MP) : (usedM p).length ≤ 2 := by
  cases p with
  | send _ _ => exact Nat.le_refl 2
  | get _ _ _ => exact Nat.le_succ 1
theorem fltM_take (S : List Str) {us : List Str} {j : Nat} {x : Str} (h : us[j]? = some x) : fltM S (us.take (j + 1)) = fltM S (us.take j) ++ (if x ∈ S then [] else [x]) := by
  unfold fltM
  rw [List.take_add_one, h, List.filter_append]
  by_cases c : x ∈ S
  · rw [if_pos c]
    simp [c]
  · rw [if_neg c]
    simp [c]
end Wk
namespace Wk
open PySem PySem.Spec PyProof.Rows L2 GxR
def spMNames (n : Nat) : Sp := fun vs H Q _ => ∃ (v : V) (r : List MP), vs = [v] ∧ ThAt H (thMR r) v ∧ deepMs r < n ∧ sizeMs r ≤ 20 ∧ deepMs r ≤ 1000 ∧
  ∀ (H' : Hp) (p : Addr) (ys : List Str), Same H H' → H p = none → ys.Nodup → (∀ x, x ∈ ys ↔ x ∈ frMs [] r) → sortedS ys = true → H' p = some (.lst (ys.map V.str)) → Q (.ref p) H'
theorem getsM_take {r : List MP} {j : Nat} {p : MP} (h : r[j]? = some p) : getsM (r.take (j + 1)) = getsM (r.take j) + (if isGetM p = true then 1 else 0) := by
  rw [List.take_add_one, h, getsM_app]
  cases p <;> rfl
end Wk

set_option Elab.async false
set_option linter.all false
set_option maxRecDepth 100000
set_option maxHeartbeats 4000000
/-! Mail as it is drawn. -/
namespace Wk
open PySem PySem.Spec PyProof.Rows L2 GxR
def cntM : Nat → Nat
  | 0 => 1
  | m + 1 => 1 + 2 * cntM m
theorem deepMs_app : ∀ r q : List MP, deepMs (r ++ q) = max (deepMs r) (deepMs q)
  | [], q => by show deepMs q = max 0 (deepMs q); omega
  | p :: r, q => by
    have := deepMs_app r q
    show max (deepM p) (deepMs (r ++ q)) = max (max (deepM p) (deepMs r)) (deepMs q)
    omega
theorem okMs_app : ∀ {r q : List MP}, okMs r → okMs q → okMs (r ++ q)
  | [], q, _, h => h
  | p :: r, q, g, h => ⟨g.1, okMs_app g.2 h⟩
structure MGP (m : Nat) (ss sp sp' : List Str) (p : MP) : Prop where
  deep : deepM p ≤ m + 1
  size : sizeM p ≤ cntM m
  fr : ∀ S x, x ∈ frM S p → x ∈ ss ∧ x ∉ S
  bd : sp = sp' ++ (bdM p).reverse
  ok : (∀ n ∈ ss, mnB n = true) → (∀ n ∈ sp, mnB n = true) → okM p
structure MGR (m k : Nat) (ss sp sp' : List Str) (r : List MP) : Prop where
  deep : deepMs r ≤ m + 1
  size : sizeMs r ≤ k * cntM m
  fr : ∀ S x, x ∈ frMs S r → x ∈ ss ∧ x ∉ S
  bd : sp = sp' ++ (bdMs r).reverse
  ok : (∀ n ∈ ss, mnB n = true) → (∀ n ∈ sp, mnB n = true) → okMs r
theorem MGR.nil {m : Nat} {ss sp : List Str} : MGR m 0 ss sp sp [] := ⟨Nat.zero_le _, Nat.zero_le _, fun _ _ h => (nomatch h), by simp [bdMs], fun _ _ => trivial⟩
theorem MGR.snoc {m k : Nat} {ss sp sp1 sp2 : List Str} {r : List MP} {p : MP} (h : MGR m k ss sp sp1 r) (g : MGP m ss sp1 sp2 p) : MGR m (k + 1) ss sp sp2 (r ++ [p]) := by
  have mem1 : ∀ n ∈ sp1, n ∈ sp := fun n hn => by rw [h.bd]; exact List.mem_append_left _ hn
  refine ⟨?_, ?_, fun S x hx => ?_, ?_, fun a b => okMs_app (h.ok a b) ⟨g.ok a fun n hn => b n (mem1 n hn), trivial⟩⟩
  · rw [deepMs_app]
    have h1 := h.deep
    have h2 := g.deep
    show max (deepMs r) (max (deepM p) 0) ≤ m + 1
    omega
  · rw [sizeMs_app, Nat.succ_mul]
    have h1 := h.size
    have h2 := g.size
    show sizeMs r + (sizeM p + 0) ≤ _
    omega
  · rw [frMs_app, show frMs S [p] = frM S p ++ [] from rfl, List.append_nil] at hx
    rcases List.mem_append.mp hx with q | q
    · exact h.fr S x q
    · exact g.fr S x q
  · rw [bdMs_app, List.reverse_append, show bdMs [p] = bdM p from List.append_nil _, ← List.append_assoc, ← g.bd]
    exact h.bd
theorem MGR.up {m k j : Nat} {ss sp sp' : List Str} {r : List MP} (h : MGR m k ss sp sp' r) (hk : k ≤ j) : MGR m j ss sp sp' r :=
  ⟨h.deep, Nat.le_trans h.size (Nat.mul_le_mul_right _ hk), h.fr, h.bd, h.ok⟩
theorem cntM_pos (m : Nat) : 1 ≤ cntM m := by
  cases m with
  | zero => exact Nat.le_refl 1
  | succ m => show 1 ≤ 1 + 2 * cntM m; omega
theorem MGP.send {m : Nat} {ss sp : List Str} {a b : Str} (ha : a ∈ ss) (hb : b ∈ ss) : MGP m ss sp sp (.send a b) := by
  refine ⟨by show 1 ≤ m + 1; omega, cntM_pos m, fun S x hx => ?_, by simp [bdM], fun h _ => ⟨h a ha, h b hb⟩⟩
  have hx : x ∈ [a, b].filter fun n => decide (n ∉ S) := hx
  obtain ⟨h1, h2⟩ := List.mem_filter.mp hx
  refine ⟨?_, of_decide_eq_true h2⟩
  rcases List.mem_cons.mp h1 with e | e
  · rw [e]; exact ha
  · rw [List.mem_singleton.mp e]; exact hb
theorem MGP.get {m : Nat} {ss sp1 sp' : List Str} {r : List MP} {a n : Str} (ha : a ∈ ss) (h : MGR m 2 (ss ++ [n, n]) sp1 sp' r) : MGP (m + 1) ss (sp1 ++ [n]) sp' (.get a n r) := by
  have h1 := h.deep
  have h2 := h.size
  refine ⟨?_, ?_, fun S x hx => ?_, ?_, fun ho hp => ⟨ho a ha, hp n (List.mem_append_right _ List.mem_cons_self), h.ok (fun k hk => ?_) fun k hk => hp k (List.mem_append_left _ hk)⟩⟩
  · show deepMs r + 1 ≤ m + 1 + 1
    omega
  · show sizeMs r + 1 ≤ 1 + 2 * cntM m
    omega
  · have hx : x ∈ fltM S [a] ++ frMs (S ++ [n]) r := hx
    rcases List.mem_append.mp hx with q | q
    · obtain ⟨h1, h2⟩ := List.mem_filter.mp (show x ∈ [a].filter fun n => decide (n ∉ S) from q)
      rw [List.mem_singleton.mp h1] at h2 ⊢
      exact ⟨ha, of_decide_eq_true h2⟩
    · obtain ⟨g1, g2⟩ := h.fr _ _ q
      have nS : x ∉ S := fun z => g2 (List.mem_append_left _ z)
      have nn : x ≠ n := fun z => g2 (by rw [z]; exact List.mem_append_right _ List.mem_cons_self)
      rcases List.mem_append.mp g1 with u | u
      · exact ⟨u, nS⟩
      · have : x = n := by simpa using u
        exact absurd this nn
  · show _ = sp' ++ (n :: bdMs r).reverse
    rw [List.reverse_cons, ← List.append_assoc, ← h.bd]
  · rcases List.mem_append.mp hk with u | u
    · exact ho k u
    · have : k = n := by simpa using u
      rw [this]
      exact hp n (List.mem_append_right _ List.mem_cons_self)
def spMP (n : Nat) : Sp := fun vs H Q _ => ∃ (L S A : Addr) (nL : Int) (m : Nat) (ss sp : List Str), GArg vs H L S A nL m ss sp ∧ m ≤ n ∧
  ∀ (H' : Hp) (v : V) (sp' : List Str) (p : MP), StG L S H H' sp' → ThAt H' (thM p) v → MGP m ss sp sp' p → Q v H'
def spMRow (n : Nat) : Sp := fun vs H Q _ => ∃ (L S A : Addr) (nL : Int) (m : Nat) (ss sp : List Str), GArg vs H L S A nL m ss sp ∧ m < n ∧
  ∀ (H' : Hp) (v : V) (sp' : List Str) (r : List MP), StG L S H H' sp' → ThAt H' (thMR r) v → MGR m 2 ss sp sp' r → Q v H'
/-- a letter but z by its number, and up to three more of eight -/
def MNameOf (j : Nat) (z : Str) : Prop := ∃ r, z.cps.toList = (97 + j) :: r ∧ r.length ≤ 3 ∧ ∀ c ∈ r, c ∈ vow.cps.toList
theorem MNameOf.name {j : Nat} {z : Str} (h : MNameOf j z) : NameOf j z := by
  obtain ⟨r, e, h1, h2⟩ := h
  exact ⟨r, e, by omega, h2⟩
theorem MNameOf.ok {j : Nat} {z : Str} (h : MNameOf j z) (hj : j < 25) : mnB z = true := by
  have h1 := name_ok h.name (by omega)
  obtain ⟨r, e, h2, h3⟩ := h
  have l : z.length = r.length + 1 := by
    have : z.length = z.cps.toList.length := (Array.length_toList).symm
    rw [this, e, List.length_cons]
  unfold mnB
  rw [h1, decide_eq_true (by omega), e, List.head?_cons, decide_eq_false (by intro q; have := Option.some.inj q; omega)]
  rfl
abbrev abd : Str := "abcdefghijklmnopqrstuvwxy"
theorem abd_at : ∀ j : Nat, j < 25 → abd.cps.toList[j]? = some (97 + j) := by decide +kernel
def spMNm : Sp := fun vs H Q _ => ∃ (L : Addr) (n : Int) (m : Nat), vs = [.ref L, .int m] ∧ H L = some (.lst [.int n]) ∧ m ≤ 100 ∧
  ∀ (H' : Hp) (p : Addr) (s : Nat) (zs : List Str), StL L H H' → H p = none → H' p = some (.lst (zs.map V.str)) → zs.length = m → s < 25 → (∀ i z, zs[i]? = some z → MNameOf ((s + 4 * i) % 25) z) → Q (.ref p) H'
/-- drawn names differ -/
theorem mnames_nodup {s : Nat} {zs : List Str} (l : zs.length ≤ 25) (h : ∀ i z, zs[i]? = some z → MNameOf ((s + 4 * i) % 25) z) : zs.Nodup := by
  refine List.pairwise_iff_getElem.mpr fun i j hi hj hij e => ?_
  have h1 := h i zs[i] (List.getElem?_eq_getElem hi)
  have h2 := h j zs[j] (List.getElem?_eq_getElem hj)
  rw [← e] at h2
  have := h1.name.inj h2.name
  omega
end Wk

set_option Elab.async false
set_option linter.all false
set_option maxRecDepth 100000
set_option maxHeartbeats 4000000
/-! Mail drawn: rows joined, sizes. -/
namespace Wk
open PySem PySem.Spec PyProof.Rows L2 GxR
def rCatM : R2 := fun x y H Q => ∃ a b xs ys, x = .ref a ∧ y = .ref b ∧ H a = some (.tup xs) ∧ H b = some (.tup ys) ∧ xs.length + ys.length ≤ 1000 ∧ ∀ (H' : Hp) (c : Addr), Same H H' → H' c = some (.tup (xs ++ ys)) → Q (.ref c) H'
theorem op_catM {X : Cx} : OpR X (binaryOp .Add) rCatM := by
  intro pins s σ H x y v u Q I rx ry h
  obtain ⟨a, b, xs, ys, ex, ey, ha, hb, hz, q⟩ := h
  refine op_catA pins s σ H x y v u Q I rx ry ⟨a, b, xs, ys, ex, ey, SqT.of ha, SqT.of hb, small hz, fun e => ?_, fun _ e => ?_, fun _ _ p np => ?_⟩
  · exact q H b (fun _ _ e => e) (by rw [e]; exact hb)
  · exact q H a (fun _ _ e => e) (by rw [e, List.append_nil]; exact ha)
  · exact q _ p (same_new np) upd_same
def spMSize (n : Nat) : Sp := fun vs H Q _ => ∃ (v : V) (r : List MP), vs = [v] ∧ ThAt H (thMR r) v ∧ deepMs r < n ∧ Q (.int (sizeMs r : Nat)) H
/-- drawn so far: parts of names, what is bound taken out of the spare ones -/
structure MDr (zs sc sp : List Str) (r : List MP) : Prop where
  ok : okMs r
  size : sizeMs r ≤ 20
  deep : deepMs r ≤ 4
  fr : ∀ x ∈ frMs [] r, x ∈ sc
  bd : ∃ dn, zs = sp ++ dn ∧ (∀ x ∈ bdMs r, x ∈ dn)
  nd : (bdMs r).Nodup
theorem MDr.none {zs sc : List Str} : MDr zs sc zs [] := ⟨trivial, Nat.zero_le _, Nat.zero_le _, fun _ h => (nomatch h), ⟨[], (List.append_nil _).symm, fun _ h => (nomatch h)⟩, List.nodup_nil⟩
/-- what is drawn and not kept -/
theorem MDr.less {zs sc sp sp' : List Str} {r q : List MP} (h : MDr zs sc sp r) (g : MGR 3 2 sc sp sp' q) : MDr zs sc sp' r := by
  obtain ⟨dn, e, hd⟩ := h.bd
  exact ⟨h.ok, h.size, h.deep, h.fr, ⟨(bdMs q).reverse ++ dn, by rw [← List.append_assoc, ← g.bd]; exact e, fun x hx => List.mem_append_right _ (hd x hx)⟩, h.nd⟩
theorem MDr.more {zs sc sp sp' : List Str} {r q : List MP} (nz : zs.Nodup) (hs : ∀ n ∈ sc, mnB n = true) (hz : ∀ n ∈ zs, mnB n = true) (h : MDr zs sc sp r) (g : MGR 3 2 sc sp sp' q) (hl : sizeMs (r ++ q) ≤ 20) : MDr zs sc sp' (r ++ q) := by
  obtain ⟨dn, e, hd⟩ := h.bd
  have e2 : zs = sp' ++ ((bdMs q).reverse ++ dn) := by rw [← List.append_assoc, ← g.bd]; exact e
  have n2 : ((bdMs q).reverse ++ dn).Nodup := by
    rw [e2] at nz
    exact (List.nodup_append.mp nz).2.1
  obtain ⟨nq, _, dj⟩ := List.nodup_append.mp n2
  have hsp : ∀ n ∈ sp, mnB n = true := fun n hn => hz n (by rw [e]; exact List.mem_append_left _ hn)
  refine ⟨okMs_app h.ok (g.ok hs hsp), hl, ?_, fun x hx => ?_, ⟨_, e2, fun x hx => ?_⟩, ?_⟩
  · rw [deepMs_app]
    have := h.deep
    have := g.deep
    omega
  · rw [frMs_app] at hx
    rcases List.mem_append.mp hx with u | u
    · exact h.fr x u
    · exact (g.fr _ x u).1
  · rw [bdMs_app] at hx
    rcases List.mem_append.mp hx with u | u
    · exact List.mem_append_right _ (hd x u)
    · exact List.mem_append_left _ (List.mem_reverse.mpr u)
  · rw [bdMs_app]
    refine List.nodup_append.mpr ⟨h.nd, (List.reverse_perm _).nodup_iff.mp nq, fun a ha b hb e => ?_⟩
    exact dj b (List.mem_reverse.mpr hb) a (hd a ha) e.symm
theorem MDr.mail {zs sc sp : List Str} {r : List MP} (h : MDr zs sc sp r) (hl : zs.length ≤ 10) (hd : ∀ x ∈ zs, x ∉ sc) : MailR r := by
  obtain ⟨dn, e, hdn⟩ := h.bd
  have sub : ∀ x ∈ bdMs r, x ∈ zs := fun x hx => by rw [e]; exact List.mem_append_right _ (hdn x hx)
  refine ⟨h.ok, h.size, h.deep, ?_, h.nd, fun x hx hf => hd x (sub x hx) (h.fr x hf)⟩
  have := sub_len (bdMs r) zs h.nd sub
  omega
def spMailD : Sp := fun vs H Q _ => ∃ (L N : Addr) (n : Int) (zs : List Str), vs = [.ref L, .ref N] ∧ H L = some (.lst [.int n]) ∧ H N = some (.lst (zs.map V.str)) ∧ N ≠ L ∧ zs.length = 12 ∧ zs.Nodup ∧ (∀ z ∈ zs, mnB z = true ∧ Sh 6 z) ∧
  ∀ (H' : Hp) (v : V) (r : List MP), StL L H H' → ThAt H' (thMR r) v → MailR r → Q v H'
end Wk

set_option Elab.async false
set_option linter.all false
set_option maxRecDepth 100000
set_option maxHeartbeats 4000000
/-! A tuple compared with the one without items. -/
namespace Wk
open PySem PySem.Spec PyProof.Rows L2 GxR
def rNeT0 (K : PySem.W.Frag) : R2 := fun x y H Q => ∃ (a b : Addr) (xs : List V), x = .ref a ∧ y = .ref b ∧ SqT K H a xs ∧ SqT K H b [] ∧ Q (.bl (!xs.isEmpty)) H
theorem op_neT0 {X : Cx} (hu : X.A.units + 64 < cLine) : OpR X (compareOp .NotEq) (rNeT0 X.K) := by
  intro pins s σ H x y v u Q I rx ry h
  obtain ⟨a, b, xs, rfl, rfl, ha, hb, q⟩ := h
  cases rx
  cases ry
  obtain ⟨its, r1, ⟨o, h1, h2, n, h3⟩, _⟩ := I.tuple ha
  obtain ⟨its2, r2, ⟨o2, k1, k2, n2, k3⟩, _⟩ := I.tuple hb
  cases r2
  have l1 := r1.length
  have t := SeqAt.RcNeAt.tuples (A := X.A) (s := s) (e := fun _ => true) (items := its.toArray) (items2 := #[]) ⟨o, h1, h2, n, h3⟩ ⟨o2, k1, k2, n2, k3⟩ (by omega) (fun j j1 j2 => absurd j2 (by simp))
  refine t X.prog X.w X.xe _ ?_
  have e : (!(((List.range (min its.toArray.size (#[] : Array Value).size)).all fun _ => true) && its.toArray.size == (#[] : Array Value).size)) = !xs.isEmpty := by
    have a1 : ((List.range (min its.toArray.size (#[] : Array Value).size)).all fun _ => true) = true := List.all_eq_true.mpr fun _ _ => rfl
    rw [a1, Bool.true_and, List.size_toArray, ← l1]
    cases xs <;> rfl
  exact ⟨.bl (!xs.isEmpty), H, I, by rw [← e]; rfl, q⟩
/-! ### the law's own look -/
def spLName : Sp := fun vs H Q _ => ∃ (v : V) (t : Th), vs = [v] ∧ ThAt H t v ∧ okT t ∧ ∀ H', Same H H' → Q (.bl (nmT t)) H'
def spLRow (n : Nat) : Sp := fun vs H Q _ => ∃ (v : V) (t : Th) (m : Nat), vs = [v, .int m] ∧ ThAt H t v ∧ okT t ∧ m < n ∧ ∀ (H' : Hp) (b : Bool), Same H H' → (b = true ↔ ∃ r, t = thRow r ∧ okR NmOk r ∧ deepR r ≤ m) → Q (.bl b) H'
theorem wordB_eq (z : Str) : wordB z abc = (decide (1 ≤ z.length) && (decide (z.length ≤ 6) && z.cps.toList.all fun c => decide (c ∈ abc.cps.toList))) := rfl
/-- one thing is a part of a row of at most m more levels -/
def PartT (m : Nat) (x : Th) : Prop := ∃ p, x = thP p ∧ okP NmOk p ∧ deepP p ≤ m
theorem row_parts : ∀ (xs : List Th) (m : Nat), (∀ x ∈ xs, PartT m x) → ∃ r : List Part, xs = thR r ∧ okR NmOk r ∧ deepR r ≤ m
  | [], m, _ => ⟨[], rfl, trivial, Nat.zero_le _⟩
  | x :: xs, m, h => by
    obtain ⟨p, e, h1, h2⟩ := h x List.mem_cons_self
    obtain ⟨r, e2, h3, h4⟩ := row_parts xs m fun y hy => h y (List.mem_cons_of_mem _ hy)
    exact ⟨p :: r, by rw [e, e2]; rfl, ⟨h1, h3⟩, by show max (deepP p) (deepR r) ≤ m; omega⟩
theorem parts_row {xs : List Th} {m : Nat} {r : List Part} (e : xs = thR r) (h : okR NmOk r) (hd : deepR r ≤ m) : ∀ x ∈ xs, PartT m x := fun x hx => by
  rw [e, thR_map] at hx
  obtain ⟨p, hp, rfl⟩ := List.mem_map.mp hx
  exact ⟨p, rfl, h.mem p hp, Nat.le_trans (deepR.mem p hp) hd⟩
def sizV : List (Key × V) := [(Sum.inr "say", .int 2), (Sum.inr "again", .int 2), (Sum.inr "room", .int 3), (Sum.inr "in", .int 3), (Sum.inr "out", .int 3), (Sum.inr "open", .int 3), (Sum.inr "hear", .int 3), (Sum.inr "new", .int 3)]
theorem sizV_get (z : Str) : (valV sizV (Sum.inr z)).getD .non = szV z := by
  have step : ∀ (k : Str) (v : V) (r : List (Key × V)), valV ((Sum.inr k, v) :: r) (Sum.inr z) = if z = k then some v else valV r (Sum.inr z) := fun k v r => by
    by_cases c : z = k
    · rw [if_pos c, c]; exact valV_pos rfl
    · rw [if_neg c]; exact valV_neg (fun e => c (Sum.inr.inj e).symm)
  unfold sizV szV szOf
  rw [step, step, step, step, step, step, step, step, valV_nil]
  by_cases c1 : z = "say"
  · subst c1; rfl
  by_cases c2 : z = "again"
  · subst c2; rfl
  by_cases c3 : z = "room"
  · subst c3; rfl
  by_cases c4 : z = "in"
  · subst c4; rfl
  by_cases c5 : z = "out"
  · subst c5; rfl
  by_cases c6 : z = "open"
  · subst c6; rfl
  by_cases c7 : z = "hear"
  · subst c7; rfl
  by_cases c8 : z = "new"
  · subst c8; rfl
  simp only [if_neg c1, if_neg c2, if_neg c3, if_neg c4, if_neg c5, if_neg c6, if_neg c7, if_neg c8]
  rfl
end Wk

set_option Elab.async false
set_option linter.all false
set_option maxRecDepth 100000
set_option maxHeartbeats 4000000
/-! A list compared with the one without items; the signs of a text that are none of some. -/
namespace Wk
open PySem PySem.Spec PyProof.Rows L2 GxR
def rEqL0 (K : PySem.W.Frag) (neg : Bool) : R2 := fun x y H Q => ∃ (a b : Addr) (xs : List V), x = .ref a ∧ y = .ref b ∧ SqL K H a xs ∧ SqL K H b [] ∧ Q (.bl (if neg then !xs.isEmpty else xs.isEmpty)) H
theorem op_eqL0 {X : Cx} (hu : X.A.units + 64 < cLine) : OpR X (compareOp .Eq) (rEqL0 X.K false) := by
  intro pins s σ H x y v u Q I rx ry h
  obtain ⟨a, b, xs, rfl, rfl, ha, hb, q⟩ := h
  cases rx
  cases ry
  obtain ⟨its, r1, ⟨o, n, h1, h2, _, h3⟩, _⟩ := I.list ha
  obtain ⟨its2, r2, ⟨o2, n2, k1, k2, _, k3⟩, _⟩ := I.list hb
  cases r2
  have l1 := r1.length
  cases xs with
  | nil =>
    have e0 : its = [] := List.length_eq_zero_iff.mp l1.symm
    subst e0
    have t := SeqAt.RcAt.lists (A := X.A) (s := s) (e := fun _ => true) (items := #[]) (items2 := #[]) ⟨o, h1, h2, n, h3⟩ ⟨o2, k1, k2, n2, k3⟩ rfl (by omega) (fun j j1 j2 => absurd j2 (by simp))
    refine t X.prog X.w X.xe _ ?_
    exact ⟨.bl true, H, I, rfl, q⟩
  | cons x0 xs0 =>
    have t := SeqAt.RcAt.lists_lengths (A := X.A) (s := s) (items := its.toArray) (items2 := #[]) ⟨o, h1, h2, n, h3⟩ ⟨o2, k1, k2, n2, k3⟩ (by rw [List.size_toArray, ← l1]; rfl) (by omega)
    refine t X.prog X.w X.xe _ ?_
    exact ⟨.bl false, H, I, rfl, q⟩
theorem op_neL0 {X : Cx} (hu : X.A.units + 64 < cLine) : OpR X (compareOp .NotEq) (rEqL0 X.K true) := by
  intro pins s σ H x y v u Q I rx ry h
  obtain ⟨a, b, xs, rfl, rfl, ha, hb, q⟩ := h
  cases rx
  cases ry
  obtain ⟨its, r1, ⟨o, n, h1, h2, _, h3⟩, _⟩ := I.list ha
  obtain ⟨its2, r2, ⟨o2, n2, k1, k2, _, k3⟩, _⟩ := I.list hb
  cases r2
  have l1 := r1.length
  cases xs with
  | nil =>
    have e0 : its = [] := List.length_eq_zero_iff.mp l1.symm
    subst e0
    have t := SeqAt.RcNeAt.lists (A := X.A) (s := s) (e := fun _ => true) (items := #[]) (items2 := #[]) ⟨o, h1, h2, n, h3⟩ ⟨o2, k1, k2, n2, k3⟩ rfl (by omega) (fun j j1 j2 => absurd j2 (by simp))
    refine t X.prog X.w X.xe _ ?_
    exact ⟨.bl false, H, I, rfl, q⟩
  | cons x0 xs0 =>
    have t := SeqAt.RcNeAt.lists_lengths (A := X.A) (s := s) (items := its.toArray) (items2 := #[]) ⟨o, h1, h2, n, h3⟩ ⟨o2, k1, k2, n2, k3⟩ (by rw [List.size_toArray, ← l1]; rfl) (by omega)
    refine t X.prog X.w X.xe _ ?_
    exact ⟨.bl true, H, I, rfl, q⟩
/-- the signs that are none of sg -/
def bad (sg : Str) (l : List Nat) : List Nat := l.filter fun c => !decide (c ∈ sg.cps.toList)
def badV (sg : Str) (l : List Nat) : List V := (bad sg l).map fun c => .str ⟨#[c]⟩
theorem badV_take {sg : Str} {l : List Nat} {i c : Nat} (h : l[i]? = some c) : badV sg (l.take (i + 1)) = badV sg (l.take i) ++ (if c ∈ sg.cps.toList then [] else [.str ⟨#[c]⟩]) := by
  unfold badV bad
  rw [List.take_add_one, h, List.filter_append, List.map_append]
  congr 1
  by_cases hc : c ∈ sg.cps.toList
  · rw [if_pos hc]
    simp only [Option.toList, List.filter, decide_eq_true hc, Bool.not_true, List.map_nil]
  · rw [if_neg hc]
    simp only [Option.toList, List.filter, decide_eq_false hc, Bool.not_false, List.map_cons, List.map_nil]
theorem badV_none (sg : Str) : ∀ l : List Nat, (badV sg l).isEmpty = l.all fun c => decide (c ∈ sg.cps.toList)
  | [] => rfl
  | c :: r => by
    by_cases hc : c ∈ sg.cps.toList
    · have e : badV sg (c :: r) = badV sg r := by
        unfold badV
        rw [show bad sg (c :: r) = bad sg r from List.filter_cons_of_neg (by rw [decide_eq_true hc]; decide)]
      rw [e, badV_none sg r, List.all_cons, decide_eq_true hc, Bool.true_and]
    · have e : bad sg (c :: r) = c :: bad sg r := List.filter_cons_of_pos (by rw [decide_eq_false hc]; rfl)
      unfold badV
      rw [e, List.all_cons, decide_eq_false hc, Bool.false_and, List.map_cons]
      rfl
theorem badV_len {sg z : Str} (h : z.length ≤ 6) (i : Nat) : (badV sg (z.cps.toList.take i)).length < sizeLine := by
  have h1 : (badV sg (z.cps.toList.take i)).length ≤ 6 := by
    unfold badV bad
    rw [List.length_map]
    refine Nat.le_trans (List.length_filter_le _ _) ?_
    rw [List.length_take, Array.length_toList]
    exact Nat.le_trans (Nat.min_le_right _ _) h
  have : 1000 < sizeLine := by decide
  omega
end Wk

set_option Elab.async false
set_option linter.all false
set_option maxRecDepth 100000
set_option maxHeartbeats 4000000
/-! Mail: the law's own look. -/
namespace Wk
open PySem PySem.Spec PyProof.Rows L2 GxR
theorem three : ∀ {ws : List Th}, 3 ≤ ws.length → ∃ x0 x1 x2 wr, ws = x0 :: x1 :: x2 :: wr
  | [], h => by simp at h
  | [_], h => by simp at h
  | [_, _], h => by simp at h
  | x0 :: x1 :: x2 :: wr, _ => ⟨x0, x1, x2, wr, rfl⟩
def isSc : Th → Bool
  | .str _ => true
  | .non => true
  | .int _ => true
  | .bl _ => true
  | _ => false
/-- where two names stand in a part, its first thing is no row -/
def hdT : Nat → Th → Prop
  | 0, _ => True
  | n + 1, t => ∀ x ∈ itemsT t, ∀ y a b r, x = .tup (y :: a :: b :: r) → mnT a = true → mnT b = true → isSc y = true ∧ ∀ z, r = [z] → hdT n z
def hdX (n : Nat) (x : Th) : Prop := ∀ y a b r, x = .tup (y :: a :: b :: r) → mnT a = true → mnT b = true → isSc y = true ∧ ∀ z, r = [z] → hdT n z
theorem hdT_row {n : Nat} {xs : List Th} (h : ∀ x ∈ xs, hdX n x) : hdT (n + 1) (.tup xs) := h
mutual
theorem hdX_part : ∀ (p : MP) (n : Nat), hdX n (thM p)
  | .send n m, k => fun y a b r e _ _ => by
    have e' := Th.tup.inj e
    obtain ⟨e1, e2⟩ := List.cons.inj e'
    obtain ⟨_, e3⟩ := List.cons.inj e2
    obtain ⟨_, e4⟩ := List.cons.inj e3
    refine ⟨by rw [← e1]; rfl, fun z hz => ?_⟩
    rw [hz] at e4
    cases e4
  | .get n x q, k => fun y a b r e _ _ => by
    have e' := Th.tup.inj e
    obtain ⟨e1, e2⟩ := List.cons.inj e'
    obtain ⟨_, e3⟩ := List.cons.inj e2
    obtain ⟨_, e4⟩ := List.cons.inj e3
    refine ⟨by rw [← e1]; rfl, fun z hz => ?_⟩
    rw [hz] at e4
    obtain ⟨e5, _⟩ := List.cons.inj e4
    rw [← e5]
    exact hdT_mail q k
theorem hdT_mail : ∀ (r : List MP) (n : Nat), hdT n (thMR r)
  | _, 0 => trivial
  | r, n + 1 => fun x hx => hdXs r n x hx
theorem hdXs : ∀ (r : List MP) (n : Nat), ∀ x ∈ thMs r, hdX n x
  | [], n, x, h => nomatch h
  | p :: r, n, x, h => by
    rcases List.mem_cons.mp (show x ∈ thM p :: thMs r from h) with e | e
    · rw [e]; exact hdX_part p n
    · exact hdXs r n x e
end
def PartM (m : Nat) (x : Th) : Prop := ∃ p, x = thM p ∧ okM p ∧ deepM p ≤ m
theorem mrow_parts : ∀ (xs : List Th) (m : Nat), (∀ x ∈ xs, PartM m x) → ∃ r : List MP, xs = thMs r ∧ okMs r ∧ deepMs r ≤ m
  | [], m, _ => ⟨[], rfl, trivial, Nat.zero_le _⟩
  | x :: xs, m, h => by
    obtain ⟨p, e, h1, h2⟩ := h x List.mem_cons_self
    obtain ⟨r, e2, h3, h4⟩ := mrow_parts xs m fun y hy => h y (List.mem_cons_of_mem _ hy)
    exact ⟨p :: r, by rw [e, e2]; rfl, ⟨h1, h3⟩, by show max (deepM p) (deepMs r) ≤ m; omega⟩
theorem mparts_row {xs : List Th} {m : Nat} {r : List MP} (e : xs = thMs r) (h : okMs r) (hd : deepMs r ≤ m) : ∀ x ∈ xs, PartM m x := fun x hx => by
  rw [e, thMs_map] at hx
  obtain ⟨p, hp, rfl⟩ := List.mem_map.mp hx
  exact ⟨p, rfl, h.mem p hp, Nat.le_trans (deepMs.mem p hp) hd⟩
theorem PartM.mp {m : Nat} {x : Th} (h : PartM m x) : mpB x = true := by
  obtain ⟨p, rfl, h1, _⟩ := h
  exact mp_part h1
def spLMName : Sp := fun vs H Q _ => ∃ (v : V) (t : Th), vs = [v] ∧ ThAt H t v ∧ okT t ∧ ∀ H', Same H H' → Q (.bl (mnT t)) H'
def spLParts (n : Nat) : Sp := fun vs H Q _ => ∃ (v : V) (t : Th) (m : Nat), vs = [v, .int m] ∧ ThAt H t v ∧ okT t ∧ hdT m t ∧ m < n ∧ ∀ (H' : Hp) (b : Bool), Same H H' → (b = true ↔ ∃ r, t = thMR r ∧ okMs r ∧ deepMs r ≤ m) → Q (.bl b) H'
theorem sc_scal {H : Hp} {y : Th} {v : V} (h : ThAt H y v) (hs : isSc y = true) (z : Str) : scal v (.str z) = true := by
  cases y with
  | str _ => cases h; rfl
  | non => cases h; rfl
  | int _ => cases h; rfl
  | bl _ => cases h; rfl
  | _ => cases hs
theorem sc_str {H : Hp} {y : Th} {v : V} {z : Str} (h : ThAt H y v) (hs : isSc y = true) : v = .str z ↔ y = .str z := by
  cases y with
  | str _ => cases h; exact ⟨fun e => by rw [V.str.inj e], fun e => by rw [Th.str.inj e]⟩
  | non => cases h; exact ⟨fun e => (by cases e), fun e => (by cases e)⟩
  | int _ => cases h; exact ⟨fun e => (by cases e), fun e => (by cases e)⟩
  | bl _ => cases h; exact ⟨fun e => (by cases e), fun e => (by cases e)⟩
  | _ => cases hs
end Wk

set_option Elab.async false
set_option linter.all false
set_option maxRecDepth 100000
set_option maxHeartbeats 400000
/-! Mail: names as the law meets them. -/
namespace Wk
open PySem PySem.Spec PyProof.Rows L2 GxR
/-- kind, name, whether it is bound around -/
abbrev MEnt : Type := Str × Str × Bool
mutual
def meM (S : List Str) : MP → List MEnt
  | .send n m => [("name", n, decide (n ∈ S)), ("name", m, decide (m ∈ S))]
  | .get n x r => ("name", n, decide (n ∈ S)) :: ("bound", x, false) :: meMs (S ++ [x]) r
def meMs (S : List Str) : List MP → List MEnt
  | [] => []
  | p :: r => meM S p ++ meMs S r
end
theorem meMs_app (S : List Str) : ∀ r q : List MP, meMs S (r ++ q) = meMs S r ++ meMs S q
  | [], q => rfl
  | p :: r, q => by
    show meM S p ++ meMs S (r ++ q) = (meM S p ++ meMs S r) ++ meMs S q
    rw [meMs_app S r q, List.append_assoc]
mutual
theorem meM_len : ∀ (p : MP) (S : List Str), (meM S p).length = 2 * sizeM p
  | .send n m, S => rfl
  | .get n x r, S => by
    have := meMs_len r (S ++ [x])
    show (meMs (S ++ [x]) r).length + 1 + 1 = 2 * (sizeMs r + 1)
    omega
theorem meMs_len : ∀ (r : List MP) (S : List Str), (meMs S r).length = 2 * sizeMs r
  | [], S => rfl
  | p :: r, S => by
    have h1 := meM_len p S
    have h2 := meMs_len r S
    show (meM S p ++ meMs S r).length = 2 * (sizeM p + sizeMs r)
    rw [List.length_append]
    omega
end
def bndE (es : List MEnt) : List Str := (es.filter fun e => decide (e.1 = ("bound" : Str))).map (·.2.1)
def freE (es : List MEnt) : List Str := (es.filter fun e => decide (e.1 = ("name" : Str)) && !e.2.2).map (·.2.1)
theorem bndE_app (a b : List MEnt) : bndE (a ++ b) = bndE a ++ bndE b := by unfold bndE; rw [List.filter_append, List.map_append]
theorem freE_app (a b : List MEnt) : freE (a ++ b) = freE a ++ freE b := by unfold freE; rw [List.filter_append, List.map_append]
theorem nb_ne : ¬ ("name" : Str) = "bound" := by decide +kernel
theorem bn_ne : ¬ ("bound" : Str) = "name" := by decide +kernel
theorem freE_name (n : Str) (S : List Str) : freE [("name", n, decide (n ∈ S))] = fltM S [n] := by
  unfold freE fltM
  by_cases c : n ∈ S
  · simp [c]
  · simp [c]
theorem bndE_name (n : Str) (b : Bool) : bndE [("name", n, b)] = [] := by
  unfold bndE
  simp [nb_ne]
mutual
theorem me_frM : ∀ (p : MP) (S : List Str), freE (meM S p) = frM S p
  | .send n m, S => by
    show freE ([(("name" : Str), n, decide (n ∈ S))] ++ [(("name" : Str), m, decide (m ∈ S))]) = fltM S [n, m]
    rw [freE_app, freE_name, freE_name]
    unfold fltM
    rw [← List.filter_append]
    rfl
  | .get n x r, S => by
    show freE ([(("name" : Str), n, decide (n ∈ S))] ++ ([(("bound" : Str), x, false)] ++ meMs (S ++ [x]) r)) = fltM S [n] ++ frMs (S ++ [x]) r
    rw [freE_app, freE_app, freE_name, me_frMs r (S ++ [x]), show freE [("bound", x, false)] = [] from by unfold freE; simp [bn_ne]]
    rfl
theorem me_frMs : ∀ (r : List MP) (S : List Str), freE (meMs S r) = frMs S r
  | [], S => rfl
  | p :: r, S => by
    show freE (meM S p ++ meMs S r) = frM S p ++ frMs S r
    rw [freE_app, me_frM p S, me_frMs r S]
end
mutual
theorem me_bdM : ∀ (p : MP) (S : List Str), bndE (meM S p) = bdM p
  | .send n m, S => by
    show bndE ([(("name" : Str), n, decide (n ∈ S))] ++ [(("name" : Str), m, decide (m ∈ S))]) = []
    rw [bndE_app, bndE_name, bndE_name]
    rfl
  | .get n x r, S => by
    show bndE ([(("name" : Str), n, decide (n ∈ S))] ++ ([(("bound" : Str), x, false)] ++ meMs (S ++ [x]) r)) = x :: bdMs r
    rw [bndE_app, bndE_app, bndE_name, me_bdMs r (S ++ [x]), show bndE [("bound", x, false)] = [x] from by unfold bndE; simp]
    rfl
theorem me_bdMs : ∀ (r : List MP) (S : List Str), bndE (meMs S r) = bdMs r
  | [], S => rfl
  | p :: r, S => by
    show bndE (meM S p ++ meMs S r) = bdM p ++ bdMs r
    rw [bndE_app, me_bdM p S, me_bdMs r S]
end
/-! ### in memory -/
def MEntAt (H : Hp) (e : MEnt) (v : V) : Prop := ∃ t, v = .ref t ∧ H t = some (.tup [.str e.1, .str e.2.1, .bl e.2.2])
def MEntsAt (H : Hp) : List MEnt → List V → Prop
  | [], vs => vs = []
  | e :: es, vs => ∃ v ws, vs = v :: ws ∧ MEntAt H e v ∧ MEntsAt H es ws
theorem MEntsAt.mono {H H' : Hp} (s : STup H H') : ∀ {es : List MEnt} {vs : List V}, MEntsAt H es vs → MEntsAt H' es vs
  | [], _, h => h
  | e :: es, _, h => by
    obtain ⟨v, ws, rfl, ⟨t, rfl, ht⟩, h2⟩ := h
    exact ⟨_, ws, rfl, ⟨t, rfl, s _ _ ht⟩, MEntsAt.mono s h2⟩
theorem MEntsAt.len {H : Hp} : ∀ {es : List MEnt} {vs : List V}, MEntsAt H es vs → vs.length = es.length
  | [], _, h => by rw [h]; rfl
  | e :: es, _, h => by
    obtain ⟨v, ws, rfl, _, h2⟩ := h
    rw [List.length_cons, List.length_cons, MEntsAt.len h2]
theorem MEntsAt.get {H : Hp} : ∀ {es : List MEnt} {vs : List V}, MEntsAt H es vs → ∀ {i : Nat} {v : V}, vs[i]? = some v → ∃ e, es[i]? = some e ∧ MEntAt H e v
  | [], _, h, i, v, hv => by rw [show _ = [] from h] at hv; simp at hv
  | e :: es, _, h, 0, v, hv => by
    obtain ⟨u, ws, rfl, h1, _⟩ := h
    have z : u = v := by simpa using hv
    exact ⟨e, rfl, z ▸ h1⟩
  | e :: es, _, h, i + 1, v, hv => by
    obtain ⟨u, ws, rfl, _, h2⟩ := h
    obtain ⟨e', h3, h4⟩ := MEntsAt.get h2 (i := i) (v := v) (by simpa using hv)
    exact ⟨e', by simpa using h3, h4⟩
theorem MEntsAt.app {H : Hp} {es' : List MEnt} {us : List V} (g : MEntsAt H es' us) : ∀ {es : List MEnt} {vs : List V}, MEntsAt H es vs → MEntsAt H (es ++ es') (vs ++ us)
  | [], _, h => by
    rw [show _ = [] from h]
    exact g
  | e :: es, _, h => by
    obtain ⟨v, ws, rfl, h1, h2⟩ := h
    exact ⟨v, ws ++ us, rfl, h1, MEntsAt.app g h2⟩
theorem MEntsAt.one {H : Hp} {e : MEnt} {v : V} (h : MEntAt H e v) : MEntsAt H [e] [v] := ⟨v, [], rfl, h, rfl⟩
def spMMet (n : Nat) : Sp := fun vs H Q _ => ∃ (v : V) (r : List MP) (aS : Addr) (S : List Str), vs = [v, .ref aS] ∧ ThAt H (thMR r) v ∧ H aS = some (.lst (S.map V.str)) ∧ deepMs r < n ∧ 2 * sizeMs r ≤ 900 ∧ S.length + deepMs r ≤ 900 ∧
  ∀ (H' : Hp) (p : Addr) (us : List V), Same H H' → H p = none → H' p = some (.lst us) → MEntsAt H' (meMs S r) us → Q (.ref p) H'
end Wk

set_option Elab.async false
set_option linter.all false
namespace Wk
open PySem PySem.Spec PyProof.Rows L2 GxR
def spLMail : Sp := fun vs H Q _ => ∃ (v : V) (t : Th), vs = [v] ∧ ThAt H t v ∧ okT t ∧ hdT 4 t ∧ ∀ (H' : Hp) (b : Bool), Same H H' → (b = true ↔ ∃ r, t = thMR r ∧ MailR r) → Q (.bl b) H'
end Wk

set_option Elab.async false
set_option linter.all false
set_option maxRecDepth 100000
set_option maxHeartbeats 400000
namespace Wk
open PySem PySem.Spec PyProof.Rows L2 GxR
theorem abc_lt : ∀ c ∈ abc.cps.toList, c < 128 := by decide +kernel
theorem mn_sh {z : Str} (h : mnB z = true) : Sh 6 z := by
  have l := mn_len h
  have hw := (Bool.and_eq_true_iff.mp (Bool.and_eq_true_iff.mp h).1).2
  have ha := (Bool.and_eq_true_iff.mp (Bool.and_eq_true_iff.mp hw).2).2
  refine ⟨?_, fun c hc => abc_lt c (of_decide_eq_true (List.all_eq_true.mp ha c hc))⟩
  have : z.length = z.cps.toList.length := (Array.length_toList).symm
  omega
mutual
theorem fr_mnM : ∀ (p : MP) (S : List Str), okM p → ∀ x ∈ frM S p, mnB x = true
  | .send n m, S, h, x, hx => by
    have hx : x ∈ [n, m].filter fun n => decide (n ∉ S) := hx
    rcases List.mem_cons.mp (List.mem_filter.mp hx).1 with e | e
    · rw [e]; exact h.1
    · rw [List.mem_singleton.mp e]; exact h.2
  | .get n y r, S, h, x, hx => by
    have hx : x ∈ fltM S [n] ++ frMs (S ++ [y]) r := hx
    rcases List.mem_append.mp hx with e | e
    · rw [List.mem_singleton.mp (List.mem_filter.mp (show x ∈ [n].filter fun n => decide (n ∉ S) from e)).1]
      exact h.1
    · exact fr_mnMs r (S ++ [y]) h.2.2 x e
theorem fr_mnMs : ∀ (r : List MP) (S : List Str), okMs r → ∀ x ∈ frMs S r, mnB x = true
  | [], S, _, x, hx => nomatch hx
  | p :: r, S, h, x, hx => by
    have hx : x ∈ frM S p ++ frMs S r := hx
    rcases List.mem_append.mp hx with e | e
    · exact fr_mnM p S h.1 x e
    · exact fr_mnMs r S h.2 x e
end
def spMAsked (Ts : List Addr) : Sp := fun vs H Q _ => ∃ (v : V) (t : Th), vs = [v] ∧ ThAt H t v ∧ okT t ∧ hdT 4 t ∧ TabsG Ts H ∧ ∀ H', SamTs Ts H H' → Q (.bl true) H'
end Wk

set_option Elab.async false
set_option linter.all false
set_option maxRecDepth 100000
set_option maxHeartbeats 400000
/-! Mail bent: tuples cut; what stays. -/
namespace Wk
open PySem PySem.Spec PyProof.Rows L2 GxR
def rSlS : V → Option Int → Option Int → Hp → VK → Prop := fun x lo hi H Q => ∃ a xs, x = .ref a ∧ H a = some (.tup xs) ∧
  ¬ (HT.sIx xs.length 0 lo = 0 ∧ HT.sIx xs.length xs.length hi = xs.length) ∧ ∀ (H' : Hp) (c : Addr), Same H H' → H' c = some (.tup (cutV xs lo hi)) → Q (.ref c) H'
theorem sl_tupS {X : Cx} : SlR X rSlS := by
  intro pins s σ H x v vl vu lo hi sl Q I rx hs pl pu h
  obtain ⟨a, xs, ex, ha, hw, q⟩ := h
  exact sl_tup pins s σ H x v vl vu lo hi sl Q I rx hs pl pu ⟨a, xs, ex, SqT.of ha, hw, fun p np => q _ p (same_new np) upd_same⟩
/-! ### cut lists of things -/
theorem ThsAt.drop {H : Hp} : ∀ {ts : List Th} {vs : List V} (n : Nat), ThsAt H ts vs → ThsAt H (ts.drop n) (vs.drop n)
  | ts, vs, 0, h => h
  | [], vs, n + 1, h => by rw [show vs = [] from h]; rfl
  | t :: ts, vs, n + 1, h => by
    obtain ⟨v, us, rfl, _, h2⟩ := h
    exact ThsAt.drop n h2
theorem ThsAt.take {H : Hp} : ∀ {ts : List Th} {vs : List V} (n : Nat), ThsAt H ts vs → ThsAt H (ts.take n) (vs.take n)
  | ts, vs, 0, h => by rw [List.take_zero, List.take_zero]; rfl
  | [], vs, n + 1, h => by rw [show vs = [] from h]; rfl
  | t :: ts, vs, n + 1, h => by
    obtain ⟨v, us, rfl, h1, h2⟩ := h
    exact ⟨v, us.take n, rfl, h1, ThsAt.take n h2⟩
def cutG (ts : List Th) (lo hi : Option Int) : List Th := (ts.drop (HT.sIx ts.length 0 lo)).take (HT.sIx ts.length ts.length hi - HT.sIx ts.length 0 lo)
theorem ThsAt.cut {H : Hp} {ts : List Th} {vs : List V} (lo hi : Option Int) (h : ThsAt H ts vs) : ThsAt H (cutG ts lo hi) (cutV vs lo hi) := by
  unfold cutG cutV
  rw [ThsAt.len h]
  exact ThsAt.take _ (ThsAt.drop _ h)
theorem len_cut (ts : List Th) (lo hi : Option Int) : (cutG ts lo hi).length ≤ ts.length := by
  unfold cutG
  rw [List.length_take, List.length_drop]
  omega
theorem ok_cut {ts : List Th} (lo hi : Option Int) (h : okTs ts) : okTs (cutG ts lo hi) :=
  okTs.of fun t ht => okTs.mem h t (List.mem_of_mem_drop (List.mem_of_mem_take ht))
theorem okTs_app {l m : List Th} (h : okTs l) (g : okTs m) : okTs (l ++ m) :=
  okTs.of fun t ht => (List.mem_append.mp ht).elim (okTs.mem h t) (okTs.mem g t)
/-- all but the list at L stays; L holds one number -/
def KpM (L : Addr) (H H' : Hp) : Prop := (∀ b o, b ≠ L → H b = some o → H' b = some o) ∧ ∃ n : Int, H' L = some (.lst [.int n])
theorem KpM.digit {L : Addr} {H : Hp} {n' : Int} : KpM L H (upd H L (.lst [.int n'])) := ⟨fun b o nb e => (upd_ne nb).trans e, n', upd_same⟩
theorem KpM.sm {L : Addr} {H H1 H2 : Hp} (a : KpM L H H1) (s : Same H1 H2) : KpM L H H2 := ⟨fun b o nb e => s _ _ (a.1 b o nb e), a.2.imp fun n e => s _ _ e⟩
theorem KpM.trans {L : Addr} {H H1 H2 : Hp} (a : KpM L H H1) (b : KpM L H1 H2) : KpM L H H2 := ⟨fun c o nc e => b.1 c o nc (a.1 c o nc e), b.2⟩
theorem KpM.refl {L : Addr} {H : Hp} {n : Int} (h : H L = some (.lst [.int n])) : KpM L H H := ⟨fun _ _ _ e => e, n, h⟩
theorem KpM.tup {L : Addr} {H H' : Hp} {n : Int} (h : H L = some (.lst [.int n])) (k : KpM L H H') : STup H H' := fun a xs e => k.1 a _ (fun z => by rw [z, h] at e; cases e) e
def itemsM : MP → List Th
  | .send n m => [.str "send", .str n, .str m]
  | .get n x r => [.str "get", .str n, .str x, .tup (thMs r)]
theorem thM_items (p : MP) : thM p = .tup (itemsM p) := by cases p <;> rfl
/-- a mail with one thing in it bent -/
def spMBent (n : Nat) : Sp := fun vs H Q _ => ∃ (v : V) (r : List MP) (L Bd : Addr) (x : Int) (bs : List Str), vs = [v, .ref L, .ref Bd] ∧ ThAt H (thMR r) v ∧ okMs r ∧ sizeMs r ≤ 20 ∧ deepMs r < n ∧ H L = some (.lst [.int x]) ∧ H Bd = some (.lst (bs.map V.str)) ∧ Bd ≠ L ∧ (∀ z ∈ bs, mnB z = true) ∧ bs.length ≤ 100 ∧
  ∀ (H' : Hp) (u : V) (t : Th), KpM L H H' → ThAt H' t u → okT t → (∀ k, hdT k t) → Q u H'
def rEqT0 (K : PySem.W.Frag) : R2 := fun x y H Q => ∃ (a b : Addr) (xs : List V), x = .ref a ∧ y = .ref b ∧ SqT K H a xs ∧ SqT K H b [] ∧ Q (.bl xs.isEmpty) H
theorem op_eqT0 {X : Cx} (hu : X.A.units + 64 < cLine) : OpR X (compareOp .Eq) (rEqT0 X.K) := by
  intro pins s σ H x y v u Q I rx ry h
  obtain ⟨a, b, xs, rfl, rfl, ha, hb, q⟩ := h
  cases rx
  cases ry
  obtain ⟨its, r1, ⟨o, h1, h2, n, h3⟩, _⟩ := I.tuple ha
  obtain ⟨its2, r2, ⟨o2, k1, k2, n2, k3⟩, _⟩ := I.tuple hb
  cases r2
  have l1 := r1.length
  have t := SeqAt.RcAt.tuples (A := X.A) (s := s) (e := fun _ => true) (items := its.toArray) (items2 := #[]) ⟨o, h1, h2, n, h3⟩ ⟨o2, k1, k2, n2, k3⟩ (by omega) (fun j j1 j2 => absurd j2 (by simp))
  refine t X.prog X.w X.xe _ ?_
  have e : (((List.range (min its.toArray.size (#[] : Array Value).size)).all fun _ => true) && its.toArray.size == (#[] : Array Value).size) = xs.isEmpty := by
    have a1 : ((List.range (min its.toArray.size (#[] : Array Value).size)).all fun _ => true) = true := List.all_eq_true.mpr fun _ _ => rfl
    rw [a1, Bool.true_and, List.size_toArray, ← l1]
    cases xs <;> rfl
  exact ⟨.bl xs.isEmpty, H, I, by rw [← e]; rfl, q⟩
end Wk

set_option Elab.async false
set_option linter.all false
set_option maxRecDepth 100000
set_option maxHeartbeats 400000
/-! Mail bent: the row told. -/
namespace Wk
open PySem PySem.Spec PyProof.Rows L2 GxR
theorem cutTo {xs : List V} {j : Nat} (h : j ≤ xs.length) : cutV xs none (some (j : Int)) = xs.take j := by
  unfold cutV
  rw [HT.sIx_none, HT.sIx_nat, Nat.min_eq_left h, List.drop_zero, Nat.sub_zero]
theorem cutOff {xs : List V} {j : Nat} (h : j ≤ xs.length) : cutV xs (some (j : Int)) none = xs.drop j := by
  unfold cutV
  rw [HT.sIx_none, HT.sIx_nat, Nat.min_eq_left h]
  exact List.take_of_length_le (by rw [List.length_drop]; omega)
abbrev tBRet : TE := tOp rCatM (tOp rCatM (tSl rSlS (tVar 0) tNoPart (tPart (tVar 3))) (tTup (tCons (tVar 4) tNil))) (tSl rSlS (tVar 0) (tPart (tOp (rI0 fun i j => .int (i + j)) (tVar 3) (tC (.int 1)))) tNoPart)
/-- mail[:at] + (part,) + mail[at + 1:] -/
theorem bent_ret {σ : L2.St} {H H5 : Hp} {Q : VK} {L a : Addr} {xs : List V} {r : List MP} {j : Nat} {u : V} {xT : Th} {n5 : Int} (hn5 : H5 L = some (.lst [.int n5])) (ha : H5 a = some (.tup xs)) (hps : ThsAt H5 (thMs r) xs) (hj : j < xs.length) (hok : okMs r) (hsz : sizeMs r ≤ 20)
    (σ0 : σ[0]? = some (some (.ref a))) (σ3 : σ[3]? = some (some (.int (j : Nat)))) (σ4 : σ[4]? = some (some u)) (k5 : KpM L H H5) (hu : ThAt H5 xT u) (oku : okT xT) (hdu : ∀ k, hdX k xT)
    (q : ∀ (H' : Hp) (u : V) (t : Th), KpM L H H' → ThAt H' t u → okT t → (∀ k, hdT k t) → Q u H') : tBRet σ H5 Q := by
  have lx : xs.length = r.length := (ThsAt.len hps).trans (thMs_len r)
  have l20 := len_sizeMs r
  refine ⟨_, σ0, _, σ3, _, rfl, a, xs, rfl, ha, ?_, fun H6 c1 s6 hc1 => ?_⟩
  · rw [HT.sIx_nat]
    rintro ⟨_, e⟩
    omega
  rw [cutTo (by omega)] at hc1
  refine ⟨_, σ4, (show 1 ≤ sizeLine by decide), fun t1 nt1 => ?_⟩
  refine ⟨c1, t1, _, _, rfl, rfl, kn hc1 nt1, upd_same, by rw [List.length_take, List.length_singleton]; omega, fun H7 c2 s7 hc2 => ?_⟩
  have s57 : Same H5 H7 := s6.trans ((same_new nt1).trans s7)
  have ej : ((j : Nat) : Int) + 1 = ((j + 1 : Nat) : Int) := by omega
  refine ⟨_, σ0, _, σ3, _, _, rfl, rfl, _, rfl, a, xs, rfl, s57 _ _ ha, ?_, fun H8 c3 s8 hc3 => ?_⟩
  · rw [ej, HT.sIx_nat]
    rintro ⟨e, _⟩
    omega
  rw [ej, cutOff (by omega)] at hc3
  refine ⟨c2, c3, _, _, rfl, rfl, s8 _ _ hc2, hc3, by rw [List.length_append, List.length_take, List.length_singleton, List.length_drop]; omega, fun H9 c4 s9 hc4 => ?_⟩
  have s59 : Same H5 H9 := s57.trans (s8.trans s9)
  have okr : okTs (thMs r) := okT_Ms r hok (by omega)
  refine q H9 (.ref c4) (.tup (((thMs r).take j ++ [xT]) ++ (thMs r).drop (j + 1))) (k5.sm s59) ⟨c4, _, rfl, hc4, ?_⟩ ⟨?_, ?_⟩ fun k => ?_
  · exact ThsAt.mono (Kpt.same s59) _ _ (ThsAt.app (ThsAt.drop (j + 1) hps) (ThsAt.app (ThsAt.one hu) (ThsAt.take j hps)))
  · rw [List.length_append, List.length_append, List.length_take, List.length_singleton, List.length_drop, thMs_len]
    omega
  · exact okTs_app (okTs_app (okTs.of fun t ht => okr.mem t (List.mem_of_mem_take ht)) ⟨oku, trivial⟩) (okTs.of fun t ht => okr.mem t (List.mem_of_mem_drop ht))
  · cases k with
    | zero => trivial
    | succ k =>
      refine hdT_row fun x hx => ?_
      rcases List.mem_append.mp hx with h | h
      · rcases List.mem_append.mp h with h | h
        · exact hdXs r k x (List.mem_of_mem_take h)
        · rw [List.mem_singleton.mp h]; exact hdu k
      · exact hdXs r k x (List.mem_of_mem_drop h)
end Wk

set_option Elab.async false
set_option linter.all false
set_option maxRecDepth 100000
set_option maxHeartbeats 400000
/-! Mail bent: what a bent part is. -/
namespace Wk
open PySem PySem.Spec PyProof.Rows L2 GxR
theorem hdX_mk {y : Th} {rest : List Th} (hy : isSc y = true) (h : ∀ a b z, rest = [a, b, z] → ∀ k, hdT k z) : ∀ k, hdX k (.tup (y :: rest)) := fun k y' a b r e _ _ => by
  obtain ⟨e1, e2⟩ := List.cons.inj (Th.tup.inj e)
  refine ⟨by rw [← e1]; exact hy, fun z hz => ?_⟩
  rw [hz] at e2
  exact h a b z e2 k
theorem hdX_lst (xs : List Th) : ∀ k, hdX k (.lst xs) := fun k y a b r e => by cases e
theorem hdT_none {t : Th} (h : itemsT t = []) : ∀ k, hdT k t
  | 0 => trivial
  | k + 1 => fun x hx => by rw [h] at hx; cases hx
theorem hdT_short : ∀ k, hdT k (.tup [.tup [.str "send", .str "a"]])
  | 0 => trivial
  | k + 1 => fun x hx y a b r e => by
    rw [List.mem_singleton.mp hx] at e
    have := congrArg List.length (Th.tup.inj e)
    have e2 : 2 = r.length + 3 := this
    omega
theorem mnT_part (p : MP) : mnT (thM p) = false := by cases p <;> rfl
/-- a part in the place of a row -/
theorem hdT_part : ∀ (p : MP) (k : Nat), hdT k (thM p)
  | _, 0 => trivial
  | .send n m, k + 1 => fun x hx y a b r e => by
    rcases List.mem_cons.mp (show x ∈ [Th.str "send", .str n, .str m] from hx) with h | h
    · rw [h] at e; cases e
    rcases List.mem_cons.mp h with h | h
    · rw [h] at e; cases e
    rw [List.mem_singleton.mp h] at e; cases e
  | .get n z q, k + 1 => fun x hx y a b r e ha _ => by
    rcases List.mem_cons.mp (show x ∈ [Th.str "get", .str n, .str z, .tup (thMs q)] from hx) with h | h
    · rw [h] at e; cases e
    rcases List.mem_cons.mp h with h | h
    · rw [h] at e; cases e
    rcases List.mem_cons.mp h with h | h
    · rw [h] at e; cases e
    rw [List.mem_singleton.mp h] at e
    have e2 := Th.tup.inj e
    rw [thMs_map] at e2
    cases q with
    | nil => cases e2
    | cons p0 q =>
      cases q with
      | nil => cases (List.cons.inj e2).2
      | cons p1 q =>
        have e3 : thM p1 = a := (List.cons.inj (List.cons.inj e2).2).1
        rw [← e3, mnT_part] at ha
        cases ha
theorem itemsM_ok {p : MP} (h : okM p) (hs : sizeM p ≤ 1000) : okTs (itemsM p) := by
  have o := okT_M p h hs
  rw [thM_items] at o
  exact o.2
theorem itemsM_len (p : MP) : 3 ≤ (itemsM p).length ∧ (itemsM p).length ≤ 4 := by
  cases p with
  | send n m => exact ⟨(show 3 ≤ 3 by decide), (show 3 ≤ 4 by decide)⟩
  | get n x r => exact ⟨(show 3 ≤ 4 by decide), (show 4 ≤ 4 by decide)⟩
end Wk

set_option Elab.async false
set_option linter.all false
set_option maxRecDepth 100000
set_option maxHeartbeats 400000
/-! Mail bent: one thing of a part put in another's place. -/
namespace Wk
open PySem PySem.Spec PyProof.Rows L2 GxR
abbrev tBPut (K : PySem.W.Frag) : TE := tOp rCatM (tOp rCatM (tSl rSlS (tVar 4) tNoPart (tPart (tVar 6))) (tTup (tCons (tVar 7) tNil))) (tSl (rSlA K) (tVar 4) (tPart (tOp (rI0 fun i j => .int (i + j)) (tVar 6) (tC (.int 1)))) tNoPart)
def putM (p : MP) (pc : Nat) (o : Th) : Th := .tup (((itemsM p).take pc ++ [o]) ++ (itemsM p).drop (pc + 1))
theorem bent_put {K : PySem.W.Frag} {σ : L2.St} {H5 : Hp} {Q : VK} {b : Addr} {ps : List V} {p : MP} {pc : Nat} {o : V} {oT : Th} (hb : H5 b = some (.tup ps)) (hpi : ThsAt H5 (itemsM p) ps) (h1 : 1 ≤ pc) (h2 : pc ≤ 2)
    (σ4 : σ[4]? = some (some (.ref b))) (σ6 : σ[6]? = some (some (.int (pc : Nat)))) (σ7 : σ[7]? = some (some o)) (ho : ThAt H5 oT o)
    (q : ∀ (H' : Hp) (c : Addr), Same H5 H' → ThAt H' (putM p pc oT) (.ref c) → Q (.ref c) H') : tBPut K σ H5 Q := by
  obtain ⟨l3, l4⟩ := itemsM_len p
  have lp := ThsAt.len hpi
  refine ⟨_, σ4, _, σ6, _, rfl, b, ps, rfl, hb, ?_, fun H6 c1 s6 hc1 => ?_⟩
  · rw [HT.sIx_nat]
    rintro ⟨_, e⟩
    omega
  rw [cutTo (by omega)] at hc1
  refine ⟨_, σ7, (show 1 ≤ sizeLine by decide), fun t1 nt1 => ?_⟩
  refine ⟨c1, t1, _, _, rfl, rfl, kn hc1 nt1, upd_same, by rw [List.length_take, List.length_singleton]; omega, fun H7 c2 s7 hc2 => ?_⟩
  have s57 : Same H5 H7 := s6.trans ((same_new nt1).trans s7)
  have ej : ((pc : Nat) : Int) + 1 = ((pc + 1 : Nat) : Int) := by omega
  have s0 : HT.sIx ps.length 0 (some (((pc : Nat) : Int) + 1)) = pc + 1 := by
    rw [ej, HT.sIx_nat]
    omega
  refine ⟨_, σ4, _, σ6, _, _, rfl, rfl, _, rfl, b, ps, rfl, SqT.of (s57 _ _ hb), fun ⟨e, _⟩ => ?_, fun _ c3 nc3 => ?_⟩
  · exact absurd (s0.symm.trans e) (by omega)
  have s78 : Same H7 (upd H7 c3 (.tup (cutV ps (some (((pc : Nat) : Int) + 1)) none))) := same_new nc3
  have hc3 : upd H7 c3 (.tup (cutV ps (some (((pc : Nat) : Int) + 1)) none)) c3 = some (.tup (ps.drop (pc + 1))) := by
    rw [upd_same, ej, cutOff (by omega)]
  generalize upd H7 c3 (.tup (cutV ps (some (((pc : Nat) : Int) + 1)) none)) = H8 at *
  refine ⟨c2, c3, _, _, rfl, rfl, s78 _ _ hc2, hc3, by rw [List.length_append, List.length_take, List.length_singleton, List.length_drop]; omega, fun H9 c4 s9 hc4 => ?_⟩
  have s59 : Same H5 H9 := s57.trans (s78.trans s9)
  exact q H9 c4 s59 ⟨c4, _, rfl, hc4, ThsAt.mono (Kpt.same s59) _ _ (ThsAt.app (ThsAt.drop (pc + 1) hpi) (ThsAt.app (ThsAt.one ho) (ThsAt.take pc hpi)))⟩
theorem putM_ok {p : MP} {pc : Nat} {o : Th} (hp : okTs (itemsM p)) (ho : okT o) : okT (putM p pc o) := by
  obtain ⟨l3, l4⟩ := itemsM_len p
  refine ⟨?_, okTs_app (okTs_app (okTs.of fun t ht => hp.mem t (List.mem_of_mem_take ht)) ⟨ho, trivial⟩) (okTs.of fun t ht => hp.mem t (List.mem_of_mem_drop ht))⟩
  rw [List.length_append, List.length_append, List.length_take, List.length_singleton, List.length_drop]
  omega
theorem putM_hd {p : MP} {pc : Nat} {o : Th} (h1 : 1 ≤ pc) (h2 : pc ≤ 2) : ∀ k, hdX k (putM p pc o) := by
  obtain rfl | rfl : pc = 1 ∨ pc = 2 := by omega
  · cases p with
    | send n m => exact hdX_mk (y := .str "send") (rest := [o, .str m]) rfl (fun a b z e => by cases e)
    | get n x r => exact hdX_mk (y := .str "get") (rest := [o, .str x, .tup (thMs r)]) rfl (fun a b z e k => by
        cases e
        exact hdT_mail r k)
  · cases p with
    | send n m => exact hdX_mk (y := .str "send") (rest := [.str n, o]) rfl (fun a b z e => by cases e)
    | get n x r => exact hdX_mk (y := .str "get") (rest := [.str n, o, .tup (thMs r)]) rfl (fun a b z e k => by
        cases e
        exact hdT_mail r k)
def oths : List V := [.str "abcde", .str "za", .str "in", .str "new", .str "", .non, .str "A", .int 3, .str "out", .str "open"]
theorem oths_th : ∀ v ∈ oths, ∃ oT, (∀ H, ThAt H oT v) ∧ okT oT := by
  intro v hv
  simp only [oths, List.mem_cons, List.not_mem_nil, or_false] at hv
  rcases hv with rfl | rfl | rfl | rfl | rfl | rfl | rfl | rfl | rfl | rfl
  · exact ⟨.str "abcde", fun _ => rfl, (show ("abcde" : Str).length ≤ 1000 by decide +kernel)⟩
  · exact ⟨.str "za", fun _ => rfl, (show ("za" : Str).length ≤ 1000 by decide +kernel)⟩
  · exact ⟨.str "in", fun _ => rfl, (show ("in" : Str).length ≤ 1000 by decide +kernel)⟩
  · exact ⟨.str "new", fun _ => rfl, (show ("new" : Str).length ≤ 1000 by decide +kernel)⟩
  · exact ⟨.str "", fun _ => rfl, (show ("" : Str).length ≤ 1000 by decide +kernel)⟩
  · exact ⟨.non, fun _ => rfl, trivial⟩
  · exact ⟨.str "A", fun _ => rfl, (show ("A" : Str).length ≤ 1000 by decide +kernel)⟩
  · exact ⟨.int 3, fun _ => rfl, trivial⟩
  · exact ⟨.str "out", fun _ => rfl, (show ("out" : Str).length ≤ 1000 by decide +kernel)⟩
  · exact ⟨.str "open", fun _ => rfl, (show ("open" : Str).length ≤ 1000 by decide +kernel)⟩
def wds : List V := [.str "sent", .str "get", .str "send", .non, .str "say"]
theorem wds_th : ∀ v ∈ wds, ∃ oT, (∀ H, ThAt H oT v) ∧ okT oT ∧ isSc oT = true := by
  intro v hv
  simp only [wds, List.mem_cons, List.not_mem_nil, or_false] at hv
  rcases hv with rfl | rfl | rfl | rfl | rfl
  · exact ⟨.str "sent", fun _ => rfl, (show ("sent" : Str).length ≤ 1000 by decide +kernel), rfl⟩
  · exact ⟨.str "get", fun _ => rfl, (show ("get" : Str).length ≤ 1000 by decide +kernel), rfl⟩
  · exact ⟨.str "send", fun _ => rfl, (show ("send" : Str).length ≤ 1000 by decide +kernel), rfl⟩
  · exact ⟨.non, fun _ => rfl, trivial, rfl⟩
  · exact ⟨.str "say", fun _ => rfl, (show ("say" : Str).length ≤ 1000 by decide +kernel), rfl⟩
theorem partI {H : Hp} {p : MP} {b : Addr} (h : ThAt H (thM p) (.ref b)) : ∃ ps, H b = some (.tup ps) ∧ ThsAt H (itemsM p) ps := by
  rw [thM_items] at h
  obtain ⟨b', ps, e, hb, hs⟩ := h
  cases e
  exact ⟨ps, hb, hs⟩
end Wk

set_option Elab.async false
set_option linter.all false
set_option maxRecDepth 100000
set_option maxHeartbeats 400000
/-! Mail bent: the other ways. -/
namespace Wk
open PySem PySem.Spec PyProof.Rows L2 GxR
theorem cutNeg {xs : List V} {j : Nat} (h : xs.length = j + 1) : cutV xs none (some (-1)) = xs.take j := by
  unfold cutV
  have e : HT.sIx xs.length xs.length (some (-1)) = j := by
    show (if (-1 : Int) < 0 then ((-1 : Int) + (xs.length : Int)).toNat else min (-1 : Int).toNat xs.length) = j
    rw [if_pos (by decide), h]
    omega
  rw [HT.sIx_none, e, List.drop_zero, Nat.sub_zero]
abbrev tBMore : TE := tOp rCatM (tVar 4) (tTup (tCons (tTup tNil) tNil))
theorem bent_more {σ : L2.St} {H5 : Hp} {Q : VK} {b : Addr} {ps : List V} {p : MP} (hb : H5 b = some (.tup ps)) (hpi : ThsAt H5 (itemsM p) ps) (σ4 : σ[4]? = some (some (.ref b))) (ok : okTs (itemsM p))
    (q : ∀ (H' : Hp) (c : Addr) (xT : Th), Same H5 H' → ThAt H' xT (.ref c) → okT xT → (∀ k, hdX k xT) → Q (.ref c) H') : tBMore σ H5 Q := by
  obtain ⟨l3, l4⟩ := itemsM_len p
  have lp := ThsAt.len hpi
  refine ⟨_, σ4, (show 0 ≤ sizeLine by decide), fun t1 nt1 => ⟨(show 1 ≤ sizeLine by decide), fun t2 nt2 => ?_⟩⟩
  have s5 := (same_new (o := HO.tup []) nt1).trans (same_new (o := HO.tup [.ref t1]) nt2)
  refine ⟨b, t2, _, _, rfl, rfl, s5 _ _ hb, upd_same, by rw [List.length_singleton]; omega, fun H7 c s7 hc => ?_⟩
  have s57 := s5.trans s7
  refine q H7 c (.tup (itemsM p ++ [.tup []])) s57 ⟨c, _, rfl, hc, ThsAt.app (ThsAt.one (show ThAt H7 (.tup []) (.ref t1) from ⟨t1, [], rfl, s7 _ _ (kn upd_same nt2), rfl⟩)) (ThsAt.mono (Kpt.same s57) _ _ hpi)⟩
    ⟨by rw [List.length_append, List.length_singleton]; omega, okTs_app ok (show okTs [.tup []] from ⟨⟨(show 0 ≤ 1000 by decide), trivial⟩, trivial⟩)⟩ ?_
  cases p with
  | send n m => exact hdX_mk (y := .str "send") (rest := [.str n, .str m, .tup []]) rfl (fun a b z e k => by
      cases e
      exact hdT_none rfl k)
  | get n x r => exact hdX_mk (y := .str "get") (rest := [.str n, .str x, .tup (thMs r), .tup []]) rfl (fun a b z e => by cases e)
abbrev tBLess : TE := tSl rSlS (tVar 4) tNoPart (tPart (tUn (rU fun i => .int (-i)) (tC (.int 1))))
theorem bent_less {σ : L2.St} {H5 : Hp} {Q : VK} {b : Addr} {ps : List V} {p : MP} (hb : H5 b = some (.tup ps)) (hpi : ThsAt H5 (itemsM p) ps) (σ4 : σ[4]? = some (some (.ref b))) (ok : okTs (itemsM p))
    (q : ∀ (H' : Hp) (c : Addr) (xT : Th), Same H5 H' → ThAt H' xT (.ref c) → okT xT → (∀ k, hdX k xT) → Q (.ref c) H') : tBLess σ H5 Q := by
  cases p with
  | send n m =>
    have hpi' := hpi
    obtain ⟨u0, us0, rfl, h0, u1, us1, rfl, h1, u2, us2, rfl, h2, rfl⟩ := hpi
    refine ⟨_, σ4, 1, rfl, -1, rfl, b, _, rfl, hb, (fun ⟨_, e⟩ => absurd e (show ¬ HT.sIx 3 3 (some (-1)) = 3 by decide)), fun H6 c s6 hc => ?_⟩
    rw [cutNeg (j := 2) rfl] at hc
    exact q H6 c (.tup [.str "send", .str n]) s6 ⟨c, _, rfl, hc, ThsAt.mono (Kpt.same s6) _ _ (ThsAt.take 2 hpi')⟩ ⟨(show 2 ≤ 1000 by decide), ok.1, ok.2.1, trivial⟩ (hdX_mk rfl (fun a b z e => by cases e))
  | get n x r =>
    have hpi' := hpi
    obtain ⟨u0, us0, rfl, h0, u1, us1, rfl, h1, u2, us2, rfl, h2, u3, us3, rfl, h3, rfl⟩ := hpi
    refine ⟨_, σ4, 1, rfl, -1, rfl, b, _, rfl, hb, (fun ⟨_, e⟩ => absurd e (show ¬ HT.sIx 4 4 (some (-1)) = 4 by decide)), fun H6 c s6 hc => ?_⟩
    rw [cutNeg (j := 3) rfl] at hc
    exact q H6 c (.tup [.str "get", .str n, .str x]) s6 ⟨c, _, rfl, hc, ThsAt.mono (Kpt.same s6) _ _ (ThsAt.take 3 hpi')⟩ ⟨(show 3 ≤ 1000 by decide), ok.1, ok.2.1, ok.2.2.1, trivial⟩ (hdX_mk rfl (fun a b z e => by cases e))
abbrev tList (K : PySem.W.Frag) : List V → Hp → VK → Prop := fun xs H Q => ∃ p ys, xs = [.ref p] ∧ (SqL K H p ys ∨ SqT K H p ys) ∧ ∀ l, H l = none → Q (.ref l) (upd H l (.lst ys))
abbrev tBFirst (K : PySem.W.Frag) (E : XK) : TE := tOp rCatM (tTup (tCons (tOp (rIxL K) (tLst (tCons (tC (.str "sent")) (tCons (tC (.str "get")) (tCons (tC (.str "send")) (tCons (tC .non) (tCons (tC (.str "say")) tNil)))))) (tCall spDigit [] E (tCons (tVar 1) (tCons (tC (.int 5)) tNil)))) tNil)) (tSl rSlS (tVar 4) (tPart (tC (.int 1))) tNoPart)
theorem itemsM_hd (p : MP) : ∃ y rest, itemsM p = y :: rest ∧ 2 ≤ rest.length ∧ ∀ a b z, rest = [a, b, z] → ∀ k, hdT k z := by
  cases p with
  | send n m => exact ⟨_, [.str n, .str m], rfl, (show 2 ≤ 2 by decide), fun a b z e => by cases e⟩
  | get n x r => exact ⟨_, [.str n, .str x, .tup (thMs r)], rfl, (show 2 ≤ 3 by decide), fun a b z e k => by
      cases e
      exact hdT_mail r k⟩
theorem bent_first {K : PySem.W.Frag} {E : XK} {σ : L2.St} {H5 : Hp} {Q : VK} {b L : Addr} {n4 : Int} {ps : List V} {p : MP} (hL : H5 L = some (.lst [.int n4])) (hb : H5 b = some (.tup ps)) (hpi : ThAt H5 (thM p) (.ref b)) (σ1 : σ[1]? = some (some (.ref L))) (σ4 : σ[4]? = some (some (.ref b))) (ok : okTs (itemsM p))
    (q : ∀ (H' : Hp) (c : Addr) (xT : Th), KpM L H5 H' → ThAt H' xT (.ref c) → okT xT → (∀ k, hdX k xT) → Q (.ref c) H') : tBFirst K E σ H5 Q := by
  obtain ⟨y, rest, ei, lr, hz⟩ := itemsM_hd p
  obtain ⟨_, l4⟩ := itemsM_len p
  refine ⟨(show 5 ≤ sizeLine by decide), fun l1 nl1 => ?_⟩
  have k5 : KpM L H5 (upd H5 l1 (.lst wds)) := (KpM.refl hL).sm (same_new nl1)
  have hl5 : upd H5 l1 (.lst wds) l1 = some (.lst wds) := upd_same
  have hn5 : upd H5 l1 (.lst wds) L = _ := kn hL nl1
  have l1L : l1 ≠ L := Ne.symm (ne_of_none hL nl1)
  refine ⟨_, σ1, L, n4, 5, rfl, hn5, by decide, by decide, fun d n5 d0 d1 => ?_⟩
  obtain ⟨o, ho, hat, _⟩ := atX_lt (l := wds) d0 d1
  obtain ⟨oT, hoT, oko, hsc⟩ := wds_th o ho
  have k6 := k5.trans (KpM.digit (L := L) (n' := n5))
  have st := KpM.tup hL k6
  refine ⟨l1, wds, d, o, rfl, rfl, SqL.of ((upd_ne l1L).trans hl5), hat, ?_⟩
  refine ⟨(show 1 ≤ sizeLine by decide), fun t1 nt1 => ?_⟩
  obtain ⟨ps', hb6, hpi6⟩ := partI (thM_tup st p _ hpi)
  have lp := ThsAt.len hpi6
  rw [ei] at hpi6 lp
  obtain ⟨u0, us, rfl, h0, hr⟩ := hpi6
  have lu := ThsAt.len hr
  have k7 := k6.sm (same_new (o := HO.tup [o]) nt1)
  refine ⟨_, σ4, 1, rfl, b, _, rfl, kn hb6 nt1, ?_, fun H8 c3 s8 hc3 => ?_⟩
  · rw [show (1 : Int) = ((1 : Nat) : Int) from rfl, HT.sIx_nat, List.length_cons]
    rintro ⟨e, _⟩
    omega
  rw [show (1 : Int) = ((1 : Nat) : Int) from rfl, cutOff (by rw [List.length_cons]; omega)] at hc3
  have l1' : rest.length ≤ 3 := by rw [ei, List.length_cons] at l4; omega
  refine ⟨t1, c3, _, _, rfl, rfl, s8 _ _ upd_same, hc3, by rw [List.length_singleton, List.length_drop, List.length_cons]; omega, fun H9 c4 s9 hc4 => ?_⟩
  have k9 := (k7.sm s8).sm s9
  rw [ei] at ok
  refine q H9 c4 (.tup (oT :: rest)) k9 ⟨c4, _, rfl, hc4, o, us, rfl, hoT _, ?_⟩ ⟨by rw [List.length_cons]; omega, oko, ok.2⟩ (hdX_mk hsc hz)
  exact ThsAt.mono (Kpt.same ((same_new nt1).trans (s8.trans s9))) _ _ hr
abbrev tBLast (K : PySem.W.Frag) (E : XK) : TE := tOp rCatM (tSl rSlS (tVar 4) tNoPart (tPart (tC (.int 3)))) (tTup (tCons (tOp (rIxL K) (tLst (tCons (tC .non) (tCons (tCB (tList K) (tCons (tOp (rIxT K) (tVar 4) (tC (.int 3))) tNil)) (tCons (tTup (tCons (tTup (tCons (tC (.str "send")) (tCons (tC (.str "a")) tNil))) tNil)) (tCons (tVar 4) tNil))))) (tCall spDigit [] E (tCons (tVar 1) (tCons (tC (.int 4)) tNil)))) tNil))
theorem bent_last {K : PySem.W.Frag} {E : XK} {σ : L2.St} {H5 : Hp} {Q : VK} {b L : Addr} {n4 : Int} {n x : Str} {r : List MP} (hL : H5 L = some (.lst [.int n4])) (hpi : ThAt H5 (thM (.get n x r)) (.ref b)) (σ1 : σ[1]? = some (some (.ref L))) (σ4 : σ[4]? = some (some (.ref b))) (ok : okM (.get n x r)) (hs : sizeM (.get n x r) ≤ 1000)
    (q : ∀ (H' : Hp) (c : Addr) (xT : Th), KpM L H5 H' → ThAt H' xT (.ref c) → okT xT → (∀ k, hdX k xT) → Q (.ref c) H') : tBLast K E σ H5 Q := by
  have okI := itemsM_ok ok hs
  have hp0 := hpi
  obtain ⟨b', zs, e', hb, u, us, rfl, hu, u1, us1, rfl, hu1, u2, us2, rfl, hu2, u3, us3, rfl, hu3, h4⟩ := hpi
  cases e'
  have e0 : u = .str "get" := hu
  have e1 : u1 = .str n := hu1
  have e2 : u2 = .str x := hu2
  have e4 : us3 = [] := h4
  subst e0 e1 e2 e4
  obtain ⟨b3, vs3, rfl, hb3, h3⟩ := hu3
  refine ⟨_, σ4, 3, rfl, b, _, rfl, hb, (fun ⟨_, e⟩ => absurd e (show ¬ HT.sIx 4 4 (some 3) = 4 by decide)), fun H6 c1 s6 hc1 => ?_⟩
  refine ⟨_, σ4, b, _, 3, _, rfl, rfl, SqT.of (s6 _ _ hb), atI_nat (j := 3) rfl, b3, vs3, rfl, .inr (SqT.of (s6 _ _ hb3)), fun l nl => ?_⟩
  refine ⟨(show 2 ≤ sizeLine by decide), fun t1 nt1 => ⟨(show 1 ≤ sizeLine by decide), fun t2 nt2 => ?_⟩⟩
  refine ⟨_, σ4, (show 4 ≤ sizeLine by decide), fun l2 nl2 => ?_⟩
  have sA := (same_new (o := HO.lst vs3) nl).trans ((same_new (o := HO.tup [.str "send", .str "a"]) nt1).trans (same_new (o := HO.tup [.ref t1]) nt2))
  have hl0 : upd (upd (upd H6 l (.lst vs3)) t1 (.tup [.str "send", .str "a"])) t2 (.tup [.ref t1]) l = some (.lst vs3) := kn (kn upd_same nt1) nt2
  have ht1 : upd (upd (upd H6 l (.lst vs3)) t1 (.tup [.str "send", .str "a"])) t2 (.tup [.ref t1]) t1 = some (.tup [.str "send", .str "a"]) := kn upd_same nt2
  have ht2 : upd (upd (upd H6 l (.lst vs3)) t1 (.tup [.str "send", .str "a"])) t2 (.tup [.ref t1]) t2 = some (.tup [.ref t1]) := upd_same
  have lL : l ≠ L := Ne.symm (ne_of_none (s6 _ _ hL) nl)
  generalize upd (upd (upd H6 l (.lst vs3)) t1 (.tup [.str "send", .str "a"])) t2 (.tup [.ref t1]) = H7 at *
  have s57 : Same H5 H7 := s6.trans sA
  have l2L : l2 ≠ L := Ne.symm (ne_of_none (s57 _ _ hL) nl2)
  have s8 : Same H7 (upd H7 l2 (.lst [.non, .ref l, .ref t2, .ref b])) := same_new nl2
  have hl2 : upd H7 l2 (.lst [.non, .ref l, .ref t2, .ref b]) l2 = some (.lst [.non, .ref l, .ref t2, .ref b]) := upd_same
  generalize upd H7 l2 (.lst [.non, .ref l, .ref t2, .ref b]) = H8 at *
  have s58 := s57.trans s8
  refine ⟨_, σ1, L, n4, 4, rfl, s58 _ _ hL, by decide, by decide, fun d n5 d0 d1 => ?_⟩
  have k59 := ((KpM.refl hL).sm s58).trans (KpM.digit (L := L) (n' := n5))
  have st := KpM.tup hL k59
  have hL8 := s58 _ _ hL
  have k89 := KpM.digit (L := L) (H := H8) (n' := n5)
  have st89 := KpM.tup hL8 k89
  have hpi9 := thM_tup st _ _ hp0
  have hl9 := k89.1 _ _ lL (s8 _ _ hl0)
  have hl29 := k89.1 _ _ l2L hl2
  have ht19 := st89 _ _ (s8 _ _ ht1)
  have ht29 := st89 _ _ (s8 _ _ ht2)
  have hc19 := st89 _ _ (s8 _ _ (sA _ _ hc1))
  have h39 := thMs_tup st r vs3 h3
  generalize upd H8 L (.lst [.int n5]) = H9 at *
  obtain ⟨o, ho, hat, _⟩ := atX_lt (l := [V.non, .ref l, .ref t2, .ref b]) d0 d1
  have okr : okT (.tup (thMs r)) := okI.2.2.2.1
  have hoT : ∃ oT, ThAt H9 oT o ∧ okT oT ∧ ∀ k, hdT k oT := by
    simp only [List.mem_cons, List.not_mem_nil, or_false] at ho
    rcases ho with rfl | rfl | rfl | rfl
    · exact ⟨.non, rfl, trivial, hdT_none rfl⟩
    · refine ⟨.lst (thMs r), ⟨l, vs3, rfl, hl9, h39⟩, okr, ?_⟩
      intro k
      cases k with
      | zero => trivial
      | succ k => first | exact fun x hx => hdXs r k x hx | exact hdT_none rfl (k + 1)
    · exact ⟨.tup [.tup [.str "send", .str "a"]], ⟨t2, _, rfl, ht29, _, _, rfl, ⟨t1, _, rfl, ht19, _, _, rfl, rfl, _, _, rfl, rfl, rfl⟩, rfl⟩, ⟨(show 1 ≤ 1000 by decide), ⟨(show 2 ≤ 1000 by decide), (show ("send" : Str).length ≤ 1000 by decide +kernel), (show ("a" : Str).length ≤ 1000 by decide +kernel), trivial⟩, trivial⟩, hdT_short⟩
    · exact ⟨_, hpi9, okT_M _ ok hs, hdT_part _⟩
  obtain ⟨oT, hoT, oko, hdo⟩ := hoT
  refine ⟨l2, _, d, o, rfl, rfl, SqL.of hl29, hat, (show 1 ≤ sizeLine by decide), fun t3 nt3 => ?_⟩
  refine ⟨c1, t3, _, _, rfl, rfl, kn hc19 nt3, upd_same, (show 3 + 1 ≤ 1000 by decide), fun Ha c sa hc => ?_⟩
  have s9a := (same_new nt3).trans sa
  exact q Ha c (.tup [.str "get", .str n, .str x, oT]) (k59.sm s9a) ⟨c, _, rfl, hc, _, _, rfl, rfl, _, _, rfl, rfl, _, _, rfl, rfl, _, _, rfl, ThAt.mono (Kpt.same s9a) _ _ hoT, rfl⟩
    ⟨(show 4 ≤ 1000 by decide), okI.1, okI.2.1, okI.2.2.1, oko, trivial⟩ (hdX_mk rfl (fun a b z e k => by cases e; exact hdo k))
abbrev tEq5 (n : Int) : TT := tTest (tOp rEq (tVar 5) (tC (.int n)))
abbrev tBRest (K : PySem.W.Frag) (E : XK) : TS :=
  tIfS (tEq5 2) (tAsg tBMore (gName 4)) (tIfS (tEq5 3) (tAsg tBLess (gName 4)) (tIfS (tEq5 4) (tAsg (tCB (tList K) (tCons (tVar 4) tNil)) (gName 4)) (tIfS (tEq5 5) (tAsg (tBFirst K E) (gName 4))
    (tIfS (tTest (tOp rEq (tOp (rIxT K) (tVar 4) (tC (.int 0))) (tC (.str "get")))) (tAsg (tBLast K E) (gName 4)) tNext))))
/-- the ways from the third on -/
theorem bent_rest {K : PySem.W.Frag} {E : XK} {D : Ends} {σ : L2.St} {H5 : Hp} {b L : Addr} {n4 way : Int} {p : MP} (hL : H5 L = some (.lst [.int n4])) (hp : ThAt H5 (thM p) (.ref b)) (ok : okM p) (hs : sizeM p ≤ 1000)
    (σ1 : σ[1]? = some (some (.ref L))) (σ4 : σ[4]? = some (some (.ref b))) (σ5 : σ[5]? = some (some (.int way)))
    (q0 : D.nx σ H5) (q : ∀ (H' : Hp) (c : Addr) (xT : Th), KpM L H5 H' → ThAt H' xT (.ref c) → okT xT → (∀ k, hdX k xT) → D.nx (σ.set 4 (some (.ref c))) H') : tBRest K E D σ H5 := by
  have okI := itemsM_ok ok hs
  obtain ⟨ps, hb, hpi⟩ := partI hp
  refine ⟨_, σ5, rfl, _, rfl, ite2 (fun g => ?_) (fun g => ?_)⟩
  · exact bent_more hb hpi σ4 okI (fun H' c xT s' => q H' c xT ((KpM.refl hL).sm s'))
  refine ⟨_, σ5, rfl, _, rfl, ite2 (fun g => ?_) (fun g => ?_)⟩
  · exact bent_less hb hpi σ4 okI (fun H' c xT s' => q H' c xT ((KpM.refl hL).sm s'))
  refine ⟨_, σ5, rfl, _, rfl, ite2 (fun g => ?_) (fun g => ?_)⟩
  · obtain ⟨l3, l4⟩ := itemsM_len p
    exact ⟨_, σ4, b, ps, rfl, .inr (SqT.of hb), fun l nl => q _ l (.lst (itemsM p)) ((KpM.refl hL).sm (same_new nl)) ⟨l, ps, rfl, upd_same, ThsAt.mono (Kpt.same (same_new nl)) _ _ hpi⟩ ⟨by omega, okI⟩ (hdX_lst _)⟩
  refine ⟨_, σ5, rfl, _, rfl, ite2 (fun g => ?_) (fun g => ?_)⟩
  · exact bent_first hL hb hp σ1 σ4 okI q
  cases p with
  | send n m =>
    obtain ⟨u0, us0, rfl, h0, u1, us1, rfl, h1, u2, us2, rfl, h2, rfl⟩ := hpi
    have e : u0 = .str "send" := h0
    subst e
    exact ⟨_, σ4, b, _, 0, _, rfl, rfl, SqT.of hb, atI_nat (j := 0) rfl, rfl, _, rfl, iteD (by decide +kernel) q0⟩
  | get n x r =>
    obtain ⟨u0, us0, rfl, h0, u1, us1, rfl, h1, u2, us2, rfl, h2, u3, us3, rfl, h3, rfl⟩ := hpi
    have e : u0 = .str "get" := h0
    subst e
    exact ⟨_, σ4, b, _, 0, _, rfl, rfl, SqT.of hb, atI_nat (j := 0) rfl, rfl, _, rfl, iteU (by decide +kernel) (bent_last hL hp σ1 σ4 ok hs q)⟩
end Wk

set_option Elab.async false
set_option linter.all false
set_option maxRecDepth 100000
set_option maxHeartbeats 400000
/-! Mail: the things that the law asks at last. -/
namespace Wk
open PySem PySem.Spec PyProof.Rows L2 GxR
mutual
theorem bd_mnM : ∀ p : MP, okM p → ∀ x ∈ bdM p, mnB x = true
  | .send n m, _, x, h => nomatch (show x ∈ ([] : List Str) from h)
  | .get n y r, ok, x, h => by
    rcases List.mem_cons.mp (show x ∈ y :: bdMs r from h) with e | e
    · rw [e]; exact ok.2.1
    · exact bd_mnMs r ok.2.2 x e
theorem bd_mnMs : ∀ r : List MP, okMs r → ∀ x ∈ bdMs r, mnB x = true
  | [], _, x, h => nomatch (show x ∈ ([] : List Str) from h)
  | p :: r, ok, x, h => by
    rcases List.mem_append.mp (show x ∈ bdM p ++ bdMs r from h) with e | e
    · exact bd_mnM p ok.1 x e
    · exact bd_mnMs r ok.2 x e
end
/-- a value that may be asked -/
def MdV (H : Hp) (v : V) : Prop := ∃ t, ThAt H t v ∧ okT t ∧ hdT 4 t
theorem MdV.mono {H H' : Hp} {v : V} (s : Kpt H H') (h : MdV H v) : MdV H' v := h.imp fun t x => ⟨ThAt.mono s t v x.1, x.2⟩
theorem MdV.up {H H' : Hp} {v : V} (s : Same H H') (h : MdV H v) : MdV H' v := h.mono (Kpt.same s)
def MdA (H : Hp) (xs : List V) : Prop := ∀ v ∈ xs, MdV H v
theorem MdA.up {H H' : Hp} {xs : List V} (s : Same H H') (h : MdA H xs) : MdA H' xs := fun v hv => (h v hv).up s
theorem MdA.app {H : Hp} {xs ys : List V} (a : MdA H xs) (b : MdA H ys) : MdA H (xs ++ ys) := fun v hv => (List.mem_append.mp hv).elim (a v) (b v)
theorem MdA.nil {H : Hp} : MdA H [] := fun _ h => nomatch h
theorem MdA.cons {H : Hp} {v : V} {xs : List V} (a : MdV H v) (b : MdA H xs) : MdA H (v :: xs) := fun y hy => by
  rcases List.mem_cons.mp hy with e | e
  · rw [e]; exact a
  · exact b y e
/-- a row of mail -/
def MdR (H : Hp) (k : Nat) (v : V) : Prop := ∃ r, ThAt H (thMR r) v ∧ okMs r ∧ sizeMs r ≤ k
theorem MdR.tup {H H' : Hp} {k : Nat} {v : V} (s : STup H H') (h : MdR H k v) : MdR H' k v := h.imp fun r x => ⟨thMR_tup s x.1, x.2⟩
theorem MdR.up {H H' : Hp} {k : Nat} {v : V} (s : Same H H') (h : MdR H k v) : MdR H' k v := h.tup (STup.of s)
theorem MdR.md {H : Hp} {k : Nat} {v : V} (h : MdR H k v) (hk : k ≤ 1000) : MdV H v := by
  obtain ⟨r, h1, h2, h3⟩ := h
  exact ⟨thMR r, h1, okT_mail h2 (by omega), hdT_mail r 4⟩
/-- parts of mail -/
def MdP (H : Hp) (k : Nat) (vs : List V) : Prop := ∃ r, ThsAt H (thMs r) vs ∧ okMs r ∧ sizeMs r ≤ k
theorem MdP.tup {H H' : Hp} {k : Nat} {vs : List V} (s : STup H H') (h : MdP H k vs) : MdP H' k vs := h.imp fun r x => ⟨thMs_tup s r vs x.1, x.2⟩
theorem MdP.up {H H' : Hp} {k : Nat} {vs : List V} (s : Same H H') (h : MdP H k vs) : MdP H' k vs := h.tup (STup.of s)
theorem MdP.nil {H : Hp} : MdP H 0 [] := ⟨[], rfl, trivial, Nat.le_refl 0⟩
theorem MdP.app {H : Hp} {k m : Nat} {vs us : List V} (a : MdP H k vs) (b : MdP H m us) : MdP H (k + m) (vs ++ us) := by
  obtain ⟨r, h1, h2, h3⟩ := a
  obtain ⟨q, g1, g2, g3⟩ := b
  refine ⟨r ++ q, ?_, okMs.of fun p hp => (List.mem_append.mp hp).elim (okMs.mem h2 p) (okMs.mem g2 p), by rw [sizeMs_app]; omega⟩
  rw [thMs_map, List.map_append, ← thMs_map, ← thMs_map]
  exact ThsAt.app g1 h1
theorem MdP.one {H : Hp} {k : Nat} {p : MP} {v : V} (h : ThAt H (thM p) v) (ok : okM p) (hs : sizeM p ≤ k) : MdP H k [v] := ⟨[p], ⟨v, [], rfl, h, rfl⟩, ⟨ok, trivial⟩, (show sizeM p + 0 ≤ k by omega)⟩
theorem MdP.take {H : Hp} {k : Nat} {vs : List V} (n : Nat) (h : MdP H k vs) : MdP H k (vs.take n) := by
  obtain ⟨r, h1, h2, h3⟩ := h
  have e := sizeMs_take r n
  refine ⟨r.take n, ?_, okMs.of fun p hp => okMs.mem h2 p (List.mem_of_mem_take hp), by omega⟩
  rw [thMs_map, List.map_take, ← thMs_map]
  exact ThsAt.take n h1
theorem MdP.rep {H : Hp} {k : Nat} {v : V} (h : MdP H k [v]) : ∀ n, MdP H (n * k) (List.replicate n [v]).flatten
  | 0 => by rw [Nat.zero_mul]; exact MdP.nil
  | n + 1 => by
    have e : (List.replicate (n + 1) [v]).flatten = [v] ++ (List.replicate n [v]).flatten := rfl
    rw [e, Nat.succ_mul, Nat.add_comm (n * k) k]
    exact MdP.app h (MdP.rep h n)
theorem MdP.row {H : Hp} {k : Nat} {vs : List V} {c : Addr} (h : H c = some (.tup vs)) (g : MdP H k vs) : MdR H k (.ref c) := g.imp fun r x => ⟨⟨c, vs, rfl, h, x.1⟩, x.2⟩
theorem mdS {H : Hp} (z : Str) (h : z.length ≤ 1000) : MdV H (.str z) := ⟨.str z, rfl, h, hdT_none rfl 4⟩
theorem mdN {H : Hp} : MdV H .non := ⟨.non, rfl, trivial, hdT_none rfl 4⟩
theorem mdI {H : Hp} (i : Int) : MdV H (.int i) := ⟨.int i, rfl, trivial, hdT_none rfl 4⟩
theorem mdB {H : Hp} (b : Bool) : MdV H (.bl b) := ⟨.bl b, rfl, trivial, hdT_none rfl 4⟩
theorem mdD {H : Hp} {c : Addr} (h : H c = some (.dK [])) : MdV H (.ref c) := ⟨.dct, ⟨c, rfl, h⟩, trivial, hdT_none rfl 4⟩
theorem mdL0 {H : Hp} {c : Addr} (h : H c = some (.lst [])) : MdV H (.ref c) := ⟨.lst [], ⟨c, [], rfl, h, rfl⟩, ⟨(show 0 ≤ 1000 by decide), trivial⟩, hdT_none rfl 4⟩
theorem mdT0 {H : Hp} {c : Addr} (h : H c = some (.tup [])) : MdV H (.ref c) := ⟨.tup [], ⟨c, [], rfl, h, rfl⟩, ⟨(show 0 ≤ 1000 by decide), trivial⟩, hdT_none rfl 4⟩
theorem mdTT {H : Hp} {b c : Addr} (hb : H b = some (.tup [])) (h : H c = some (.tup [.ref b])) : MdV H (.ref c) := by
  refine ⟨.tup [.tup []], ⟨c, _, rfl, h, _, _, rfl, ⟨b, [], rfl, hb, rfl⟩, rfl⟩, ⟨(show 1 ≤ 1000 by decide), ⟨(show 0 ≤ 1000 by decide), trivial⟩, trivial⟩, fun x hx y a b r e => ?_⟩
  rw [List.mem_singleton.mp hx] at e
  cases e
theorem okA : mnB "a" = true := by decide +kernel
theorem okSend : okM (.send "a" "a") := ⟨okA, okA⟩
theorem mdSend {H : Hp} {c : Addr} (h : H c = some (.tup [.str "send", .str "a", .str "a"])) : ThAt H (thM (.send "a" "a")) (.ref c) := ⟨c, _, rfl, h, _, _, rfl, rfl, _, _, rfl, rfl, _, _, rfl, rfl, rfl⟩
theorem mdP1 {H : Hp} {c : Addr} (h : H c = some (.tup [.str "send", .str "a", .str "a"])) : MdV H (.ref c) := ⟨_, mdSend h, okT_M _ okSend (by decide), hdT_part _ 4⟩
theorem mdGet {H : Hp} {c : Addr} {z : Str} {v : V} {r : List MP} (h : H c = some (.tup [.str "get", .str "a", .str z, v])) (hv : ThAt H (thMR r) v) : ThAt H (thM (.get "a" z r)) (.ref c) := ⟨c, _, rfl, h, _, _, rfl, rfl, _, _, rfl, rfl, _, _, rfl, rfl, _, _, rfl, hv, rfl⟩
theorem let_mn : ∀ c ∈ ("bcdefghijkl" : Str).cps.toList, mnB ⟨#[c]⟩ = true := by decide +kernel
theorem let_mn5 : ∀ c ∈ ("bcdef" : Str).cps.toList, mnB ⟨#[c]⟩ = true := by decide +kernel
/-- while a mail is asked for -/
structure MidM (Ts : List Addr) (p L Bd : Addr) (items : List V) (bs : List Str) (r : List MP) (hv : V) (H : Hp) : Prop where
  hp : H p = some (.lst items)
  hL : ∃ n : Int, H L = some (.lst [.int n])
  tg : TabsG Ts H
  row : ThAt H (thMR r) hv
  hB : H Bd = some (.lst (bs.map V.str))
  pL : p ≠ L
  BL : Bd ≠ L
section
variable {Ts : List Addr} {p L Bd : Addr} {items : List V} {bs : List Str} {r : List MP} {hv : V} {H H' : Hp}
theorem MidM.sam (x : MidM Ts p L Bd items bs r hv H) (s : SamTs Ts H H') : MidM Ts p L Bd items bs r hv H' := by
  obtain ⟨n, hn⟩ := x.hL
  exact ⟨s.lst x.tg x.hp, ⟨n, s.lst x.tg hn⟩, s.2, ThAt.mono (Kpt.of x.tg s) _ _ x.row, s.lst x.tg x.hB, x.pL, x.BL⟩
theorem MidM.kpm (x : MidM Ts p L Bd items bs r hv H) (k : KpM L H H') : MidM Ts p L Bd items bs r hv H' := by
  obtain ⟨n, hn⟩ := x.hL
  refine ⟨k.1 _ _ x.pL x.hp, k.2, fun T h => ?_, thMR_tup (KpM.tup hn k) x.row, k.1 _ _ x.BL x.hB, x.pL, x.BL⟩
  obtain ⟨ps, h1, h2⟩ := x.tg T h
  exact ⟨ps, k.1 _ _ (fun z => x.tg.outL hn (z ▸ h)) h1, h2⟩
end
end Wk

set_option Elab.async false
set_option linter.all false
set_option maxRecDepth 100000
set_option maxHeartbeats 2000000
namespace K54
open PySem PySem.Spec PyProof.Rows L2 Wk GxR
def topS (i : Nat) : Stmt := PySem.Challenge.pw_walkrooms_k54_what_is_mail.main.body.getD i (.Pass ⟨0, 0, 0, 0⟩)
end K54

set_option Elab.async false
set_option linter.all false
set_option maxRecDepth 100000
set_option maxHeartbeats 2000000
namespace K54
open PySem PySem.Spec PyProof.Rows L2 Wk GxR
abbrev sIsName : Stmt := topS 4
abbrev sCons : Stmt := topS 5
theorem scIN : FnScope ["thing"] ["thing"] (defScope sIsName) := ⟨rfl, rfl, rfl, by decide +kernel, rfl, by decide +kernel, by decide +kernel⟩
theorem scCO : FnScope ["text", "signs"] ["text", "signs"] (defScope sCons) := ⟨rfl, rfl, rfl, by decide +kernel, rfl, by decide +kernel, by decide +kernel⟩
section
variable {P : Program} {w : World} {K : PySem.W.Frag} {mg : Str → Option Value} {base : Heap} {T : Addr} {Ts : List Addr}
theorem ok_cons {f c : Addr} {oc : Value} {od an : Option Addr} {osl : Array (Option Value)} {kV doc pm ct : Value} {k : Nat} {t6 : Tok}
    (l : K.lookup f = some ⟨oc, od, .func (PySem.W.fnOf "consists_of" "consists_of" (defArgs sCons) (defBody sCons) (defScope sCons) .none kV doc pm an (.ref c) ct), osl⟩)
    (hc : PySem.W.codeIn K (.ref c) "consists_of" = true) (TB : GxR.TabB base mg c T) (mT : T ∈ Ts) (ml : mg "len" = none) (ma : mg "all" = none) (mM : mg "MOST_SIGNS" = some (.int 6 t6)) :
    FnOk P w K mg base CX0 (k + 1) f (PySem.W.fnOf "consists_of" "consists_of" (defArgs sCons) (defBody sCons) (defScope sCons) .none kV doc pm an (.ref c) ct) ["text", "signs"] (spWord Ts) := by
  refine fn_of l hc scCO (fun vs H Q E h => ?_) fun A outer s H vs Q E hr h => ?_
  · obtain ⟨z, s, rfl, _⟩ := h
    rfl
  obtain ⟨z, sg, rfl, hz, tg, q⟩ := h
  have free1 : ∀ y ∈ ([(Str.ofString ".0", NameKind.local), (Str.ofString "sign", NameKind.local), (Str.ofString "signs", NameKind.free)] : List (Str × NameKind)), y.2 = NameKind.free →
      ∃ cc, (cxOf CX0 P w K mg base ["text", "signs"] "consists_of" (defScope sCons) f (.ref c) A outer s H E).env.cells.lookup y.1 = some cc := fun y hy e => by
    simp only [List.mem_cons, List.not_mem_nil, or_false] at hy
    rcases hy with rfl | rfl | rfl
    · cases e
    · cases e
    · exact ⟨_, rfl⟩
  refine ⟨_, pss_one (ps_ret (pe_and (pe_chain op_le op_le pe_int (pe_callB call_len_str (by rfl) ml PySem.boot_len (pa_cons (pv 0) pa_nil)) (pe_glob (v := .int 6) (by rfl) mM ⟨_, rfl⟩))
    (pe_one (pe_allC (i := 1) (y := "signs") hr (by rfl) ma (by decide +kernel) TB rfl ⟨rfl, rfl, by decide +kernel, rfl, rfl, free1⟩ rfl rfl (fun _ => rfl) (pv 0) (elt_in rfl rfl rfl) (fun _ => rfl))))), ?_⟩
  refine ⟨.str z, rfl, z, rfl, small hz, 1, z.length, rfl, rfl, _, rfl, ?_⟩
  refine ite2 (fun h1 => ?_) (fun h1 => ?_)
  · have h1' : 1 ≤ z.length := by
      have := of_decide_eq_true h1
      omega
    refine ⟨_, _, rfl, rfl, _, rfl, ite2 (fun h2 => ?_) (fun h2 => ?_)⟩
    · have h2' : z.length ≤ 6 := by
        have := of_decide_eq_true h2
        omega
      refine ⟨.str z, rfl, z, sg, rfl, rfl, tg T mT, fun H2 hT => ?_⟩
      have e : wordB z sg = z.cps.toList.all fun c => decide (c ∈ sg.cps.toList) := by
        unfold wordB
        rw [decide_eq_true h1', decide_eq_true h2', Bool.true_and, Bool.true_and]
      rw [← e]
      exact q H2 (SamTs.tab mT tg hT)
    · have h2' : ¬ z.length ≤ 6 := fun g => h2 (decide_eq_true (by omega))
      have e : wordB z sg = false := by
        unfold wordB
        rw [decide_eq_false h2', Bool.false_and, Bool.and_false]
      have q1 := q H (SamTs.refl tg)
      rw [e] at q1
      exact q1
  · have h1' : ¬ 1 ≤ z.length := fun g => h1 (decide_eq_true (by omega))
    have e : wordB z sg = false := by
      unfold wordB
      rw [decide_eq_false h1', Bool.false_and]
    have q1 := q H (SamTs.refl tg)
    rw [e] at q1
    exact ⟨_, rfl, iteF q1⟩
theorem ok_name {f fC aT : Addr} {fd fdC : FuncData} {tL : Tok} (F : Fun K "is_name" "is_name" sIsName f fd) (GC : FnOk P w K mg base CX0 1 fC fdC ["text", "signs"] (spWord Ts)) (bC : Binds K fdC ["text", "signs"] []) (kC : PySem.W.keepIn K (.ref fC) = true)
    (mC : mg "consists_of" = some (.ref fC)) (mi : mg "isinstance" = none) (ms : mg "str" = none) (mT : mg "TAKEN_WORDS" = some (.ref aT)) (hT : ∀ H, SqT K H aT takenV) (mL : mg "LETTERS" = some (.str abc tL)) :
    FnOk P w K mg base CX0 2 f fd ["thing"] (spName Ts nmV) := by
  refine F.ok scIN (fun vs H Q E h => ?_) (fun cdv A outer s H vs Q E hr h => ?_)
  · obtain ⟨v, rfl, _⟩ := h
    rfl
  obtain ⟨v, rfl, th, tg, q⟩ := h
  refine ⟨_, pss_cons (ps_if (PW.pt (pw_or (pt_not (pt_val (pe_callB call_isi (by rfl) mi (by decide +kernel) (pa_cons (pv 0) (pa_cons (pe_bltn (v := .ty "str") (by rfl) ms (by decide +kernel) rfl) pa_nil)))))
      (pw_or1 (pt_cmpR op_in_seq (pv 0) (pe_glob (v := .ref aT) (by rfl) mT rfl) rfl)))) (pss_one (ps_ret pe_bl)) pss_nil)
    (pss_one (ps_ret (pe_call GC hr (by rfl) mC kC bC .nil pass0 (pa_cons (pv 0) (pa_cons (pe_glob (v := .str abc) (by rfl) mL ⟨_, rfl⟩) pa_nil))))), ?_⟩
  obtain ⟨t, hty, hk⟩ := th.ty (K := K)
  refine ⟨v, rfl, v, .ty "str", .type t, .type "str", strish v, rfl, .ty "str", hty, hk, _, rfl, ?_⟩
  rcases th.cases with ⟨z, rfl, hz⟩ | ⟨e1, e2⟩
  · refine iteF ?_
    refine ⟨.str z, rfl, aT, takenV, rfl, .inr (hT H), rfl, rfl, _, rfl, ite2 (fun h => ?_) (fun h => ?_)⟩
    · have e : nmV (.str z) = false := by
        show nameB z = false
        unfold nameB
        rw [show inV (.str z) takenV = true from h, Bool.not_true, Bool.false_and]
      have q1 := q H (SamTs.refl tg)
      rw [e] at q1
      exact q1
    · have h' : inV (.str z) takenV = false := Bool.eq_false_iff.mpr h
      have e : nmV (.str z) = wordB z abc := by
        show nameB z = _
        unfold nameB
        rw [h', Bool.not_false, Bool.true_and]
      refine ⟨.str z, rfl, z, abc, rfl, hz, tg, fun H' x => ?_⟩
      have q1 := q H' x
      rw [e] at q1
      exact q1
  · rw [e1]
    refine iteT ?_
    have q1 := q H (SamTs.refl tg)
    rw [e2] at q1
    exact q1
end
end K54

set_option Elab.async false
set_option linter.all false
set_option maxRecDepth 100000
set_option maxHeartbeats 8000000
namespace K54
open PySem PySem.Spec PyProof.Rows L2 Wk GxR
abbrev sWithin : Stmt := topS 9
abbrev nmSm : List Str := ["thing", "most_parts", "most_deep", "is_part", "rest", "rows", "told", "deeper", "parts", "row", "part"]
abbrev psW : List Str := ["thing", "most_parts", "most_deep", "is_part", "rest"]
theorem scWithin : FnScope nmSm psW (defScope sWithin) := ⟨rfl, rfl, rfl, by decide +kernel, rfl, by decide +kernel, by decide +kernel⟩
section
variable {P : Program} {w : World} {K : PySem.W.Frag} {mg : Str → Option Value} {base : Heap} {T : Addr} {Ts : List Addr}
theorem ok_withinQ {kk : Nat} {f c fN fR : Addr} {fd fdN fdR : FuncData} {psN psR : List Str} {np : Th → Bool} {rst : Th → Th} {mp md : Nat} (hmp : mp ≤ 400) (hmd : md ≤ 100) (hro : ∀ t, okT t → np t = true → okT (rst t)) (F : FunC K "parts_within" "parts_within" sWithin f c fd) (TB : TabB base mg c T) (mT : T ∈ Ts)
    (GN : FnOk P w K mg base CX0 kk fN fdN psN (spNPQ Ts np)) (bN : Binds K fdN psN []) (kN : PySem.W.keepIn K (.ref fN) = true)
    (GR : FnOk P w K mg base CX0 1 fR fdR psR (spRestQ np rst)) (bR : Binds K fdR psR []) (kR : PySem.W.keepIn K (.ref fR) = true)
    (mi : mg "isinstance" = none) (mt : mg "tuple" = none) (ml : mg "len" = none) (ma : mg "all" = none) (ms : mg "sum" = none) (mr : mg "range" = none) :
    FnOk P w K mg base CX0 (kk + 2) f fd psW (spWithinQ Ts np rst mp md fN fR) := by
  refine F.okN scWithin (fun vs H Q E h => ?_) (fun A outer s H vs Q E hr h => ?_)
  · obtain ⟨_, _, rfl, _⟩ := h
    rfl
  obtain ⟨v, t, rfl, ht, ok, tg, qn, qy⟩ := h
  have r1 : Room 1 _ := hr.mono (by omega)
  have hr2 : ∀ e, Room kk ((A.deeper (envOfC "parts_within" (defScope sWithin) s.heap.objs.size f (.ref c))).in1.in1.deeper e) := fun e => Wk.Room.gen hr e
  refine ⟨_, pss_cons (ps_set (i := 5) scWithin.nd rfl (.inl rfl) (pe_lst (pa_cons (pv 0) pa_nil))) (pss_cons (ps_set (i := 6) scWithin.nd rfl (.inl rfl) (pe_lst pa_nil))
    (pss_cons (ps_for PassesOwn.never rfl (pi_range1 rfl mr (pa_cons (pe_op op_add (pv 2) pe_int) pa_nil)) (pg_name (i := 7) scWithin.nd rfl (.inl rfl))
      (pss_cons (ps_if (pt_not (pt_val (pe_allX (own := [("row", 9)]) (g := gName 9) hr rfl scWithin.nd (by rfl) ma (by decide +kernel) TB rfl rfl (by decide +kernel) rfl
          (blkOk_by (own := [("row", 9)]) (N := nmSm) (sc := defScope sWithin) (by decide +kernel)) (pi_list (pv 5)) (fun _ => rfl) (fun _ _ _ _ _ _ _ => pg_name (i := 9) scWithin.nd rfl (Or.inl rfl))
          (te := tCB (rIsi K) (tCons (tVar 9) (tCons (tC (.ty "tuple")) tNil)))
          (fun _ _ _ _ _ _ _ => pe_callB call_isi (by rfl) mi (by decide +kernel) (pa_cons (pv 9) (pa_cons (pe_bltn (v := .ty "tuple") (by rfl) mt (by decide +kernel) rfl) pa_nil)))))) (pss_one (ps_ret pe_non)) pss_nil)
      (pss_cons (ps_if (pt_cmpR op_gt (pe_op op_add (pe_callB call_len_seq (by rfl) ml PySem.boot_len (pa_cons (pv 6) pa_nil)) (pe_sumX (own := [("row", 9)]) (g := gName 9) hr rfl scWithin.nd (by rfl) ms (by decide +kernel) TB rfl rfl (by decide +kernel) rfl
          (blkOk_by (own := [("row", 9)]) (N := nmSm) (sc := defScope sWithin) (by decide +kernel)) (pi_list (pv 5)) (fun _ => rfl) (fun _ _ _ _ _ _ _ => pg_name (i := 9) scWithin.nd rfl (Or.inl rfl))
          (te := tCB (fun xs H Q => ∃ p ys, xs = [.ref p] ∧ (SqL K H p ys ∨ SqT K H p ys) ∧ Q (.int ys.length) H) (tCons (tVar 9) tNil))
          (fun _ _ _ _ _ _ _ => pe_callB call_len_seq (by rfl) ml PySem.boot_len (pa_cons (pv 9) pa_nil)))) (pv 1) (nomark _)) (pss_one (ps_ret pe_non)) pss_nil)
      (pss_cons (ps_setLc2 (i := 8) (own := [("row", 9), ("part", 10)]) (vs1 := [10]) (g := gName 9) (g1 := gName 10) (tt := tYes) (tt1 := tYes) (wi1 := iTup K (tVar 9)) (te := tVar 10) (by rfl) scWithin.nd rfl rfl (sw_true rfl rfl rfl (by decide +kernel)) (pi_list (pv 5))
          (blkOk_by (own := [("row", 9), ("part", 10)]) (N := nmSm) (sc := defScope sWithin) (by decide +kernel)) (by decide) (fun _ _ _ _ _ => pg_name (i := 9) scWithin.nd rfl (Or.inl rfl)) (fun _ _ _ _ _ => pts_nil)
          (fun _ _ _ _ _ => pi_tup (pv 9)) (fun _ _ _ _ _ => pg_name (i := 10) scWithin.nd rfl (Or.inl rfl)) (fun _ _ _ _ _ => pts_nil) (fun _ _ _ _ _ => pv 10))
      (pss_cons (ps_if (pt_not (pt_truth (pv 8) (by intro _; rfl))) (pss_one (ps_ret (pv 6))) pss_nil)
      (pss_cons (ps_if (pt_not (pt_val (pe_allX (own := [("part", 10)]) (g := gName 10) hr rfl scWithin.nd (by rfl) ma (by decide +kernel) TB rfl rfl (by decide +kernel) rfl
          (blkOk_by (own := [("part", 10)]) (N := nmSm) (sc := defScope sWithin) (by decide +kernel)) (pi_list (pv 8)) (fun _ => rfl) (fun _ _ _ _ _ _ _ => pg_name (i := 10) scWithin.nd rfl (Or.inl rfl))
          (te := tCallL 3 fN (spNPQ Ts np) [] E0 (tCons (tVar 10) tNil))
          (fun _ _ _ _ _ _ _ => pe_callL GN (hr2 _) rfl (.inr (.inr rfl)) kN bN .nil pass0 (pa_cons (pv 10) pa_nil))))) (pss_one (ps_ret pe_non)) pss_nil)
      (pss_cons (ps_expr (pe_bm PySem.F.plainAttrs_list PySem.F.slot_list_extend PySem.F.type_list_extend mt_extend (pv 6) (pa_cons (pv 8) pa_nil)))
      (pss_one (ps_setLc (i := 5) (own := [("part", 10)]) (g := gName 10) (tt := tYes) (te := tCallL 4 fR (spRestQ np rst) [] E0 (tCons (tVar 10) tNil)) (by rfl) scWithin.nd rfl rfl (sw_true rfl rfl rfl (by decide +kernel)) (pi_list (pv 8))
          (blkOk_by (own := [("part", 10)]) (N := nmSm) (sc := defScope sWithin) (by decide +kernel)) (fun _ _ _ _ _ => pg_name (i := 10) scWithin.nd rfl (Or.inl rfl)) (fun _ _ _ _ _ => pts_nil)
          (fun _ _ _ _ _ => pe_callL GR r1 rfl (.inr (.inl rfl)) kR bR .nil pass0 (pa_cons (pv 10) pa_nil)))))))))))
    (pss_one (ps_ret pe_non)))), ?_⟩
  refine ⟨_, rfl, (show 1 ≤ sizeLine by decide), fun R0 nR0 => ?_⟩
  have st0 : SamTs Ts H (upd H R0 (.lst [v])) := (SamTs.refl tg).new nR0
  refine ⟨(show 0 ≤ sizeLine by decide), fun T0 nT0 => ?_⟩
  have st1 : SamTs Ts H (upd (upd H R0 (.lst [v])) T0 (.lst [])) := st0.new nT0
  have emd : ((md : Int) + 1) = ((md + 1 : Nat) : Int) := by omega
  refine ⟨_, rfl, (md : Int), 1, rfl, rfl, ((md + 1 : Nat) : Int), rfl, by omega, by omega, for_range (n := md + 1) (lo := 0) (fun i σ H' => SamTs Ts H H' ∧ ∃ (ts : List Th) (ws tv : List V) (R Tl : Addr) (m : Nat) (s3 s4 s5 s6 : Option V), H' R = some (.lst ws) ∧ OrsAt H H' ts ws ∧ (∀ q ∈ ts, okT q) ∧ ts.length ≤ 401 ∧ m ≤ mp ∧ H Tl = none ∧ H' Tl = some (.lst tv) ∧ tv.length = m ∧ smQ np rst mp (md + 1 - i) m ts = smQ np rst mp (md + 1) 0 [t] ∧ (∃ dn : List Th, ThsAt H dn tv ∧ dn ++ allQ rst (md + 1 - i) ts = allQ rst (md + 1) [t]) ∧
      σ = [some v, some (.int (mp : Nat)), some (.int (md : Nat)), some (.ref fN), some (.ref fR), some (.ref R), some (.ref Tl), s3, s4, s5, s6])
    ⟨st1, [t], [v], [], R0, T0, 0, _, _, _, _, kn upd_same nT0, ⟨v, [], rfl, .inl ht, rfl⟩, (fun x hx => by rw [List.mem_singleton.mp hx]; exact ok), (by show 1 ≤ 401; decide), Nat.zero_le _, SamTs.none tg st0 nT0, upd_same, rfl, rfl, ⟨[], rfl, rfl⟩, rfl⟩ (fun i σ H1 hi hP => ?_) (fun σ H' hP => ?_)⟩
  · obtain ⟨st, ts, ws, tv, R, Tl, m, s3, s4, s5, s6, hRl, hors, hol, hll, hm, nTl, hTl, ltv, hsm, ⟨dn, hdn, eall⟩, rfl⟩ := hP
    have hlv := OrsAt.all (Kpt.of tg st) hors
    have lw := ThsAt.len hlv
    have tg1 := st.2
    obtain ⟨n, en⟩ : ∃ n, md + 1 - i = n + 1 := ⟨md - i, by omega⟩
    have en2 : md + 1 - (i + 1) = n := by omega
    rw [en] at hsm eall
    unfold smQ at hsm
    rw [show allQ rst (n + 1) ts = (if (ts.map itemsT).flatten = [] then [] else (ts.map itemsT).flatten ++ allQ rst n ((ts.map itemsT).flatten.map rst)) from rfl] at eall
    have ans : ∀ (H' : Hp), SamTs Ts H1 H' → false = smQ np rst mp (md + 1) 0 [t] → Q .non H' := fun H' s' e => qn e.symm H' (st.trans s')
    -- all rows are tuples
    refine ⟨_, rfl, R, rfl, ⟨ws, SqL.of hRl⟩, tg1 T mT, fun H2 hT => ⟨ts.length, fun j => (ts[j]?).elim false isTup, fun _ H' => SamTs Ts H1 H', SamTs.tab mT tg1 hT, fun j H' hj hW => ?_, fun H3 hall hW => ?_, fun j H3 hj hf hW => ?_⟩⟩
    · rcases Nat.lt_or_ge j ts.length with hlt | hge
      · have hlw : j < ws.length := by omega
        refine .inr ⟨hlt, ⟨ws, ws[j], SqL.of (hW.lst tg1 hRl), List.getElem?_eq_getElem hlw⟩, fun y H3 hy => ?_⟩
        obtain ⟨rfl, hy⟩ := hy
        obtain ⟨x, hx, hxa⟩ := ThsAt.get hlv (hy ws (SqL.of (hW.lst tg1 hRl)))
        obtain ⟨ty, h1, h2, h3⟩ := (ThAt.mono (Kpt.of tg1 hW) x y hxa).tyT (K := K)
        refine ⟨rfl, _, rfl, y, .ty "tuple", .type ty, .type "tuple", isTup x, rfl, .ty "tuple", h1, h2, ?_, hW⟩
        show V.bl (isTup x) = V.bl ((ts[j]?).elim false isTup)
        rw [hx]
        rfl
      · exact .inl ⟨by omega, ws, SqL.of (hW.lst tg1 hRl), by omega⟩
    rotate_left
    · -- one is none
      refine ⟨_, rfl, iteT (ans H3 hW ?_)⟩
      have c1 : ¬ ts.all isTup = true := fun c => by
        have hf' : (ts[j]?).elim false isTup = false := hf
        rw [List.getElem?_eq_getElem hj] at hf'
        have := List.all_eq_true.mp c ts[j] (List.getElem_mem hj)
        have hf' : isTup ts[j] = false := hf'
        rw [hf'] at this
        cases this
      rw [if_neg c1] at hsm
      exact hsm
    refine ⟨_, rfl, iteF ?_⟩
    have c1 : ts.all isTup = true := List.all_eq_true.mpr fun x hx => by
      obtain ⟨j, hj⟩ := List.getElem?_of_mem hx
      have hlt := (List.getElem?_eq_some_iff.mp hj).1
      have := hall j hlt
      have this : (ts[j]?).elim false isTup = true := this
      rw [hj] at this
      exact this
    rw [if_pos c1] at hsm
    have tupx : ∀ x ∈ ts, x = .tup (itemsT x) := fun x hx => by
      have := List.all_eq_true.mp c1 x hx
      cases x with
      | tup ys => rfl
      | _ => cases this
    have hRl3 := hW.lst tg1 hRl
    have hlv3 := ThsAt.mono (Kpt.of tg1 hW) _ _ hlv
    have tg3 := hW.2
    have ans3 : ∀ (H' : Hp), SamTs Ts H3 H' → false = smQ np rst mp (md + 1) 0 [t] → Q .non H' := fun H' s' e => ans H' (hW.trans s') e
    have hTl3 := hW.lst tg1 hTl
    have hors3 := OrsAt.mono (hW.tup tg1) hors
    have st3 := st.trans hW
    clear hRl hlv hT ans hW hall tg1 st hTl hors
    -- how many they have
    refine ⟨_, rfl, Tl, tv, rfl, .inl (SqL.of hTl3), _, rfl, R, rfl, ⟨ws, SqL.of hRl3⟩, tg3 T mT, fun H4 hT4 => ⟨ts.length, fun j => (ts[j]?).elim (0 : Int) fun x => ((itemsT x).length : Nat), fun _ H' => SamTs Ts H3 H', SamTs.tab mT tg3 hT4, fun j H' hj hW => ?_, fun j hj => ?_, fun H5 hW => ?_⟩⟩
    · rcases Nat.lt_or_ge j ts.length with hlt | hge
      · have hlw : j < ws.length := by omega
        refine .inr ⟨hlt, ⟨ws, ws[j], SqL.of (hW.lst tg3 hRl3), List.getElem?_eq_getElem hlw⟩, fun y H6 hy => ?_⟩
        obtain ⟨rfl, hy⟩ := hy
        obtain ⟨x, hx, hxa⟩ := ThsAt.get hlv3 (hy ws (SqL.of (hW.lst tg3 hRl3)))
        have ex := tupx x (List.mem_of_getElem? hx)
        rw [ex] at hxa
        obtain ⟨a, xs, rfl, ha, hxs⟩ := hxa
        refine ⟨rfl, _, rfl, a, xs, rfl, .inr (SqT.of (hW.tup tg3 _ _ ha)), ?_, hW⟩
        rw [ThsAt.len hxs]
        show V.int ((itemsT x).length : Nat) = V.int ((ts[j]?).elim (0 : Int) fun x => ((itemsT x).length : Nat))
        rw [hx]
        rfl
      · exact .inl ⟨by omega, ws, SqL.of (hW.lst tg3 hRl3), by omega⟩
    · have e := lens_sum ts (j + 1) hj
      have le := flat_le hol (j + 1)
      have e0 := lens_sum ts j (Nat.le_of_lt hj)
      have b1 : preSum (fun j => ((ts[j]?).elim (0 : Int) fun x => ((itemsT x).length : Nat))) (j + 1) = preSum (fun j => ((ts[j]?).elim (0 : Int) fun x => ((itemsT x).length : Nat))) j + (ts[j]?).elim (0 : Int) (fun x => ((itemsT x).length : Nat)) := rfl
      unfold InLong
      rw [e]
      rw [e, e0] at b1
      dsimp only
      have b2 : (0 : Int) ≤ (ts[j]?).elim (0 : Int) (fun x => ((itemsT x).length : Nat)) := by
        rw [List.getElem?_eq_getElem hj]
        exact Int.natCast_nonneg _
      omega
    rw [lens_sum ts ts.length (Nat.le_refl _), List.take_length]
    refine ⟨_, _, rfl, rfl, _, rfl, _, _, rfl, rfl, _, rfl, ?_⟩
    rw [ltv]
    have ans5 : ∀ (H' : Hp), SamTs Ts H5 H' → false = smQ np rst mp (md + 1) 0 [t] → Q .non H' := fun H' s' e => ans3 H' (hW.trans s') e
    have hTl5 := hW.lst tg3 hTl3
    have hors5 := OrsAt.mono (hW.tup tg3) hors3
    have kp5 : Kpt H H5 := Kpt.of tg (st3.trans hW)
    have st5 := st3.trans hW
    have hRl5 := hW.lst tg3 hRl3
    have hlv5 := ThsAt.mono (Kpt.of tg3 hW) _ _ hlv3
    have tg5 := hW.2
    clear hRl3 hlv3 st3 hW hT4 ans3 tg3 hTl3 hors3
    by_cases c2 : m + (ts.map itemsT).flatten.length ≤ mp
    rotate_left
    · rw [if_neg c2] at hsm
      exact iteU (decide_eq_true (by show (mp : Int) < (m : Int) + (((ts.map itemsT).flatten).length : Nat); omega)) (ans5 H5 (SamTs.refl tg5) hsm)
    rw [if_pos c2] at hsm
    refine iteD (decide_eq_false (by show ¬ ((mp : Int) < (m : Int) + (((ts.map itemsT).flatten).length : Nat)); omega)) ?_
    -- all parts
    refine ⟨_, rfl, R, rfl, ⟨ws, SqL.of hRl5⟩, fun D nD => ?_⟩
    refine ⟨fun i k H' => k = ts.length - i ∧ i ≤ ts.length ∧ Same H5 H' ∧ ∃ us, H' D = some (.lst us) ∧ ThsAt H ((ts.take i).map itemsT).flatten us, ⟨_, rfl, Nat.zero_le _, same_new nD, [], upd_same, rfl⟩, fun i1 k H' hW => ?_⟩
    obtain ⟨rfl, hi1, sm, us, hD, hus⟩ := hW
    have whole : ((ts.take i1).map itemsT).flatten.length ≤ (ts.map itemsT).flatten.length := by
      have e : (ts.map itemsT).flatten = ((ts.take i1).map itemsT).flatten ++ ((ts.drop i1).map itemsT).flatten := by
        rw [← List.flatten_append, ← List.map_append, List.take_append_drop]
      rw [e, List.length_append]
      omega
    rcases Nat.lt_or_ge i1 ts.length with hlt | hge
    · have hlw : i1 < ws.length := by omega
      refine .inr ⟨⟨ws, ws[i1], SqL.of (sm _ _ hRl5), List.getElem?_eq_getElem hlw⟩, fun H'' => Same H5 H'' ∧ ∃ us, H'' D = some (.lst us) ∧ ThsAt H ((ts.take (i1 + 1)).map itemsT).flatten us, fun H'' hN => ⟨ts.length - (i1 + 1), by omega, rfl, by omega, hN.1, hN.2⟩, fun y H7 hy => ?_⟩
      obtain ⟨rfl, hy⟩ := hy
      obtain ⟨x, hx, hxa⟩ := OrsAt.get hors5 (hy ws (SqL.of (sm _ _ hRl5)))
      have ex := tupx x (List.mem_of_getElem? hx)
      rw [ex] at hxa
      obtain ⟨a, xs, rfl, ha, hxs⟩ := ThOr.tup kp5 hxa
      have lx := ThsAt.len hxs
      have tk : ((ts.take (i1 + 1)).map itemsT).flatten = ((ts.take i1).map itemsT).flatten ++ itemsT x := by
        rw [List.take_add_one, hx, List.map_append, List.flatten_append]
        show _ ++ (itemsT x ++ []) = _
        rw [List.append_nil]
      have wh2 : ((ts.take i1).map itemsT).flatten.length + (itemsT x).length ≤ (ts.map itemsT).flatten.length := by
        have e : (ts.map itemsT).flatten = ((ts.take (i1 + 1)).map itemsT).flatten ++ ((ts.drop (i1 + 1)).map itemsT).flatten := by
          rw [← List.flatten_append, ← List.map_append, List.take_append_drop]
        rw [e, tk, List.length_append, List.length_append]
        omega
      refine ⟨rfl, yes (iteT ?_)⟩
      refine ⟨_, rfl, a, rfl, ⟨xs, SqT.of (sm _ _ ha)⟩, fun j k H'' => k = xs.length - j ∧ j ≤ xs.length ∧ Same H5 H'' ∧ ∃ us, H'' D = some (.lst us) ∧ ThsAt H (((ts.take i1).map itemsT).flatten ++ (itemsT x).take j) us, ⟨_, rfl, Nat.zero_le _, sm, us, hD, by simpa using hus⟩, fun j k H'' hW1 => ?_⟩
      obtain ⟨rfl, hj1, sm1, us1, hD1, hus1⟩ := hW1
      rcases Nat.lt_or_ge j xs.length with hl2 | hg2
      · refine .inr ⟨⟨xs, xs[j], SqT.of (sm1 _ _ ha), List.getElem?_eq_getElem hl2⟩, fun H9 => Same H5 H9 ∧ ∃ us, H9 D = some (.lst us) ∧ ThsAt H (((ts.take i1).map itemsT).flatten ++ (itemsT x).take (j + 1)) us, fun H9 hN => ⟨xs.length - (j + 1), by omega, rfl, by omega, hN.1, hN.2⟩, fun z H10 hz => ?_⟩
        obtain ⟨rfl, hz⟩ := hz
        obtain ⟨p, hp, hpa⟩ := ThsAt.get hxs (hz xs (SqT.of (sm1 _ _ ha)))
        have lu1 := ThsAt.len hus1
        rw [List.length_append, List.length_take] at lu1
        refine ⟨rfl, yes (iteT ⟨_, rfl, us1, hD1, small1000 (by omega), fun b o e => by rw [upd_ne (ne_of_none e nD)]; exact sm1 _ _ e, us1 ++ [z], upd_same, ?_⟩)⟩
        rw [List.take_add_one, hp, ← List.append_assoc]
        exact ThsAt.app (ThsAt.one hpa) hus1
      · refine .inl ⟨⟨xs, SqT.of (sm1 _ _ ha), hg2⟩, sm1, us1, hD1, ?_⟩
        rw [tk]
        have e2 : (itemsT x).take j = itemsT x := List.take_of_length_le (by omega)
        rw [e2] at hus1
        exact hus1
    refine .inl ⟨⟨ws, SqL.of (sm _ _ hRl5), by omega⟩, ?_⟩
    rw [List.take_of_length_le hge] at hus
    have hus7 := ThsAt.mono (kp5.trans (Kpt.same sm)) _ _ hus
    have lu := ThsAt.len hus
    have okp : ∀ x ∈ (ts.map itemsT).flatten, okT x := fun x hx => by
      obtain ⟨ys, hys, hx2⟩ := List.mem_flatten.mp hx
      obtain ⟨y, hy, rfl⟩ := List.mem_map.mp hys
      exact (hol y hy).items.2 x hx2
    have st7 := st5.sm sm
    have ans7 : ∀ (H'' : Hp), SamTs Ts H' H'' → false = smQ np rst mp (md + 1) 0 [t] → Q .non H'' := fun H'' s' e => ans5 H'' (((SamTs.refl tg5).sm sm).trans s') e
    have nDT : D ≠ Tl := fun z => by
      rw [z] at nD
      rw [hTl5] at nD
      cases nD
    have hTl7 := sm _ _ hTl5
    have tg7 := st7.2
    clear st5 sm hRl5 hlv5 tg5 ans5 tupx c1 hTl5 hors5 kp5 nD
    generalize (ts.map itemsT).flatten = ps at *
    -- none, or some
    refine ⟨_, rfl, _, .inl ⟨us, SqL.of hD, rfl⟩, ?_⟩
    by_cases hem : ps = []
    · have e0 : us = [] := List.length_eq_zero_iff.mp (by rw [lu, hem]; rfl)
      rw [if_pos hem] at hsm
      rw [e0]
      rw [if_pos hem, List.append_nil] at eall
      exact iteT ⟨_, rfl, qy hsm.symm H' Tl tv st7 nTl hTl7 (by rw [← eall]; exact hdn)⟩
    rw [if_neg hem] at hsm eall
    have hne : us.isEmpty = false := by
      cases us with
      | nil => exact absurd (List.length_eq_zero_iff.mp lu.symm) hem
      | cons x l => rfl
    refine iteD (by rw [hne]; rfl) ?_
    -- each is a part with a name
    refine ⟨_, rfl, D, rfl, ⟨us, SqL.of hD⟩, tg7 T mT, fun H12 hT => ⟨ps.length, fun j => (ps[j]?).elim false np, fun _ H'' => SamTs Ts H' H'', SamTs.tab mT tg7 hT, fun j H'' hj hW => ?_, fun H13 hall hW => ?_, fun j H13 hj hf hW => ?_⟩⟩
    · rcases Nat.lt_or_ge j ps.length with hlt | hge
      · have hlu : j < us.length := by omega
        refine .inr ⟨hlt, ⟨us, us[j], SqL.of (hW.lst tg7 hD), List.getElem?_eq_getElem hlu⟩, fun y H3 hy => ?_⟩
        obtain ⟨rfl, hy⟩ := hy
        obtain ⟨x, hx, hxa⟩ := ThsAt.get hus7 (hy us (SqL.of (hW.lst tg7 hD)))
        refine ⟨rfl, rfl, _, rfl, y, x, rfl, ThAt.mono (Kpt.of tg7 hW) x y hxa, okp x (List.mem_of_getElem? hx), hW.2, fun H5' s5 => ⟨?_, hW.trans s5⟩⟩
        show V.bl (np x) = V.bl ((ps[j]?).elim false np)
        rw [hx]
        rfl
      · exact .inl ⟨by omega, us, SqL.of (hW.lst tg7 hD), by omega⟩
    rotate_left
    · refine ⟨_, rfl, iteT (ans7 H13 hW ?_)⟩
      have c4 : ¬ ps.all np = true := fun c => by
        have hf' : (ps[j]?).elim false np = false := hf
        rw [List.getElem?_eq_getElem hj] at hf'
        have := List.all_eq_true.mp c ps[j] (List.getElem_mem hj)
        have hf' : np ps[j] = false := hf'
        rw [hf'] at this
        cases this
      rw [if_neg c4] at hsm
      exact hsm
    have c4 : ps.all np = true := List.all_eq_true.mpr fun x hx => by
      obtain ⟨j, hj⟩ := List.getElem?_of_mem hx
      have hlt := (List.getElem?_eq_some_iff.mp hj).1
      have := hall j hlt
      have this : (ps[j]?).elim false np = true := this
      rw [hj] at this
      exact this
    rw [if_pos c4] at hsm
    refine ⟨_, rfl, iteF ?_⟩
    have st13 := st7.trans hW
    have hD13 := hW.lst tg7 hD
    have hTl13 := hW.lst tg7 hTl7
    clear hD hus7 hT hW ans7 hall hTl7
    -- put to the others
    refine ⟨_, rfl, .inl ⟨rfl, _, SqL.of hTl13⟩, _, rfl, Tl, D, tv, us, rfl, rfl, hTl13, hD13, small (show tv.length + us.length ≤ 1000 by omega), ?_⟩
    have st14 : SamTs Ts H (upd H13 Tl (.lst (tv ++ us))) := SamTs.own tg st13 nTl
    have hD14 : upd H13 Tl (.lst (tv ++ us)) D = some (.lst us) := by
      rw [upd_ne nDT]
      exact hD13
    have hTl14 : upd H13 Tl (.lst (tv ++ us)) Tl = some (.lst (tv ++ us)) := upd_same
    clear hD13 hTl13 st13 st7
    generalize upd H13 Tl (.lst (tv ++ us)) = H13 at *
    have st13 := st14
    have hD13 := hD14
    -- their rests
    refine ⟨_, rfl, D, rfl, ⟨us, SqL.of hD13⟩, fun D2 nD2 => ?_⟩
    refine lc_it (walk_list (xs := us)) (fun j H'' => Same H13 H'' ∧ ∃ vs, H'' D2 = some (.lst vs) ∧ OrsAt H H'' ((ps.take j).map rst) vs) ⟨same_new nD2, [], upd_same, rfl⟩ (fun j H'' _ hP => SqL.of (hP.1 _ _ hD13)) (fun j y H14 H15 hj hP hY => ?_) (fun H14 hP => ?_)
    · obtain ⟨rfl, hy⟩ := hY
      obtain ⟨sm, vs, hD2, hvs⟩ := hP
      obtain ⟨x, hx, hxa⟩ := ThsAt.get hus hy
      have lv := OrsAt.len hvs
      rw [List.length_map, List.length_take] at lv
      refine ⟨rfl, yes (iteT ⟨rfl, _, rfl, y, x, H, rfl, hxa, Kpt.of tg (st13.sm sm), List.all_eq_true.mp c4 x (List.mem_of_getElem? hx), fun H16 u sm16 hu => ?_⟩)⟩
      have hD16 := sm16 _ _ hD2
      refine ⟨vs, hD16, small1000 (by omega), fun b o e => by rw [upd_ne (ne_of_none e nD2)]; exact sm16 _ _ (sm _ _ e), vs ++ [u], upd_same, ?_⟩
      rw [List.take_add_one, hx, List.map_append]
      refine OrsAt.snoc ?_ (OrsAt.mono ((STup.of sm16).trans (STup.lst hD16)) hvs)
      rcases hu with hu | ⟨e1, a, e2, h3⟩
      · exact .inl hu
      · exact .inr ⟨e1, a, e2, STup.lst hD16 _ _ h3⟩
    obtain ⟨sm, vs, hD2, hvs⟩ := hP
    rw [lu, List.take_length] at hvs
    have lnx : (ps.map rst).length ≤ 401 := by
      rw [List.length_map]
      omega
    refine ⟨st13.sm sm, ps.map rst, vs, tv ++ us, D2, Tl, m + ps.length, _, _, _, _, hD2, hvs, (fun x hx => by
      obtain ⟨p, hp, rfl⟩ := List.mem_map.mp hx
      exact hro p (okp p hp) (List.all_eq_true.mp c4 p hp)), lnx, by omega, nTl, sm _ _ hTl14, (by rw [List.length_append]; omega), (by rw [en2]; exact hsm), ⟨dn ++ ps, ThsAt.app hus hdn, by rw [en2, List.append_assoc]; exact eall⟩, rfl⟩
  · obtain ⟨st, ts, ws, tv, R, Tl, m, s3, s4, s5, s6, hRl, hors, hol, hll, hm, nTl, hTl, ltv, hsm, ⟨dn, hdn, eall⟩, rfl⟩ := hP
    rw [Nat.sub_self] at hsm
    exact qn hsm.symm H' st
end
end K54

set_option Elab.async false
set_option linter.all false
set_option maxRecDepth 100000
set_option maxHeartbeats 4000000
namespace K54
open PySem PySem.Spec PyProof.Rows L2 Wk GxR
abbrev sBegins : Stmt := topS 7
abbrev sMName : Stmt := topS 19
abbrev sMPart : Stmt := topS 18
abbrev sMRest : Stmt := topS 20
theorem scBegins : FnScope ["thing"] ["thing"] (defScope sBegins) := ⟨rfl, rfl, rfl, by decide +kernel, rfl, by decide +kernel, by decide +kernel⟩
theorem scMName : FnScope ["thing"] ["thing"] (defScope sMName) := ⟨rfl, rfl, rfl, by decide +kernel, rfl, by decide +kernel, by decide +kernel⟩
theorem scMPart : FnScope ["thing", "name"] ["thing"] (defScope sMPart) := ⟨rfl, rfl, rfl, by decide +kernel, rfl, by decide +kernel, by decide +kernel⟩
theorem scMRest : FnScope ["part"] ["part"] (defScope sMRest) := ⟨rfl, rfl, rfl, by decide +kernel, rfl, by decide +kernel, by decide +kernel⟩
section
variable {P : Program} {w : World} {K : PySem.W.Frag} {mg : Str → Option Value} {base : Heap} {T : Addr} {Ts : List Addr}
theorem ok_begins {f : Addr} {fd : FuncData} {k : Nat} (F : Fun K "begins_with_word" "begins_with_word" sBegins f fd) (mi : mg "isinstance" = none) (mt : mg "tuple" = none) (ms : mg "str" = none) (ml : mg "len" = none) :
    FnOk P w K mg base CX0 (k + 1) f fd ["thing"] spBegins := by
  refine F.ok scBegins (fun vs H Q E h => ?_) (fun cdv A outer s H vs Q E hr h => ?_)
  · obtain ⟨_, _, rfl, _⟩ := h
    rfl
  obtain ⟨v, t, rfl, ht, q⟩ := h
  refine ⟨_, pss_one (ps_ret (pe_and (pe_callB call_isi (by rfl) mi (by decide +kernel) (pa_cons (pv 0) (pa_cons (pe_bltn (v := .ty "tuple") (by rfl) mt (by decide +kernel) rfl) pa_nil)))
    (pe_and (pe_cmpR op_gt (pe_callB call_len_seq (by rfl) ml PySem.boot_len (pa_cons (pv 0) pa_nil)) pe_int (nomark _))
      (pe_one (pe_callB call_isi (by rfl) mi (by decide +kernel) (pa_cons (pe_ix ix_tup (pv 0) pe_int (fun _ _ => rfl)) (pa_cons (pe_bltn (v := .ty "str") (by rfl) ms (by decide +kernel) rfl) pa_nil))))))), ?_⟩
  obtain ⟨ty, h1, h2, h3⟩ := ht.tyT (K := K)
  refine ⟨_, rfl, v, .ty "tuple", .type ty, .type "tuple", isTup t, rfl, .ty "tuple", h1, h2, _, rfl, ?_⟩
  match t, ht, q with
  | .tup [], ht, q =>
    obtain ⟨a, vs, rfl, ha, hv⟩ := ht
    have e0 : vs = [] := hv
    subst e0
    exact iteT ⟨_, rfl, a, [], rfl, .inr (SqT.of ha), _, _, rfl, rfl, _, rfl, iteD (by decide) q⟩
  | .tup (x :: r), ht, q =>
    obtain ⟨a, vs, rfl, ha, u, us, rfl, hx, hus⟩ := ht
    refine iteT ⟨_, rfl, a, u :: us, rfl, .inr (SqT.of ha), _, _, rfl, rfl, _, rfl, iteU (decide_eq_true (by show (0 : Int) < (((u :: us).length : Nat) : Int); rw [List.length_cons]; omega)) ?_⟩
    obtain ⟨ty, g1, g2, g3⟩ := hx.tyT (K := K)
    refine ⟨_, rfl, a, _, 0, _, rfl, rfl, SqT.of ha, atI_nat (j := 0) rfl, u, .ty "str", .type ty, .type "str", isStrT x, rfl, .ty "str", g1, g3, ?_⟩
    have e : wordT (.tup (x :: r)) = isStrT x := by cases x <;> rfl
    rw [e] at q
    exact q
  | .non, _, q => exact iteF q
  | .int _, _, q => exact iteF q
  | .bl _, _, q => exact iteF q
  | .lst _, _, q => exact iteF q
  | .str _, _, q => exact iteF q
  | .dct, _, q => exact iteF q
theorem ok_mname {f fN : Addr} {fd fdN : FuncData} {t4 : Tok} (F : Fun K "is_mail_name" "is_mail_name" sMName f fd) (ml : mg "len" = none) (mM : mg "MOST_LETTERS" = some (.int 4 t4))
    (GN : FnOk P w K mg base CX0 2 fN fdN ["thing"] (spName Ts nmV)) (bN : Binds K fdN ["thing"] []) (kN : PySem.W.keepIn K (.ref fN) = true) (mN : mg "is_name" = some (.ref fN)) :
    FnOk P w K mg base CX0 3 f fd ["thing"] (spName Ts mnV) := by
  refine F.ok scMName (fun vs H Q E h => ?_) (fun cdv A outer s H vs Q E hr h => ?_)
  · obtain ⟨_, rfl, _⟩ := h
    rfl
  obtain ⟨v, rfl, th, tg, q⟩ := h
  refine ⟨_, pss_one (ps_ret (pe_and (pe_call GN hr (by rfl) mN kN bN .nil pass0 (pa_cons (pv 0) pa_nil))
    (pe_and (pe_cmpR op_le (pe_callB call_len_str (by rfl) ml PySem.boot_len (pa_cons (pv 0) pa_nil)) (pe_glob (v := .int 4) (by rfl) mM ⟨_, rfl⟩) (nomark _))
      (pe_one (pe_cmpR op_ne (pe_ix ix_str (pv 0) pe_int (fun _ _ => rfl)) pe_str (nomark _)))))), ?_⟩
  refine ⟨_, rfl, v, rfl, th, tg, fun H1 st => ⟨_, rfl, ite2 (fun h => ?_) (fun h => ?_)⟩⟩
  · rcases th.cases with ⟨z, rfl, hz⟩ | ⟨_, e2⟩
    rotate_left
    · rw [show nmV v = true from h] at e2
      cases e2
    have hN : nameB z = true := h
    refine ⟨_, rfl, z, rfl, small hz, _, _, rfl, rfl, _, rfl, ite2 (fun h2 => ?_) (fun h2 => ?_)⟩
    · have h2' : z.length ≤ 4 := by
        have := of_decide_eq_true h2
        omega
      obtain ⟨c, r, ec⟩ := mword_pos (Bool.and_eq_true_iff.mp hN).2
      refine ⟨_, rfl, _, 0, c, rfl, rfl, small hz, by rw [ec]; exact atI_nat (j := 0) rfl, rfl, ?_⟩
      have e : mnV (.str z) = !decide (V.str ⟨#[c]⟩ = V.str "z") := by
        show mnB z = _
        unfold mnB
        rw [hN, decide_eq_true h2', ec, msign_eq (d := 122) (by decide +kernel)]
        simp
      have q1 := q H1 st
      rw [e] at q1
      exact q1
    · have h2' : ¬ z.length ≤ 4 := fun g => h2 (decide_eq_true (by omega))
      have e : mnV (.str z) = false := by
        show mnB z = _
        unfold mnB
        rw [decide_eq_false h2', Bool.false_and, Bool.and_false]
      have q1 := q H1 st
      rw [e] at q1
      exact q1
  · have hN : nmV v = false := Bool.eq_false_iff.mpr h
    have e : mnV v = false := by
      cases v with
      | str z =>
        show mnB z = false
        unfold mnB
        rw [show nameB z = false from hN, Bool.false_and]
      | _ => rfl
    have q1 := q H1 st
    rw [e] at q1
    exact q1
theorem ok_mrest {f : Addr} {fd : FuncData} {k : Nat} (F : Fun K "mail_rest" "mail_rest" sMRest f fd) : FnOk P w K mg base CX0 (k + 1) f fd ["part"] (spRestQ mpB rstM) := by
  refine F.ok scMRest (fun vs H Q E h => ?_) (fun cdv A outer s H vs Q E hr h => ?_)
  · obtain ⟨_, _, _, rfl, _⟩ := h
    rfl
  obtain ⟨v, t, G, rfl, ht, kp, hn, q⟩ := h
  refine ⟨_, pss_one (ps_ret (pe_ifExp (pt_cmpR op_eq (pe_ix ix_tup (pv 0) pe_int (fun _ _ => rfl)) pe_str (nomark _)) (pe_ix ix_tup (pv 0) pe_int (fun _ _ => rfl)) (pe_tup pa_nil))), ?_⟩
  rcases mp_cases hn with ⟨n, m, rfl, _⟩ | ⟨n, x, y, rfl, _⟩
  · obtain ⟨a, vs, rfl, ha0, u, us, rfl, hx, _⟩ := ht
    have ez : u = .str "send" := hx
    subst ez
    have ha := kp _ _ (fun _ z => by cases z) ha0
    refine ⟨_, rfl, a, _, 0, _, rfl, rfl, SqT.of ha, atI_nat (j := 0) rfl, rfl, _, rfl, iteD (by decide +kernel) ?_⟩
    refine ⟨(show 0 ≤ sizeLine by decide), fun p np => q _ _ (same_new np) (.inr ⟨?_, p, rfl, upd_same⟩)⟩
    show (if ("send" : Str) = "get" then (([.str n, .str m] : List Th)[2]?).getD .non else Th.tup []) = _
    rw [if_neg (by decide +kernel)]
  · obtain ⟨a, vs, rfl, ha0, u, us, rfl, hx, u2, us2, rfl, _, u3, us3, rfl, _, u4, us4, rfl, hy, h0⟩ := ht
    have ez : u = .str "get" := hx
    have e0 : us4 = [] := h0
    subst ez e0
    have ha := kp _ _ (fun _ z => by cases z) ha0
    refine ⟨_, rfl, a, _, 0, _, rfl, rfl, SqT.of ha, atI_nat (j := 0) rfl, rfl, _, rfl, iteU (by decide +kernel) ?_⟩
    refine ⟨_, rfl, a, _, 3, _, rfl, rfl, SqT.of ha, atI_nat (j := 3) rfl, q _ _ (fun _ _ e => e) ?_⟩
    have e : rstM (Th.tup [.str "get", .str n, .str x, y]) = y := by
      show (if ("get" : Str) = "get" then _ else Th.tup []) = _
      rw [if_pos rfl]
      rfl
    rw [e]
    exact .inl hy
theorem ok_mpart {f c fB fN dS : Addr} {fd fdB fdN : FuncData} (F : FunC K "is_mail_part" "is_mail_part" sMPart f c fd) (TB : TabB base mg c T) (mT : T ∈ Ts) (ml : mg "len" = none) (ma : mg "all" = none) (mS : mg "MAIL_SIZES" = some (.ref dS)) (hS : MSizesG K w dS)
    (GB : FnOk P w K mg base CX0 1 fB fdB ["thing"] spBegins) (bB : Binds K fdB ["thing"] []) (kB : PySem.W.keepIn K (.ref fB) = true) (mB : mg "begins_with_word" = some (.ref fB))
    (GN : FnOk P w K mg base CX0 3 fN fdN ["thing"] (spName Ts mnV)) (bN : Binds K fdN ["thing"] []) (kN : PySem.W.keepIn K (.ref fN) = true) (mN : mg "is_mail_name" = some (.ref fN)) :
    FnOk P w K mg base CX0 5 f fd ["thing"] (spNPQ Ts mpB) := by
  refine F.okN scMPart (fun vs H Q E h => ?_) (fun A outer s H vs Q E hr h => ?_)
  · obtain ⟨_, _, rfl, _⟩ := h
    rfl
  obtain ⟨v, t, rfl, ht, ok, tg, q⟩ := h
  have r1 : Room 1 _ := hr.mono (by decide)
  have hr2 : ∀ e, Room 3 ((A.deeper (envOfC "is_mail_part" (defScope sMPart) s.heap.objs.size f (.ref c))).in1.in1.deeper e) := fun e => Wk.Room.gen hr e
  refine ⟨_, pss_cons (ps_if (PW.pt (pw_or (pt_not (pt_val (pe_call GB r1 (by rfl) mB kB bB .nil pass0 (pa_cons (pv 0) pa_nil))))
      (pw_or1 (pt_cmpR op_ne (pe_kget (pe_glob (v := .ref dS) (by rfl) mS rfl) (pe_ix ix_tup (pv 0) pe_int (fun _ _ => rfl)) ⟨rfl, rfl, rfl, rfl⟩) (pe_callB call_len_seq (by rfl) ml PySem.boot_len (pa_cons (pv 0) pa_nil)) (nomark _))))) (pss_one (ps_ret pe_bl)) pss_nil)
    (pss_one (ps_ret (pe_allX (own := [("name", 1)]) (g := gName 1) hr rfl scMPart.nd (by rfl) ma (by decide +kernel) TB rfl rfl (by decide +kernel) rfl
          (blkOk_by (own := [("name", 1)]) (N := ["thing", "name"]) (sc := defScope sMPart) (by decide +kernel)) (pi_tup (pe_slice sl_tup (pv 0) (po_some pe_int) (po_some pe_int))) (fun _ => rfl) (fun _ _ _ _ _ _ _ => pg_name (i := 1) scMPart.nd rfl (Or.inl rfl))
          (te := tCall (spName Ts mnV) [] E0 (tCons (tVar 1) tNil))
          (fun _ _ _ _ _ _ _ => pe_call GN (hr2 _) (by rfl) mN kN bN .nil pass0 (pa_cons (pv 1) pa_nil))))), ?_⟩
  refine ⟨_, rfl, v, t, rfl, ht, _, rfl, ?_⟩
  by_cases cw : wordT t = true
  rotate_left
  · have c' : wordT t = false := Bool.eq_false_iff.mpr cw
    rw [c']
    have q1 := q H (SamTs.refl tg)
    rw [mp_word c'] at q1
    exact iteT q1
  rw [cw]
  refine iteF ?_
  obtain ⟨z, r, rfl⟩ := word_cases cw
  obtain ⟨a, vs, rfl, ha, u, us, rfl, hx, hus⟩ := ht
  have lu := ThsAt.len hus
  have ez : u = .str z := hx
  subst ez
  obtain ⟨rr, g1, g2⟩ := hS.2 z
  refine ⟨dS, rfl, hS.1, _, rfl, a, _, 0, _, rfl, rfl, SqT.of ha, atI_nat (j := 0) rfl, z, rr, msV z, rfl, g1, g2, _, rfl, a, _, rfl, .inr (SqT.of ha), msV_scal z _, _, rfl, ?_⟩
  have el : decide (msV z = V.int ((V.str z :: us).length : Nat)) = decide (msOf z = some (r.length + 1)) := by
    rw [msV_eq, List.length_cons, lu]
  by_cases c2 : msOf z = some (r.length + 1)
  rotate_left
  · refine iteU (by rw [el, decide_eq_false c2]; rfl) ?_
    have e : mpB (.tup (.str z :: r)) = false := by
      show (decide (msOf z = some (r.length + 1)) && (r.take 2).all mnT) = false
      rw [decide_eq_false c2, Bool.false_and]
    have q1 := q H (SamTs.refl tg)
    rw [e] at q1
    exact q1
  refine iteD (by rw [el, decide_eq_true c2]; rfl) ?_
  have em : mpB (.tup (.str z :: r)) = (r.take 2).all mnT := by
    show (decide (msOf z = some (r.length + 1)) && (r.take 2).all mnT) = _
    rw [decide_eq_true c2, Bool.true_and]
  have l2 : 2 ≤ r.length := by
    unfold msOf at c2
    by_cases e1 : z = "send"
    · rw [if_pos e1] at c2
      have := Option.some.inj c2
      omega
    · rw [if_neg e1] at c2
      by_cases e2 : z = "get"
      · rw [if_pos e2] at c2
        have := Option.some.inj c2
        omega
      · rw [if_neg e2] at c2
        cases c2
  have ln : (V.str z :: us).length = us.length + 1 := List.length_cons
  have s1 : HT.sIx (V.str z :: us).length 0 (some 1) = 1 := (HT.sIx_nat _ _ 1).trans (by omega)
  have s3 : HT.sIx (V.str z :: us).length (V.str z :: us).length (some 3) = 3 := (HT.sIx_nat _ _ 3).trans (by omega)
  have ecut : cutV (V.str z :: us) (some 1) (some 3) = us.take 2 := by
    unfold cutV
    rw [s1, s3]
    rfl
  refine ⟨_, rfl, 1, rfl, 3, rfl, a, _, rfl, SqT.of ha, (fun ⟨c, _⟩ => by rw [s1] at c; cases c), fun p np => ?_⟩
  rw [ecut]
  have st0 : SamTs Ts H (upd H p (.tup (us.take 2))) := (SamTs.refl tg).new np
  have hp : upd H p (.tup (us.take 2)) p = some (.tup (us.take 2)) := upd_same
  have lt2 : (us.take 2).length = 2 := by rw [List.length_take]; omega
  have hys : ThsAt H (r.take 2) (us.take 2) := by
    match r, us, hus, l2 with
    | x :: y :: r, _, ⟨v1, _, rfl, h1, v2, _, rfl, h2, _⟩, _ => exact ⟨v1, [v2], rfl, h1, v2, [], rfl, h2, rfl⟩
  have oky : ∀ x ∈ r.take 2, okT x := fun x hx => ok.2.2.mem x (List.mem_of_mem_take hx)
  have lr2 : (r.take 2).length = 2 := by rw [List.length_take]; omega
  have tg0 := st0.2
  have hys0 := ThsAt.mono (Kpt.of tg st0) _ _ hys
  generalize upd H p (.tup (us.take 2)) = H0 at *
  rw [em] at q
  clear em ecut s1 s3 el
  generalize us.take 2 = ys at *
  generalize r.take 2 = xs at *
  refine ⟨p, rfl, ⟨ys, SqT.of hp⟩, tg0 T mT, fun H2 hT => ⟨2, fun j => (xs[j]?).elim false mnT, fun _ H' => SamTs Ts H0 H', SamTs.tab mT tg0 hT, fun j H' hj hW => ?_, fun H3 hall hW => ?_, fun j H3 hj hf hW => ?_⟩⟩
  · rcases Nat.lt_or_ge j 2 with hlt | hge
    · have hlw : j < ys.length := by omega
      refine .inr ⟨hlt, ⟨ys, ys[j], SqT.of (hW.tup tg0 _ _ hp), List.getElem?_eq_getElem hlw⟩, fun y H3 hy => ?_⟩
      obtain ⟨rfl, hy⟩ := hy
      obtain ⟨x, hx, hxa⟩ := ThsAt.get hys0 (hy ys (SqT.of (hW.tup tg0 _ _ hp)))
      obtain ⟨th, e2⟩ := (ThAt.mono (Kpt.of tg0 hW) x y hxa).mthing (oky x (List.mem_of_getElem? hx))
      refine ⟨rfl, _, rfl, y, rfl, th, hW.2, fun H5 s5 => ⟨?_, hW.trans s5⟩⟩
      show V.bl (mnV y) = V.bl ((xs[j]?).elim false mnT)
      rw [hx, e2]
      rfl
    · exact .inl ⟨by omega, ys, SqT.of (hW.tup tg0 _ _ hp), by omega⟩
  · have c4 : xs.all mnT = true := List.all_eq_true.mpr fun x hx => by
      obtain ⟨j, hj⟩ := List.getElem?_of_mem hx
      have hlt := (List.getElem?_eq_some_iff.mp hj).1
      have := hall j (by omega)
      have this : (xs[j]?).elim false mnT = true := this
      rw [hj] at this
      exact this
    rw [c4] at q
    exact q H3 (st0.trans hW)
  · have c4 : xs.all mnT = false := Bool.eq_false_iff.mpr fun c => by
      have hf' : (xs[j]?).elim false mnT = false := hf
      rw [List.getElem?_eq_getElem (by omega)] at hf'
      have := List.all_eq_true.mp c xs[j] (List.getElem_mem (by omega))
      have hf' : mnT xs[j] = false := hf'
      rw [hf'] at this
      cases this
    rw [c4] at q
    exact q H3 (st0.trans hW)
end
end K54

set_option Elab.async false
set_option linter.all false
set_option maxRecDepth 100000
set_option maxHeartbeats 4000000
namespace K54
open PySem PySem.Spec PyProof.Rows L2 Wk GxR
abbrev sMGather : Stmt := topS 23
abbrev sMCallings : Stmt := topS 22
abbrev nmMG : List Str := ["mail", "around", "free", "bound", "part", "is_get", "used", "name"]
theorem scMGather : FnScope nmMG ["mail", "around", "free", "bound"] (defScope sMGather) := ⟨rfl, rfl, rfl, by decide +kernel, rfl, by decide +kernel, by decide +kernel⟩
theorem scMCallings : FnScope ["mail", "free", "bound"] ["mail"] (defScope sMCallings) := ⟨rfl, rfl, rfl, by decide +kernel, rfl, by decide +kernel, by decide +kernel⟩
abbrev ps4m : List Str := ["mail", "around", "free", "bound"]
section
variable {P : Program} {w : World} {K : PySem.W.Frag} {mg : Str → Option Value} {base : Heap}
theorem ok_mgather {f : Addr} {fd : FuncData} {n : Nat} (F : Fun K "gather_mail_callings" "gather_mail_callings" sMGather f fd)
    (G : FnOk P w K mg base CX0 (n + 1) f fd ps4m (spGatherM n)) (bF : Binds K fd ps4m []) (mF : mg "gather_mail_callings" = some (.ref f)) : FnOk P w K mg base CX0 (n + 1 + 1) f fd ps4m (spGatherM (n + 1)) := by
  refine F.ok scMGather (fun vs H Q E h => ?_) (fun cdv A outer s H vs Q E hr h => ?_)
  · obtain ⟨_, _, _, _, _, _, _, _, rfl, _⟩ := h
    rfl
  obtain ⟨v, r, aS, Fl, Bl, S, fs, bs, rfl, hR, hS, hF, hB, hne, hd, hsf, hsb, hsS, q⟩ := h
  refine ⟨_, pss_one (ps_for PassesOwn.never rfl (pi_tup (pv 0)) (pg_name (i := 4) scMGather.nd rfl (.inl rfl))
    (pss_cons (ps_set (i := 5) scMGather.nd rfl (.inl rfl) (pe_cmpR op_eq (pe_ix ix_tup (pv 4) pe_int (fun _ _ => rfl)) pe_str (nomark _)))
    (C8.pss_cut (ps_set (i := 6) scMGather.nd rfl (.inl rfl) (pe_ifExp (pt_val (pv 5)) (pe_slice sl_tup (pv 4) (po_some pe_int) (po_some pe_int)) (pe_slice sl_tup (pv 4) (po_some pe_int) po_none)))
    (pss_cons (ps_expr (pe_bm PySem.F.plainAttrs_list PySem.F.slot_list_extend PySem.F.type_list_extend mt_extend (pv 2) (pa_cons (pe_lc (own := [("name", 7)]) (g := gName 7) (tt := tTest (tOp (rIn K true) (tVar 7) (tVar 1))) (te := tVar 7) (by rfl) scMGather.nd (pi_tup (pv 6))
        (blkOk_by (own := [("name", 7)]) (N := nmMG) (sc := defScope sMGather) (by decide +kernel)) (fun _ _ _ _ _ => pg_name (i := 7) scMGather.nd rfl (Or.inl rfl)) (fun _ _ _ _ _ => pts_one (pt_cmpR op_notIn_seq (pv 7) (pv 1) rfl)) (fun _ _ _ _ _ => pv 7)) pa_nil)))
    (pss_one (ps_if (pt_val (pv 5))
      (pss_cons (ps_expr (pe_bm PySem.F.plainAttrs_list PySem.F.slot_list_append PySem.F.type_list_append mt_append (pv 3) (pa_cons (pe_ix ix_tup (pv 4) pe_int (fun _ _ => rfl)) pa_nil)))
        (pss_one (ps_expr (pe_call G hr (by rfl) mF F.kp bF .nil pass0 (pa_cons (pe_ix ix_tup (pv 4) pe_int (fun _ _ => rfl)) (pa_cons (pe_tup (pa_star (pv 1) (pa_cons (pe_ix ix_tup (pv 4) pe_int (fun _ _ => rfl)) pa_nil))) (pa_cons (pv 2) (pa_cons (pv 3) pa_nil))))))))
      pss_nil)))))), ?_⟩
  obtain ⟨a, xs, rfl, ha, hps⟩ := hR
  have lx : xs.length = r.length := (ThsAt.len hps).trans (thMs_len r)
  refine ⟨_, rfl, a, rfl, ⟨_, SqT.of ha⟩, for_it (walk_tup (xs := xs)) (fun i σ H' => Sam2 Fl Bl H H' ∧ H' Fl = some (.lst ((fs ++ frMs S (r.take i)).map V.str)) ∧ H' Bl = some (.lst ((bs ++ bdMs (r.take i)).map V.str)) ∧
      ∃ s4 s5 s6 s7 : Option V, σ = [some (.ref a), some (.ref aS), some (.ref Fl), some (.ref Bl), s4, s5, s6, s7])
    ⟨fun _ _ _ _ e => e, by simpa [frMs] using hF, by simpa [bdMs] using hB, _, _, _, _, rfl⟩ (fun i σ H' _ hP => SqT.of (hP.1.tup hF hB _ _ ha)) (fun i y σ H1 H2 hi hP hY => ?_) (fun σ H' hP => ?_)⟩
  · obtain ⟨rfl, hy⟩ := hY
    obtain ⟨sm, hF1, hB1, s4, s5, s6, s7, rfl⟩ := hP
    obtain ⟨p, hp, hpa⟩ := thMs_get hps hy
    have pm : p ∈ r := List.mem_of_getElem? hp
    have d1 := deepMs.mem p pm
    have d2 := deep_restM p
    have st := sm.tup hF hB
    have hpa2 := thM_tup st p y hpa
    have hS2 := st _ _ hS
    have tk : r.take (i + 1) = r.take i ++ [p] := by rw [List.take_add_one, hp]; rfl
    have z1 := sizeMs_take r (i + 1)
    rw [tk, sizeMs_app] at z1
    have z2 : sizeMs [p] = sizeM p := by show sizeM p + 0 = sizeM p; omega
    have z3 := size_restM p
    have lf := fr_sizeMs (r.take i) S
    have lb := bd_sizeMs (r.take i)
    obtain ⟨b, zs, rfl, hb, e0⟩ : ∃ b zs, y = .ref b ∧ H2 b = some (.tup zs) ∧ ∃ zr, zs = .str (if isGetM p = true then "get" else "send") :: zr := by
      cases p with
      | send n m =>
        obtain ⟨b, zs, rfl, hb, u, us, rfl, hu, _⟩ := hpa2
        exact ⟨b, _, rfl, hb, us, by rw [show u = V.str "send" from hu]; rfl⟩
      | get n x q =>
        obtain ⟨b, zs, rfl, hb, u, us, rfl, hu, _⟩ := hpa2
        exact ⟨b, _, rfl, hb, us, by rw [show u = V.str "get" from hu]; rfl⟩
    obtain ⟨zr, rfl⟩ := e0
    refine ⟨_, rfl, b, _, 0, _, rfl, rfl, SqT.of hb, atI_nat (j := 0) rfl, rfl, ?_⟩
    have eg : decide (V.str (if isGetM p = true then "get" else "send") = V.str "get") = isGetM p := by
      cases isGetM p <;> decide +kernel
    rw [eg]
    refine ⟨fun σ' H' => ∃ U, σ' = [some (.ref a), some (.ref aS), some (.ref Fl), some (.ref Bl), some (.ref b), some (.bl (isGetM p)), some (.ref U), s7] ∧ Same H2 H' ∧ H' U = some (.tup ((usedM p).map V.str)), ?_, fun σ' H3 hm => ?_⟩
    · refine ⟨_, rfl, _, rfl, ?_⟩
      cases p with
      | send n m =>
        obtain ⟨b', zs', eb, hb', u1, w1, ew, g1, u2, w2, rfl, g2, u3, w3, rfl, g3, g4⟩ := hpa2
        cases eb
        rw [hb] at hb'
        cases hb'
        have h2 : u2 = .str n := g2
        have h3 : u3 = .str m := g3
        have h4 : w3 = [] := g4
        subst h2 h3 h4
        cases ew
        refine iteF ⟨_, rfl, 1, rfl, b, _, rfl, SqT.of hb, (fun ⟨c, _⟩ => absurd c (show ¬ HT.sIx 3 0 (some 1) = 0 by decide)), fun U nU => ⟨U, rfl, same_new nU, upd_same⟩⟩
      | get n x q =>
        obtain ⟨b', zs', eb, hb', u1, w1, ew, g1, u2, w2, rfl, g2, u3, w3, rfl, g3, u4, w4, rfl, g4, g5⟩ := hpa2
        cases eb
        rw [hb] at hb'
        cases hb'
        have h2 : u2 = .str n := g2
        have h3 : u3 = .str x := g3
        have h5 : w4 = [] := g5
        subst h2 h3 h5
        cases ew
        refine iteT ⟨_, rfl, 1, rfl, 2, rfl, b, _, rfl, SqT.of hb, (fun ⟨c, _⟩ => absurd c (show ¬ HT.sIx 4 0 (some 1) = 0 by decide)), fun U nU => ⟨U, rfl, same_new nU, upd_same⟩⟩
    · obtain ⟨U, rfl, sm3, hU⟩ := hm
      have hF3 := sm3 _ _ hF1
      have hB3 := sm3 _ _ hB1
      have hS3 := sm3 _ _ hS2
      have hpa3 := thM_tup (STup.of sm3) p _ hpa2
      have lus := used_len p
      refine ⟨_, rfl, .inl ⟨rfl, _, SqL.of hF3⟩, ?_⟩
      refine ⟨_, rfl, U, rfl, ⟨_, SqT.of hU⟩, fun D nD => ?_⟩
      refine lc_it (walk_tup (xs := (usedM p).map V.str)) (fun j H'' => Same H3 H'' ∧ H'' D = some (.lst ((fltM S ((usedM p).take j)).map V.str))) ⟨same_new nD, upd_same⟩ (fun j H'' _ hP => SqT.of (hP.1 _ _ hU)) (fun j y H14 H15 hj hP hY => ?_) (fun H14 hP => ?_)
      · obtain ⟨rfl, hy⟩ := hY
        obtain ⟨sm4, hD⟩ := hP
        rw [List.getElem?_map] at hy
        obtain ⟨x, hx, rfl⟩ := Option.map_eq_some_iff.mp hy
        have fl := flt_len S ((usedM p).take j)
        rw [List.length_take] at fl
        refine ⟨rfl, _, rfl, _, rfl, aS, _, rfl, .inr (SqT.of (sm4 _ _ hS3)), rfl, Wk.flat_strs S, _, rfl, ite2 (fun e => ?_) (fun e => ?_)⟩
        · have e : x ∉ S := by
            have z : (!inV (.str x) (S.map V.str)) = true := e
            rw [inV_strs] at z
            simpa using z
          refine ⟨_, rfl, _, hD, by rw [List.length_map]; exact small1000 (by omega), fun c o q => by rw [upd_ne (ne_of_none q nD)]; exact sm4 _ _ q, ?_⟩
          rw [upd_same, fltM_take S hx, if_neg e, List.map_append]
          rfl
        · have e : x ∈ S := by
            have z : ¬ (!inV (.str x) (S.map V.str)) = true := e
            rw [inV_strs] at z
            simpa using z
          refine ⟨sm4, ?_⟩
          rw [fltM_take S hx, if_pos e, List.append_nil]
          exact hD
      · obtain ⟨sm4, hD⟩ := hP
        rw [List.length_map, List.take_length] at hD
        have hF4 := sm4 _ _ hF3
        have hB4 := sm4 _ _ hB3
        have fl := flt_len S (usedM p)
        refine ⟨Fl, D, _, _, rfl, rfl, hF4, hD, small (by rw [List.length_map, List.length_map, List.length_append]; omega), ?_⟩
        have nFB : Fl ≠ Bl := hne
        have hF5 : upd H14 Fl (.lst ((fs ++ frMs S (r.take i)).map V.str ++ (fltM S (usedM p)).map V.str)) Fl = some (.lst ((fs ++ frMs S (r.take i) ++ fltM S (usedM p)).map V.str)) := by
          rw [upd_same, List.map_append (l₁ := fs ++ frMs S (r.take i))]
        have hB5 : upd H14 Fl (.lst ((fs ++ frMs S (r.take i)).map V.str ++ (fltM S (usedM p)).map V.str)) Bl = some (.lst ((bs ++ bdMs (r.take i)).map V.str)) := by
          rw [upd_ne (Ne.symm nFB)]; exact hB4
        have sm5 : Sam2 Fl Bl H (upd H14 Fl (.lst ((fs ++ frMs S (r.take i)).map V.str ++ (fltM S (usedM p)).map V.str))) := sm.trans (fun c o n1 n2 e => by rw [upd_ne n1]; exact sm4 _ _ (sm3 _ _ e))
        have hS5 := sm5.tup hF hB _ _ hS
        have hpa5 := thM_tup (sm5.tup hF hB) p _ hpa
        generalize upd H14 Fl (.lst ((fs ++ frMs S (r.take i)).map V.str ++ (fltM S (usedM p)).map V.str)) = H5 at *
        have efr : frMs S (r.take i ++ [p]) = frMs S (r.take i) ++ frM S p := by
          rw [frMs_app, show frMs S [p] = frM S p ++ [] from rfl, List.append_nil]
        have ebd : bdMs (r.take i ++ [p]) = bdMs (r.take i) ++ bdM p := by
          rw [bdMs_app, show bdMs [p] = bdM p ++ [] from rfl, List.append_nil]
        refine ⟨_, rfl, _, rfl, ?_⟩
        cases p with
        | send n m =>
          refine iteF ⟨sm5, ?_, ?_, _, _, _, _, rfl⟩
          · rw [tk, efr, ← List.append_assoc]
            exact hF5
          · rw [tk, ebd, show bdM (.send n m) = [] from rfl, List.append_nil]
            exact hB5
        | get n x q' =>
          obtain ⟨b', zs', eb, hb', u1, w1, ew, g1, u2, w2, rfl, g2, u3, w3, rfl, g3, u4, w4, rfl, g4, g5⟩ := hpa5
          cases eb
          cases ew
          have h2 : u2 = .str n := g2
          have h3 : u3 = .str x := g3
          have h5 : w4 = [] := g5
          subst h2 h3 h5
          refine iteT ?_
          refine ⟨_, rfl, .inl ⟨rfl, _, SqL.of hB5⟩, _, rfl, b, _, 2, _, rfl, rfl, SqT.of hb', atI_nat (j := 2) rfl, Bl, _, _, rfl, rfl, hB5, by rw [List.length_map, List.length_append]; exact small1000 (by omega), ?_⟩
          have eB6 : (bs ++ bdMs (r.take i)).map V.str ++ [V.str x] = (bs ++ bdMs (r.take i) ++ [x]).map V.str := by
            rw [List.map_append (l₁ := bs ++ bdMs (r.take i))]
            rfl
          rw [eB6]
          have nbB : b ≠ Bl := fun z => by rw [z, hB5] at hb'; cases hb'
          have nSB : aS ≠ Bl := fun z => by rw [z, hB5] at hS5; cases hS5
          have hb6 := (upd_ne (o := HO.lst ((bs ++ bdMs (r.take i) ++ [x]).map V.str)) nbB).trans hb'
          have hS6 := (upd_ne (o := HO.lst ((bs ++ bdMs (r.take i) ++ [x]).map V.str)) nSB).trans hS5
          have hF6 := (upd_ne (o := HO.lst ((bs ++ bdMs (r.take i) ++ [x]).map V.str)) hne).trans hF5
          have hB6 : upd H5 Bl (.lst ((bs ++ bdMs (r.take i) ++ [x]).map V.str)) Bl = some (.lst ((bs ++ bdMs (r.take i) ++ [x]).map V.str)) := upd_same
          have sm6 : Sam2 Fl Bl H (upd H5 Bl (.lst ((bs ++ bdMs (r.take i) ++ [x]).map V.str))) := sm5.trans (fun c o n1 n2 e => by rw [upd_ne n2]; exact e)
          have g46 : ThAt (upd H5 Bl (.lst ((bs ++ bdMs (r.take i) ++ [x]).map V.str))) (thMR q') u4 := thMR_tup (STup.lst hB5) g4
          generalize upd H5 Bl (.lst ((bs ++ bdMs (r.take i) ++ [x]).map V.str)) = H6 at *
          refine ⟨_, rfl, b, _, 3, _, rfl, rfl, SqT.of hb6, atI_nat (j := 3) rfl, _, rfl, aS, _, rfl, SqT.of hS6, _, rfl, b, _, 2, _, rfl, rfl, SqT.of hb6, atI_nat (j := 2) rfl, by rw [List.length_append, List.length_map]; exact small (show S.length + 1 ≤ 1000 by omega), fun t nt => ?_⟩
          have eS : S.map V.str ++ [V.str x] = (S ++ [x]).map V.str := by rw [List.map_append]; rfl
          rw [eS]
          refine ⟨_, rfl, _, rfl, u4, q', t, Fl, Bl, S ++ [x], fs ++ frMs S (r.take i) ++ fltM S [n], bs ++ bdMs (r.take i) ++ [x], rfl, thMR_tup (STup.new nt) g46, upd_same, kn hF6 nt, kn hB6 nt, hne, ?_, ?_, ?_, ?_, fun H7 sm7 hF7 hB7 => ?_⟩
          · have : deepM (.get n x q') = deepMs q' + 1 := rfl
            omega
          · have : sizeM (.get n x q') = sizeMs q' + 1 := rfl
            have fl1 : (fltM S [n]).length ≤ 1 := flt_len S [n]
            rw [List.length_append, List.length_append]
            omega
          · have : sizeM (.get n x q') = sizeMs q' + 1 := rfl
            rw [List.length_append, List.length_append, List.length_singleton]
            omega
          · have : deepM (.get n x q') = deepMs q' + 1 := rfl
            rw [List.length_append, List.length_singleton]
            omega
          · refine ⟨sm6.trans ((Sam2.of (same_new nt)).trans sm7), ?_, ?_, _, _, _, _, rfl⟩
            · rw [tk, efr, hF7, show frM S (.get n x q') = fltM S [n] ++ frMs (S ++ [x]) q' from rfl]
              simp only [List.append_assoc]
            · rw [tk, ebd, hB7, show bdM (.get n x q') = [x] ++ bdMs q' from rfl]
              simp only [List.append_assoc]
  · obtain ⟨sm, hF1, hB1, s4, s5, s6, s7, rfl⟩ := hP
    rw [lx, List.take_length] at hF1 hB1
    exact q H' sm hF1 hB1
theorem mgather_none {f : Addr} {fd : FuncData} {k : Nat} : FnOk P w K mg base CX0 k f fd ps4m (spGatherM 0) := by
  have no : ∀ vs H Q E, ¬ spGatherM 0 vs H Q E := fun vs H Q E h => by
    obtain ⟨_, _, _, _, _, _, _, _, _, _, _, _, _, _, h1, _⟩ := h
    omega
  exact ⟨fun vs H Q E h => absurd h (no vs H Q E), fun A outer s H args us vs Q E _ _ _ _ h => absurd h (no vs H Q E)⟩
theorem mgather_ok {f : Addr} {fd : FuncData} (F : Fun K "gather_mail_callings" "gather_mail_callings" sMGather f fd)
    (bF : Binds K fd ps4m []) (mF : mg "gather_mail_callings" = some (.ref f)) : ∀ n : Nat, FnOk P w K mg base CX0 (n + 1) f fd ps4m (spGatherM n)
  | 0 => mgather_none
  | n + 1 => ok_mgather F (mgather_ok F bF mF n) bF mF
theorem ok_mcallings {f fG : Addr} {fd fdG : FuncData} {n : Nat} (F : Fun K "mail_callings" "mail_callings" sMCallings f fd)
    (G : FnOk P w K mg base CX0 (n + 1) fG fdG ps4m (spGatherM n)) (bG : Binds K fdG ps4m []) (kG : PySem.W.keepIn K (.ref fG) = true) (mG : mg "gather_mail_callings" = some (.ref fG)) : FnOk P w K mg base CX0 (n + 1 + 1) f fd ["mail"] (spCallingsM n) := by
  refine F.ok scMCallings (fun vs H Q E h => ?_) (fun cdv A outer s H vs Q E hr h => ?_)
  · obtain ⟨_, _, rfl, _⟩ := h
    rfl
  obtain ⟨v, r, rfl, hR, hd, hs, hd2, q⟩ := h
  refine ⟨_, pss_cons (ps_set (i := 1) scMCallings.nd rfl (.inl rfl) (pe_lst pa_nil)) (pss_cons (ps_set (i := 2) scMCallings.nd rfl (.inl rfl) (pe_lst pa_nil))
    (pss_cons (ps_expr (pe_call G hr (by rfl) mG kG bG .nil pass0 (pa_cons (pv 0) (pa_cons (pe_tup pa_nil) (pa_cons (pv 1) (pa_cons (pv 2) pa_nil))))))
    (pss_one (ps_ret (pe_tup (pa_cons (pv 1) (pa_cons (pv 2) pa_nil))))))), ?_⟩
  refine ⟨(show 0 ≤ sizeLine by decide), fun Fl nF => ?_⟩
  refine ⟨(show 0 ≤ sizeLine by decide), fun Bl nB => ?_⟩
  have hne : Fl ≠ Bl := fun z => by rw [← z, upd_same] at nB; cases nB
  have nB0 : H Bl = none := by rw [← nB, upd_ne (Ne.symm hne)]
  refine ⟨_, rfl, (show 0 ≤ sizeLine by decide), fun t nt => ?_⟩
  have k3 : ∀ b o, H b = some o → upd (upd (upd H Fl (.lst [])) Bl (.lst [])) t (.tup []) b = some o := fun b o e => kn (kn (kn e nF) nB) nt
  refine ⟨_, rfl, _, rfl, v, r, t, Fl, Bl, [], [], [], rfl, thMR_tup (fun a xs e => k3 a _ e) hR, upd_same, kn (kn upd_same nB) nt, kn upd_same nt, hne, hd, by show 2 * sizeMs r + 0 ≤ 1000; omega, by show sizeMs r + 0 ≤ 1000; omega, by simpa using hd2, fun H' sm hF hB => ?_⟩
  refine ⟨_, rfl, _, rfl, (show 2 ≤ sizeLine by decide), fun u nu => ?_⟩
  refine q _ u Fl Bl (fun b o e => kn (sm b o (fun z => by rw [z, nF] at e; cases e) (fun z => by rw [z, nB0] at e; cases e) (k3 b o e)) nu) nF nB0 hne upd_same (kn hF nu) (kn hB nu)
end
end K54

set_option Elab.async false
set_option linter.all false
set_option maxRecDepth 100000
set_option maxHeartbeats 4000000
namespace K54
open PySem PySem.Spec PyProof.Rows L2 Wk GxR
abbrev sBinds : Stmt := topS 10
theorem scBinds : FnScope ["free", "bound"] ["free", "bound"] (defScope sBinds) := ⟨rfl, rfl, rfl, by decide +kernel, rfl, by decide +kernel, by decide +kernel⟩
abbrev sMail : Stmt := topS 17
abbrev sMNames : Stmt := topS 21
abbrev nmMl : List Str := ["thing", "parts", "free", "bound", "part"]
theorem scMail : FnScope nmMl ["thing"] (defScope sMail) := ⟨rfl, rfl, rfl, by decide +kernel, rfl, by decide +kernel, by decide +kernel⟩
theorem scMNames : FnScope ["mail", "free", "bound"] ["mail"] (defScope sMNames) := ⟨rfl, rfl, rfl, by decide +kernel, rfl, by decide +kernel, by decide +kernel⟩
section
variable {P : Program} {w : World} {K : PySem.W.Frag} {mg : Str → Option Value} {base : Heap} {T : Addr} {Ts : List Addr}
theorem ok_binds {f : Addr} {fd : FuncData} {k : Nat} (F : Fun K "binds_well" "binds_well" sBinds f fd) (ml : mg "len" = none) (ms : mg "set" = none) :
    FnOk P w K mg base CX0 (k + 1) f fd ["free", "bound"] (spBinds Ts) := by
  refine F.ok scBinds (fun vs H Q E h => ?_) (fun cdv A outer s H vs Q E hr h => ?_)
  · obtain ⟨_, _, _, _, rfl, _⟩ := h
    rfl
  obtain ⟨Fl, Bl, fs, bs, rfl, hF, hB, lf, lb, tg, q⟩ := h
  refine ⟨_, pss_one (ps_ret (pe_and (pe_cmpR op_eq (pe_callB cr_lenTx (by rfl) ml PySem.boot_len (pa_cons (pe_callTy (cr_setTx rfl) (by rfl) ms (by decide +kernel) (pa_cons (pv 1) pa_nil)) pa_nil)) (pe_callB call_len_seq (by rfl) ml PySem.boot_len (pa_cons (pv 1) pa_nil)) (nomark _))
      (pe_one (pe_cmpR op_eq (pe_callB cr_lenTx (by rfl) ml PySem.boot_len (pa_cons (pe_op op_andTx (pe_callTy (cr_setTx rfl) (by rfl) ms (by decide +kernel) (pa_cons (pv 1) pa_nil)) (pe_callTy (cr_setTx rfl) (by rfl) ms (by decide +kernel) (pa_cons (pv 0) pa_nil))) pa_nil)) pe_int (nomark _))))), ?_⟩
  have eb : scanBound = 4096 := rfl
  have st2 := SamTs.refl tg
  refine ⟨_, rfl, Bl, bs, rfl, SqL.of hB, by omega, fun p L np nd hm hL => ?_⟩
  refine ⟨p, L, rfl, upd_same, ?_⟩
  refine ⟨_, rfl, Bl, _, rfl, .inl (SqL.of (kn hB np)), rfl, _, rfl, ?_⟩
  have st3 := st2.new (o := TxO P w p L) np
  have el : decide (V.int (L.length : Nat) = V.int ((bs.map V.str).length : Nat)) = decide (L.length = bs.length) := by
    rw [List.length_map]
    by_cases e : L.length = bs.length
    · rw [e, decide_eq_true rfl, decide_eq_true rfl]
    · rw [decide_eq_false e, decide_eq_false (by intro h; exact e (by have := V.int.inj h; omega))]
  rw [el]
  by_cases c2 : L.length = bs.length
  rotate_left
  · refine iteD (decide_eq_false c2) (q _ false st3 ⟨(fun e => by cases e), fun ⟨hn, _⟩ => absurd ?_ c2⟩)
    exact Nat.le_antisymm (sub_len L bs nd fun x hx => (hm x).mp hx) (sub_len bs L hn fun x hx => (hm x).mpr hx)
  refine iteU (decide_eq_true c2) ?_
  have bnd : bs.Nodup := nodup_of_len nd (fun x hx => (hm x).mpr hx) c2 (fun x hx => (hm x).mp hx)
  refine ⟨_, rfl, Bl, bs, rfl, SqL.of (kn hB np), by omega, fun p1 L1 np1 nd1 hm1 _ => ?_⟩
  have st4 := st3.new (o := TxO P w p1 L1) np1
  refine ⟨_, rfl, Fl, fs, rfl, SqL.of (kn (kn hF np) np1), by omega, fun p2 L2' np2 nd2 hm2 _ => ?_⟩
  have st5 := st4.new (o := TxO P w p2 L2') np2
  have n12 : p1 ≠ p2 := fun z => by
    rw [← z] at np2
    have u : upd (upd H p (TxO P w p L)) p1 (TxO P w p1 L1) p1 = some (TxO P w p1 L1) := upd_same
    rw [show upd (upd H p (TxO P w p L)) p1 (TxO P w p1 L1) p1 = none from np2] at u
    cases u
  have l1 := sub_len L1 bs nd1 fun x hx => (hm1 x).mp hx
  have l2 := sub_len L2' fs nd2 fun x hx => (hm2 x).mp hx
  refine ⟨p1, p2, L1, L2', rfl, rfl, n12, kn upd_same np2, upd_same, by omega, by omega, fun p3 L3 np3 nd3 hm3 => ?_⟩
  refine ⟨p3, L3, rfl, upd_same, rfl, ?_⟩
  refine q _ _ (st5.new np3) ⟨fun e => ⟨bnd, fun x hb hf => ?_⟩, fun ⟨_, ap⟩ => ?_⟩
  · have e0 : L3.length = 0 := by
      have := V.int.inj (of_decide_eq_true e)
      omega
    have e1 := List.length_eq_zero_iff.mp e0
    have hx := (hm3 x).mpr ⟨(hm1 x).mpr hb, (hm2 x).mpr hf⟩
    rw [e1] at hx
    cases hx
  · have e3 : L3 = [] := by
      cases L3 with
      | nil => rfl
      | cons x l =>
        obtain ⟨g1, g2⟩ := (hm3 x).mp List.mem_cons_self
        exact absurd ((hm2 x).mp g2) (ap x ((hm1 x).mp g1))
    rw [e3]
    exact decide_eq_true rfl
theorem ok_mnames {f fC : Addr} {fd fdC : FuncData} {n k : Nat} (F : Fun K "mail_names" "mail_names" sMNames f fd) (ms : mg "set" = none) (mo : mg "sorted" = none)
    (G : FnOk P w K mg base CX0 k fC fdC ["mail"] (spCallingsM n)) (bC : Binds K fdC ["mail"] []) (kC : PySem.W.keepIn K (.ref fC) = true) (mC : mg "mail_callings" = some (.ref fC)) : FnOk P w K mg base CX0 (k + 1) f fd ["mail"] (spMNames n) := by
  refine F.ok scMNames (fun vs H Q E h => ?_) (fun cdv A outer s H vs Q E hr h => ?_)
  · obtain ⟨_, _, rfl, _⟩ := h
    rfl
  obtain ⟨v, r, rfl, hR, hd, hs, hd2, q⟩ := h
  refine ⟨_, pss_cons (ps_asg (pe_call G hr (by rfl) mC kC bC .nil pass0 (pa_cons (pv 0) pa_nil)) (pg_tup rfl (pgs_cons (pg_name (i := 1) scMNames.nd rfl (.inl rfl)) (pgs_cons (pg_name (i := 2) scMNames.nd rfl (.inl rfl)) pgs_nil))))
    (pss_one (ps_ret (pe_callB (cr_sortedTx rfl) (by rfl) mo (by decide +kernel) (pa_cons (pe_callTy (cr_setTx rfl) (by rfl) ms (by decide +kernel) (pa_cons (pv 1) pa_nil)) pa_nil)))), ?_⟩
  have lf := fr_sizeMs r []
  refine ⟨_, rfl, v, r, rfl, hR, hd, by omega, hd2, fun H1 t Fl Bl sm nF nB hne ht hF hB => ?_⟩
  refine ⟨t, _, rfl, SqT.of ht, rfl, _, _, rfl, _, _, rfl, rfl, ?_⟩
  have ln : (frMs [] r).length + 1 < scanBound := by
    have e : scanBound = 4096 := rfl
    omega
  refine ⟨_, rfl, Fl, frMs [] r, rfl, SqL.of hF, ln, fun p L np nd hm _ => ?_⟩
  have l64 : L.length < 64 := by
    have := sub_len L (frMs [] r) nd fun x hx => (hm x).mp hx
    omega
  refine ⟨p, L, rfl, upd_same, l64, fun ys u pm so nu => ?_⟩
  have sm2 : Same H (upd (upd H1 p (TxO P w p L)) u (.lst (ys.map V.str))) := fun b o e => kn (kn (sm b o e) np) nu
  refine q _ u ys sm2 ?_ (pm.nodup_iff.mpr nd) (fun x => by rw [pm.mem_iff, hm x]) so upd_same
  cases e : H u with
  | none => rfl
  | some o => rw [kn (sm u o e) np] at nu; cases nu
theorem ok_ismail {f fS fC fB fN fR : Addr} {fd fdS fdC fdB : FuncData} {t4 t20 t10 : Tok} (F : Fun K "is_mail" "is_mail" sMail f fd)
    (mD : mg "MOST_MAIL_DEEP" = some (.int 4 t4)) (mP : mg "MOST_MAIL_PARTS" = some (.int 20 t20)) (mG : mg "MOST_GETS" = some (.int 10 t10)) (ml : mg "len" = none) (mN : mg "is_mail_part" = some (.ref fN)) (mR : mg "mail_rest" = some (.ref fR))
    (GS : FnOk P w K mg base CX0 7 fS fdS psW (spWithinQ Ts mpB rstM 20 4 fN fR)) (bS : Binds K fdS psW []) (kS : PySem.W.keepIn K (.ref fS) = true) (mS : mg "parts_within" = some (.ref fS))
    (GB : FnOk P w K mg base CX0 1 fB fdB ["free", "bound"] (spBinds Ts)) (bB : Binds K fdB ["free", "bound"] []) (kB : PySem.W.keepIn K (.ref fB) = true) (mB : mg "binds_well" = some (.ref fB))
    (GC : FnOk P w K mg base CX0 7 fC fdC ["mail"] (spCallingsM 5)) (bC : Binds K fdC ["mail"] []) (kC : PySem.W.keepIn K (.ref fC) = true) (mC : mg "mail_callings" = some (.ref fC)) :
    FnOk P w K mg base CX0 8 f fd ["thing"] (spMail Ts) := by
  refine F.ok scMail (fun vs H Q E h => ?_) (fun cdv A outer s H vs Q E hr h => ?_)
  · obtain ⟨_, _, rfl, _⟩ := h
    rfl
  obtain ⟨v, t, rfl, ht, ok, tg, q⟩ := h
  refine ⟨_, pss_cons (ps_set (i := 1) scMail.nd rfl (.inl rfl) (pe_call GS hr (by rfl) mS kS bS .nil pass0 (pa_cons (pv 0) (pa_cons (pe_glob (v := .int 20) (by rfl) mP ⟨_, rfl⟩) (pa_cons (pe_glob (v := .int 4) (by rfl) mD ⟨_, rfl⟩) (pa_cons (pe_glob (v := .ref fN) (by rfl) mN rfl) (pa_cons (pe_glob (v := .ref fR) (by rfl) mR rfl) pa_nil)))))))
    (pss_cons (ps_if (PW.pt (pw_or (pt_cmpR op_isN (pv 1) pe_non (nomark _)) (pw_or1 (pt_cmpR op_gt (pe_callB call_len_seq (by rfl) ml PySem.boot_len (pa_cons
        (pe_lc (own := [("part", 4)]) (g := gName 4) (tt := tTest (tOp rEq (tOp (rIxT K) (tVar 4) (tC (.int 0))) (tC (.str "get")))) (te := tVar 4) (by rfl) scMail.nd (pi_list (pv 1))
          (blkOk_by (own := [("part", 4)]) (N := nmMl) (sc := defScope sMail) (by decide +kernel)) (fun _ _ _ _ _ => pg_name (i := 4) scMail.nd rfl (Or.inl rfl)) (fun _ _ _ _ _ => pts_one (pt_cmpR op_eq (pe_ix ix_tup (pv 4) pe_int (fun _ _ => rfl)) pe_str (nomark _))) (fun _ _ _ _ _ => pv 4)) pa_nil))
        (pe_glob (v := .int 10) (by rfl) mG ⟨_, rfl⟩) (nomark _))))) (pss_one (ps_ret pe_bl)) pss_nil)
    (pss_cons (ps_asg (pe_call GC hr (by rfl) mC kC bC .nil pass0 (pa_cons (pv 0) pa_nil)) (pg_tup rfl (pgs_cons (pg_name (i := 2) scMail.nd rfl (.inl rfl)) (pgs_cons (pg_name (i := 3) scMail.nd rfl (.inl rfl)) pgs_nil))))
    (pss_one (ps_ret (pe_call GB (hr.mono (by decide)) (by rfl) mB kB bB .nil pass0 (pa_cons (pv 2) (pa_cons (pv 3) pa_nil))))))), ?_⟩
  refine ⟨_, rfl, v, t, rfl, ht, ok, tg, fun c' H1 st1 => ?_, fun c H1 a tv st1 na ha htv => ?_⟩
  · refine ⟨_, rfl, rfl, _, rfl, iteT (q H1 false st1 ⟨(fun e => by cases e), fun ⟨r, e, hh⟩ => ?_⟩)⟩
    have c := (mail_iff (t := t)).mpr ⟨r, e, hh.ok, hh.size, hh.deep⟩
    rw [c'] at c
    cases c
  refine ⟨_, rfl, rfl, _, rfl, iteF ?_⟩
  obtain ⟨r, rfl, hok, hsz, hdp⟩ := mail_iff.mp c
  have inj : ∀ r', thMR r = thMR r' → MailR r' → MailR r := fun r' e hh => by rw [thMR_inj e]; exact hh
  have eall : allQ rstM 5 [thMR r] = (allM 5 [r]).map thM := allQ_rows 5 [r]
  have eg : getsM (allM 5 [r]) = (bdMs r).length := (allM_gets 5 [r] (by show max (deepMs r) 0 < 5; omega)).trans (by show (bdMs r).length + 0 = _; omega)
  have el : (allM 5 [r]).length = sizeMs r := (allM_len 5 [r] (by show max (deepMs r) 0 < 5; omega)).trans (by show sizeMs r + 0 = _; omega)
  rw [eall, ← thMs_map] at htv
  generalize allM 5 [r] = ps at *
  have ltv : tv.length = ps.length := (ThsAt.len htv).trans (thMs_len ps)
  refine ⟨_, rfl, a, rfl, ⟨_, SqL.of ha⟩, fun D nD => ?_⟩
  refine lc_it (walk_list (xs := tv)) (fun j H'' => Same H1 H'' ∧ ∃ ws, H'' D = some (.lst ws) ∧ ws.length = getsM (ps.take j)) ⟨same_new nD, [], upd_same, rfl⟩ (fun j H'' _ hP => SqL.of (hP.1 _ _ ha)) (fun j y H14 H15 hj hP hY => ?_) (fun H14 hP => ?_)
  · obtain ⟨rfl, hy⟩ := hY
    obtain ⟨sm, ws, hD, lw⟩ := hP
    obtain ⟨p, hp, hpa⟩ := thMs_get htv hy
    have hpa2 := thM_tup ((st1.tup tg).trans (STup.of sm)) p _ hpa
    have gl : getsM (ps.take j) ≤ 20 := by
      refine Nat.le_trans (List.length_filter_le _ _) ?_
      rw [List.length_take]
      omega
    obtain ⟨b, zs, rfl, hb, e0⟩ : ∃ b zs, y = .ref b ∧ H15 b = some (.tup zs) ∧ ∃ zr, zs = .str (if isGetM p = true then "get" else "send") :: zr := by
      cases p with
      | send n m =>
        obtain ⟨b, zs, rfl, hb, u, us, rfl, hu, _⟩ := hpa2
        exact ⟨b, _, rfl, hb, us, by rw [show u = V.str "send" from hu]; rfl⟩
      | get n x q =>
        obtain ⟨b, zs, rfl, hb, u, us, rfl, hu, _⟩ := hpa2
        exact ⟨b, _, rfl, hb, us, by rw [show u = V.str "get" from hu]; rfl⟩
    obtain ⟨zr, rfl⟩ := e0
    have egp : decide (V.str (if isGetM p = true then "get" else "send") = V.str "get") = isGetM p := by
      cases isGetM p <;> decide +kernel
    refine ⟨rfl, _, rfl, b, _, 0, _, rfl, rfl, SqT.of hb, atI_nat (j := 0) rfl, rfl, _, rfl, ?_⟩
    rw [egp]
    refine ite2 (fun e => ?_) (fun e => ?_)
    · refine ⟨_, rfl, ws, hD, small1000 (by omega), fun c o q => by rw [upd_ne (ne_of_none q nD)]; exact sm _ _ q, _, upd_same, ?_⟩
      rw [List.length_append, lw, getsM_take hp, if_pos e]
      rfl
    · refine ⟨sm, ws, hD, ?_⟩
      rw [lw, getsM_take hp, if_neg e]
      rfl
  obtain ⟨sm, ws, hD, lw⟩ := hP
  rw [ltv, List.take_length, eg] at lw
  have st2 := st1.sm sm
  refine ⟨D, ws, rfl, .inl (SqL.of hD), _, _, rfl, rfl, _, rfl, ?_⟩
  by_cases cg : (bdMs r).length ≤ 10
  rotate_left
  · refine iteU (decide_eq_true (by show (10 : Int) < (ws.length : Nat); omega)) (q H14 false st2 ⟨(fun e => by cases e), fun ⟨r', e', hh⟩ => ?_⟩)
    exact absurd (inj r' e' hh).gets cg
  refine iteD (decide_eq_false (by show ¬ (10 : Int) < (ws.length : Nat); omega)) ?_
  have hR : ThAt H14 (thMR r) v := thMR_tup ((st1.tup tg).trans (STup.of sm)) ht
  refine ⟨_, rfl, v, r, rfl, hR, by omega, by omega, by omega, fun H2 t2 Fl Bl sm2 nF nB hne ht2 hF hB => ?_⟩
  refine ⟨t2, _, rfl, SqT.of ht2, rfl, _, _, rfl, _, _, rfl, rfl, ?_⟩
  have lf := fr_sizeMs r []
  have lb := bd_sizeMs r
  have st3 := st2.sm sm2
  refine ⟨_, rfl, _, rfl, Fl, Bl, frMs [] r, bdMs r, rfl, hF, hB, by omega, by omega, st3.2, fun H3 b st4 e => q H3 b (st3.trans st4) ⟨fun hb => ?_, fun ⟨r', e', hh⟩ => ?_⟩⟩
  · obtain ⟨bnd, ap⟩ := e.mp hb
    exact ⟨r, rfl, hok, hsz, hdp, cg, bnd, ap⟩
  · have hh' := inj r' e' hh
    exact e.mpr ⟨hh'.nd, hh'.apart⟩
end
end K54

set_option Elab.async false
set_option linter.all false
set_option maxRecDepth 100000
set_option maxHeartbeats 2000000
namespace K54
open PySem PySem.Spec PyProof.Rows L2 Wk
abbrev sLeft : Stmt := topS 25
abbrev sDigit : Stmt := topS 26
theorem scLeft : FnScope ["_law_cell", "_law_left_here", "_law_number", "_law_turn"] ["_law_cell"] (defScope sLeft) := ⟨rfl, rfl, rfl, by decide +kernel, rfl, by decide +kernel, by decide +kernel⟩
theorem scDigit : FnScope ["_law_left_here", "_law_many", "_law_found"] ["_law_left_here", "_law_many"] (defScope sDigit) := ⟨rfl, rfl, rfl, by decide +kernel, rfl, by decide +kernel, by decide +kernel⟩
section
variable {P : Program} {w : World} {K : PySem.W.Frag} {mg : Str → Option Value} {base : Heap}
/-! ### _law_left: a new list of one number -/
theorem ok_left {f : Addr} {fd : FuncData} {k : Nat} (F : Fun K "_law_left" "_law_left" sLeft f fd) (ma : mg "abs" = none) (mr : mg "range" = none) : FnOk P w K mg base CX0 (k + 1) f fd ["_law_cell"] spLeft := by
  refine F.ok scLeft (fun vs H Q E h => ?_) (fun cdv A outer s H vs Q E hr h => ?_)
  · obtain ⟨v, rfl, _⟩ := h
    rfl
  obtain ⟨c, rfl, q⟩ := h
  refine ⟨_, pss_cons (ps_set (i := 1) scLeft.nd rfl (.inl rfl) (pe_callB call_abs (by rfl) ma (by decide +kernel) (pa_cons (pv 0) pa_nil)))
    (pss_cons (ps_if (pt_cmpR op_lt (pv 1) (pe_op op_pow pe_int pe_int) (nomark _))
      (pss_cons (ps_set (i := 2) scLeft.nd rfl (.inl rfl) (pv 0))
      (pss_one (ps_for PassesOwn.never rfl (pi_range1 rfl mr (pa_cons pe_int pa_nil)) (pg_name (i := 3) scLeft.nd rfl (.inl rfl))
        (pss_cons (ps_set (i := 2) scLeft.nd rfl (.inl rfl) (pe_op op_mod (pe_op op_mul (pe_op op_add (pe_op op_mod (pv 2) pe_int) pe_int) pe_int) pe_int))
        (pss_cons (ps_set (i := 2) scLeft.nd rfl (.inl rfl) (pe_op op_add (pe_op op_mod (pe_op op_mul (pv 2) pe_int) pe_int) (pv 3)))
        (pss_one (ps_set (i := 1) scLeft.nd rfl (.inl rfl) (pe_op op_add (pe_op op_mul (pv 1) pe_int) (pv 2))))))))) pss_nil)
    (pss_one (ps_ret (pe_lst (pa_cons (pv 1) pa_nil))))), ?_⟩
  have one_le : (1 : Nat) ≤ sizeLine := by decide
  refine ⟨_, rfl, c, rfl, _, rfl, _, _, rfl, rfl, by unfold CPow; decide, _, _, rfl, rfl, _, rfl, ite2 (fun h => ?_) (fun h => ?_)⟩
  · refine ⟨_, rfl, 40, rfl, by decide, by decide, for_range (n := 40) (lo := 0) (fun _ σ H' => H' = H ∧ ∃ a d : Option V, ∃ i j : Int, σ = [a, some (.int i), some (.int j), d]) ⟨rfl, _, _, _, _, rfl⟩ (fun i σ H' hi hP => ?_) fun σ H' hP => ?_⟩
    · obtain ⟨rfl, a, d, x, y, rfl⟩ := hP
      refine ⟨_, rfl, _, _, rfl, rfl, pos1, _, _, rfl, rfl, _, _, rfl, rfl, .inr ⟨by decide, by decide⟩, _, _, rfl, rfl, pos1, ?_⟩
      refine ⟨_, rfl, _, _, rfl, rfl, .inr ⟨by decide, by decide⟩, _, _, rfl, rfl, pos2, _, rfl, _, _, rfl, rfl, ?_⟩
      refine ⟨_, rfl, _, _, rfl, rfl, .inr ⟨by decide, by decide⟩, _, rfl, _, _, rfl, rfl, ?_⟩
      exact ⟨rfl, _, _, _, _, rfl⟩
    · obtain ⟨rfl, a, d, x, y, rfl⟩ := hP
      exact ⟨_, rfl, one_le, fun p np => q p _ np⟩
  · exact ⟨_, rfl, one_le, fun p np => q p _ np⟩
/-! ### _law_digit -/
theorem ok_digit {f : Addr} {fd : FuncData} {k : Nat} (F : Fun K "_law_digit" "_law_digit" sDigit f fd) : FnOk P w K mg base CX0 (k + 1) f fd ["_law_left_here", "_law_many"] spDigit := by
  refine F.ok scDigit (fun vs H Q E h => ?_) (fun cdv A outer s H vs Q E hr h => ?_)
  · obtain ⟨L, n, m, rfl, _⟩ := h
    rfl
  obtain ⟨L, n, m, rfl, hL, h0, h1, q⟩ := h
  refine ⟨_, pss_cons (ps_set (i := 2) scDigit.nd rfl (.inl rfl) (pe_op op_mod (pe_ix ix_list (pv 0) pe_int (fun _ _ => rfl)) (pv 1)))
    (pss_cons (ps_asg (pe_op op_fdiv (pe_ix ix_list (pv 0) pe_int (fun _ _ => rfl)) (pv 1)) (pg_sub (pv 0) pe_int set_list))
    (pss_one (ps_ret (pv 2)))), ?_⟩
  refine ⟨_, rfl, L, _, 0, _, rfl, rfl, SqL.of hL, atI_nat (j := 0) rfl, _, rfl, _, _, rfl, rfl, h0, ?_⟩
  refine ⟨_, rfl, L, _, 0, _, rfl, rfl, SqL.of hL, atI_nat (j := 0) rfl, _, rfl, _, _, rfl, rfl, ⟨h0, h1⟩, ?_⟩
  refine ⟨_, rfl, L, _, 0, 0, rfl, rfl, hL, rfl, ?_⟩
  exact ⟨_, rfl, q _ _ (Int.emod_nonneg n (by omega)) (Int.emod_lt_of_pos n h0)⟩
end
end K54

set_option Elab.async false
set_option linter.all false
set_option maxRecDepth 100000
set_option maxHeartbeats 4000000
namespace K54
open PySem PySem.Spec PyProof.Rows L2 Wk
abbrev sMNm : Stmt := topS 29
abbrev sMDP : Stmt := topS 27
abbrev sMDR : Stmt := topS 28
theorem scMNm : FnScope ["_law_left_here", "_law_many", "_law_letters", "_law_start", "_law_found", "_law_k", "_law_word", "_law_j"] ["_law_left_here", "_law_many"] (defScope sMNm) := ⟨rfl, rfl, rfl, by decide +kernel, rfl, by decide +kernel, by decide +kernel⟩
abbrev ps4 : List Str := ["_law_left_here", "_law_room", "_law_scope", "_law_spare"]
theorem scMDP : FnScope ["_law_left_here", "_law_room", "_law_scope", "_law_spare", "_law_one", "_law_other", "_law_own"] ps4 (defScope sMDP) := ⟨rfl, rfl, rfl, by decide +kernel, rfl, by decide +kernel, by decide +kernel⟩
abbrev nmMDR : List Str := ["_law_left_here", "_law_room", "_law_scope", "_law_spare", "_law_k"]
theorem scMDR : FnScope nmMDR ps4 (defScope sMDR) := ⟨rfl, rfl, rfl, by decide +kernel, rfl, by decide +kernel, by decide +kernel⟩
section
variable {P : Program} {w : World} {K : PySem.W.Frag} {mg : Str → Option Value} {base : Heap}
theorem ok_mnm {f fD : Addr} {fd fdD : FuncData} (F : Fun K "_law_mail_names" "_law_mail_names" sMNm f fd) (GD : FnOk P w K mg base CX0 1 fD fdD ["_law_left_here", "_law_many"] spDigit) (bD : Binds K fdD ["_law_left_here", "_law_many"] []) (kD : PySem.W.keepIn K (.ref fD) = true)
    (mD : mg "_law_digit" = some (.ref fD)) (mr : mg "range" = none) : FnOk P w K mg base CX0 2 f fd ["_law_left_here", "_law_many"] spMNm := by
  refine F.ok scMNm (fun vs H Q E h => ?_) (fun cdv A outer s H vs Q E hr h => ?_)
  · obtain ⟨L, n, m, rfl, _⟩ := h
    rfl
  obtain ⟨L, n, m, rfl, hL, hm, q⟩ := h
  refine ⟨_, pss_cons (ps_set (i := 2) scMNm.nd rfl (.inl rfl) pe_str)
    (pss_cons (ps_set (i := 3) scMNm.nd rfl (.inl rfl) (pe_call GD hr (by rfl) mD kD bD .nil pass0 (pa_cons (pv 0) (pa_cons pe_int pa_nil))))
    (pss_cons (ps_set (i := 4) scMNm.nd rfl (.inl rfl) (pe_lst pa_nil))
    (pss_cons (ps_for PassesOwn.never rfl (pi_range1 rfl mr (pa_cons (pv 1) pa_nil)) (pg_name (i := 5) scMNm.nd rfl (.inl rfl))
        (pss_cons (ps_set (i := 6) scMNm.nd rfl (.inl rfl) (pe_ix ix_str (pv 2) (pe_op op_mod (pe_op op_add (pv 3) (pe_op op_mul pe_int (pv 5))) pe_int) (fun _ _ => rfl)))
        (pss_cons (ps_for PassesOwn.never rfl (pi_range1 rfl mr (pa_cons (pe_call GD hr (by rfl) mD kD bD .nil pass0 (pa_cons (pv 0) (pa_cons pe_int pa_nil))) pa_nil)) (pg_name (i := 7) scMNm.nd rfl (.inl rfl))
          (pss_one (ps_set (i := 6) scMNm.nd rfl (.inl rfl) (pe_op op_add_str (pv 6) (pe_ix ix_str pe_str (pe_call GD hr (by rfl) mD kD bD .nil pass0 (pa_cons (pv 0) (pa_cons pe_int pa_nil))) (fun _ _ => rfl))))))
        (pss_one (ps_expr (pe_bm PySem.F.plainAttrs_list PySem.F.slot_list_append PySem.F.type_list_append mt_append (pv 4) (pa_cons (pv 6) pa_nil)))))))
    (pss_one (ps_ret (pv 4)))))), ?_⟩
  refine ⟨_, rfl, L, n, 25, rfl, hL, by decide, by decide, fun st n1 st0 st1 => ?_⟩
  refine ⟨(show 0 ≤ sizeLine by decide), fun p np => ?_⟩
  have pL : p ≠ L := fun e => by
    rw [e, upd_same] at np
    cases np
  have nH : H p = none := by rw [upd_ne pL] at np; exact np
  have x1 : StL L H (upd (upd H L (.lst [.int n1])) p (.lst [])) := (StL.put n1).trans (StL.new upd_same np)
  refine ⟨_, rfl, (m : Int), rfl, by omega, by omega, for_range (n := m) (lo := 0) (fun i σ H' => StL L H H' ∧ ∃ zs : List Str, H' p = some (.lst (zs.map V.str)) ∧ zs.length = i ∧ (∀ j z, zs[j]? = some z → MNameOf ((st.toNat + 4 * j) % 25) z) ∧
      ∃ s5 s6 s7 : Option V, σ = [some (.ref L), some (.int m), some (.str abd), some (.int st), some (.ref p), s5, s6, s7]) ⟨x1, [], upd_same, rfl, fun j z e => (by simp at e), _, _, _, rfl⟩ (fun i σ H' hi hP => ?_) fun σ H' hP => ?_⟩
  · obtain ⟨x2, zs, hp, hl, hn, s5, s6, s7, rfl⟩ := hP
    have ei : (st + 4 * (0 + (i : Int))) % 25 = (((st.toNat + 4 * i) % 25 : Nat) : Int) := by omega
    refine ⟨_, rfl, _, rfl, _, rfl, _, _, rfl, rfl, .inl ⟨by decide, by decide⟩, _, _, rfl, rfl, _, _, rfl, rfl, (show (0 : Int) < 25 by decide), ?_⟩
    refine ⟨abd, _, 97 + (st.toNat + 4 * i) % 25, rfl, rfl, by decide +kernel, by rw [ei]; exact atI_nat (abd_at _ (Nat.mod_lt _ (by decide))), ?_⟩
    obtain ⟨n2, hn2⟩ := x2.2
    refine ⟨_, rfl, L, n2, 4, rfl, hn2, by decide, by decide, fun d n3 d0 d1 => ?_⟩
    have x3 := x2.trans (StL.put (H := H') (L := L) n3)
    have hp3 : upd H' L (.lst [.int n3]) p = some (.lst (zs.map V.str)) := by rw [upd_ne pL]; exact hp
    refine ⟨d, rfl, Int.le_trans (by decide) d0, Int.lt_of_lt_of_le d1 (by decide), for_range (n := d.toNat) (lo := 0) (fun j σ H' => StL L H H' ∧ H' p = some (.lst (zs.map V.str)) ∧ ∃ (z : Str) (r : List Nat), z.cps.toList = (97 + (st.toNat + 4 * i) % 25) :: r ∧ r.length = j ∧ (∀ c ∈ r, c ∈ vow.cps.toList) ∧
      ∃ s5 s7 : Option V, σ = [some (.ref L), some (.int m), some (.str abd), some (.int st), some (.ref p), s5, some (.str z), s7]) ⟨x3, hp3, _, [], rfl, rfl, fun c hc => (nomatch hc), _, _, rfl⟩ (fun j σ H' hj hP => ?_) fun σ H' hP => ?_⟩
    · obtain ⟨x4, hp4, z, r, ez, hr1, hv, s5, s7, rfl⟩ := hP
      obtain ⟨n4, hn4⟩ := x4.2
      refine ⟨_, rfl, _, rfl, L, n4, 8, rfl, hn4, by decide, by decide, fun g n5 g0 g1 => ?_⟩
      obtain ⟨c, hc, hat, _⟩ := atX_lt (l := vow.cps.toList) g0 (by rw [vow_len]; exact g1)
      refine ⟨vow, g, c, rfl, rfl, by decide +kernel, hat, z, _, rfl, rfl, ?_, ?_⟩
      · have hz : z.length = r.length + 1 := by
          show z.cps.size = _
          rw [← Array.length_toList, ez, List.length_cons]
        exact small (by rw [hz]; show r.length + 1 + 1 ≤ 1000; omega)
      · refine ⟨x4.trans (StL.put n5), by rw [upd_ne pL]; exact hp4, _, r ++ [c], ?_, ?_, ?_, _, _, rfl⟩
        · rw [app_codes, ez, List.cons_append]
        · rw [List.length_append, hr1]
          rfl
        · intro e he
          rcases List.mem_append.mp he with u | u
          · exact hv e u
          · rw [List.mem_singleton.mp u]
            exact hc
    · obtain ⟨x4, hp4, z, r, ez, hr1, hv, s5, s7, rfl⟩ := hP
      refine ⟨_, rfl, .inl ⟨rfl, _, SqL.of hp4⟩, _, rfl, p, _, _, rfl, rfl, hp4, by rw [List.length_map]; exact small1000 (by omega), ?_⟩
      obtain ⟨n4, hn4⟩ := x4.2
      refine ⟨⟨fun b o nb e => ?_, n4, by rw [upd_ne (Ne.symm pL)]; exact hn4⟩, zs ++ [z], by rw [upd_same, List.map_append]; rfl, by rw [List.length_append, hl]; rfl, fun j y hy => ?_, _, _, _, rfl⟩
      · rw [upd_ne (ne_of_none e nH)]
        exact x4.1 b o nb e
      · by_cases hj : j < zs.length
        · rw [List.getElem?_append_left hj] at hy
          exact hn j y hy
        · have ej : j = i := by
            have := (List.getElem?_eq_some_iff.mp hy).1
            rw [List.length_append, List.length_singleton] at this
            omega
          rw [List.getElem?_append_right (by omega), show j - zs.length = 0 by omega] at hy
          rw [← Option.some.inj (show some z = some y from hy), ej]
          exact ⟨r, ez, by omega, hv⟩
  · obtain ⟨x2, zs, hp, hl, hn, s5, s6, s7, rfl⟩ := hP
    exact ⟨_, rfl, q H' p st.toNat zs x2 nH hp hl (by omega) hn⟩
theorem ok_mdp {f fD fR : Addr} {fd fdD fdR : FuncData} {n : Nat} (F : Fun K "_law_mail_part" "_law_mail_part" sMDP f fd) (GD : FnOk P w K mg base CX0 1 fD fdD ["_law_left_here", "_law_many"] spDigit) (bD : Binds K fdD ["_law_left_here", "_law_many"] []) (kD : PySem.W.keepIn K (.ref fD) = true)
    (mD : mg "_law_digit" = some (.ref fD)) (ml : mg "len" = none) (Gr : FnOk P w K mg base CX0 (2 * n + 1) fR fdR ps4 (spMRow n)) (bR : Binds K fdR ps4 []) (kR : PySem.W.keepIn K (.ref fR) = true) (mR : mg "_law_mail_row" = some (.ref fR)) :
    FnOk P w K mg base CX0 (2 * n + 1 + 1) f fd ps4 (spMP n) := by
  refine F.ok scMDP (fun vs H Q E h => ?_) (fun cdv A outer s H vs Q E hr h => ?_)
  · obtain ⟨_, _, _, _, _, _, _, ⟨rfl, _⟩, _⟩ := h
    rfl
  obtain ⟨L, S, A0, nL, m, ss, sp, ⟨rfl, hL, hS, hA, hAL, hAS, hne, hlen, hsh⟩, hmn, q⟩ := h
  have hr1 : Room 1 _ := hr.mono (by omega)
  refine ⟨_, pss_cons (ps_set (i := 4) scMDP.nd rfl (.inl rfl) (pe_ix ix_list (pv 2) (pe_call GD hr1 (by rfl) mD kD bD .nil pass0 (pa_cons (pv 0) (pa_cons (pe_callB call_len_seq (by rfl) ml PySem.boot_len (pa_cons (pv 2) pa_nil)) pa_nil))) (fun _ _ => rfl)))
    (pss_cons (ps_set (i := 5) scMDP.nd rfl (.inl rfl) (pe_ix ix_list (pv 2) (pe_call GD hr1 (by rfl) mD kD bD .nil pass0 (pa_cons (pv 0) (pa_cons (pe_callB call_len_seq (by rfl) ml PySem.boot_len (pa_cons (pv 2) pa_nil)) pa_nil))) (fun _ _ => rfl)))
    (pss_cons (ps_if (PW.pt (pw_or (pt_cmpR op_lt (pv 1) pe_int (nomark _)) (pw_or (pt_cmpR (op_eqD hr.units) (pv 3) (pe_lst pa_nil) (nomark _)) (pw_or1 (pt_cmpR op_eq (pe_call GD hr1 (by rfl) mD kD bD .nil pass0 (pa_cons (pv 0) (pa_cons pe_int pa_nil))) pe_int (nomark _)))))) (pss_one (ps_ret (pe_tup (pa_cons pe_str (pa_cons (pv 4) (pa_cons (pv 5) pa_nil)))))) pss_nil)
    (pss_cons (ps_set (i := 6) scMDP.nd rfl (.inl rfl) (pe_bm0 PySem.F.plainAttrs_list PySem.F.slot_list_pop PySem.F.type_list_pop mt_pop (pv 3)))
    (pss_one (ps_ret (pe_tup (pa_cons pe_str (pa_cons (pv 4) (pa_cons (pv 6) (pa_cons
        (pe_call Gr hr (by rfl) mR kR bR .nil pass0 (pa_cons (pv 0) (pa_cons (pe_op op_sub (pv 1) pe_int) (pa_cons (pe_op op_cat (pv 2) (pe_lst (pa_cons (pv 6) (pa_cons (pv 6) pa_nil)))) (pa_cons (pv 3) pa_nil))))) pa_nil)))))))))), ?_⟩
  have hss : 0 < ss.length := List.length_pos_iff.mpr hne
  refine ⟨_, rfl, _, rfl, _, rfl, A0, _, rfl, .inl (SqL.of hA), L, nL, _, rfl, hL, by rw [List.length_map]; omega, by rw [List.length_map]; omega, fun d0 n1 d00 d01 => ?_⟩
  have x1 := (StG.refl hL hS).put n1
  have hA1 := x1.1 _ _ hAL hAS hA
  obtain ⟨v, hv, hat, _⟩ := atX_lt (l := ss.map V.str) d00 d01
  obtain ⟨one, hone, rfl⟩ := List.mem_map.mp hv
  refine ⟨A0, _, d0, _, rfl, rfl, SqL.of hA1, hat, ?_⟩
  refine ⟨_, rfl, _, rfl, _, rfl, A0, _, rfl, .inl (SqL.of hA1), L, n1, _, rfl, upd_same, by rw [List.length_map]; omega, by rw [List.length_map]; omega, fun d n2 d0 d1 => ?_⟩
  have x2 := x1.put n2
  have hA2 := x2.1 _ _ hAL hAS hA
  obtain ⟨v, hv, hat, _⟩ := atX_lt (l := ss.map V.str) d0 d1
  obtain ⟨oth, hoth, rfl⟩ := List.mem_map.mp hv
  refine ⟨A0, _, d, _, rfl, rfl, SqL.of hA2, hat, ?_⟩
  generalize upd (upd H L (.lst [.int n1])) L (.lst [.int n2]) = H2 at *
  have sendIt : ∀ (H3 : Hp) (p : Addr), StG L S H H3 sp → H3 p = none → Q (.ref p) (upd H3 p (.tup [.str "send", .str one, .str oth])) :=
    fun H3 p x3 np => q _ _ sp (.send one oth) (x3.new np) ⟨p, _, rfl, upd_same, _, _, rfl, rfl, _, _, rfl, rfl, _, _, rfl, rfl, rfl⟩ (MGP.send hone hoth)
  refine ⟨_, rfl, _, _, rfl, rfl, _, rfl, ite2 (fun h0 => ?_) (fun h0 => ?_)⟩
  · exact iteT ⟨_, rfl, _, rfl, (show 3 ≤ sizeLine by decide), fun p np => sendIt _ p x2 np⟩
  obtain ⟨m', rfl⟩ : ∃ m', m = m' + 1 := by
    cases m with
    | zero => exact absurd (decide_eq_true (by decide)) h0
    | succ m' => exact ⟨m', rfl⟩
  have em : (((m' + 1 : Nat) : Int) - 1) = (m' : Int) := by omega
  refine ⟨_, rfl, (show 0 ≤ sizeLine by decide), fun e ne => ?_⟩
  have x3 := x2.new (o := .lst []) ne
  refine ⟨.list (sp.map PyData.str), .list [], .lst (SqL.of x3.2.2) (strs_dp sp), .lst (SqL.of upd_same) .nil, strs_shaped (fun z hz => (hsh z hz).ok), nil_shaped, _, rfl, ?_⟩
  rw [eqv_nil]
  rcases List.eq_nil_or_concat sp with rfl | ⟨sp1, own, rfl⟩
  · exact iteT (iteT ⟨_, rfl, _, rfl, (show 3 ≤ sizeLine by decide), fun p np => sendIt _ p x3 np⟩)
  rw [List.concat_eq_append] at *
  have ee : (List.map PyData.str (sp1 ++ [own])).isEmpty = false := by
    rw [List.map_append]
    cases sp1 <;> rfl
  rw [ee]
  refine iteF ?_
  obtain ⟨n3, hn3⟩ := x3.2.1
  refine ⟨_, rfl, L, n3, 2, rfl, hn3, by decide, by decide, fun d n4 d0 d1 => ?_⟩
  have x4 := x3.put n4
  generalize upd (upd H2 e (.lst [])) L (.lst [.int n4]) = H4 at *
  refine ⟨rfl, _, rfl, ite2 (fun h0 => ?_) (fun h0 => ?_)⟩
  · exact ⟨_, rfl, _, rfl, (show 3 ≤ sizeLine by decide), fun p np => sendIt _ p x4 np⟩
  have em1 : (sp1 ++ [own]).map V.str = sp1.map V.str ++ [.str own] := by rw [List.map_append]; rfl
  have hS4 := x4.2.2
  rw [em1] at hS4
  refine ⟨_, rfl, .inl ⟨rfl, _, SqL.of hS4⟩, S, _, .str own, rfl, rfl, hS4, ?_, ?_⟩
  · rw [List.length_append, List.length_singleton, Nat.add_sub_cancel, List.getElem?_append_right (Nat.le_refl _), Nat.sub_self]
    rfl
  rw [List.dropLast_concat]
  have x5 := x4.pop (sp1 := sp1)
  generalize upd H4 S (.lst (sp1.map V.str)) = H5 at *
  refine ⟨_, rfl, _, rfl, _, rfl, _, rfl, _, _, rfl, rfl, _, rfl, _, rfl, _, rfl, (show 2 ≤ sizeLine by decide), fun l2 nl2 => ?_⟩
  have x6 := x5.new (o := .lst [.str own, .str own]) nl2
  have hA6 := x6.1 _ _ hAL hAS hA
  refine ⟨A0, l2, _, _, rfl, rfl, hA6, upd_same, small (by rw [List.length_map]; show ss.length + 2 ≤ 1000; omega), fun A1 nA1 => ?_⟩
  have x7 := x6.new (o := .lst (ss.map V.str ++ [.str own, .str own])) nA1
  obtain ⟨n7, hn7⟩ := x7.2.1
  obtain ⟨n6, hn6⟩ := x6.2.1
  refine ⟨_, rfl, L, S, A1, n7, m', ss ++ [own, own], sp1, ⟨congrArg (fun t : Int => [V.ref L, V.int t, V.ref A1, V.ref S]) em, hn7, x7.2.2, by rw [upd_same, List.map_append]; rfl, Ne.symm (ne_of_none hn6 nA1), Ne.symm (ne_of_none x6.2.2 nA1),
    by simp, by rw [List.length_append]; show ss.length + 2 + 2 * m' ≤ 1000; omega, fun z hz => hsh z (List.mem_append_left _ hz)⟩, by omega, fun H8 v sp' r x8 hR hG => ?_⟩
  refine ⟨(show 4 ≤ sizeLine by decide), fun t nt => ?_⟩
  exact q _ _ sp' (.get one own r) ((x7.trans x8).new nt) ⟨t, _, rfl, upd_same, _, _, rfl, rfl, _, _, rfl, rfl, _, _, rfl, rfl, _, _, rfl, thMR_tup (STup.new nt) hR, rfl⟩ (MGP.get hone hG)
theorem ok_mdr {f fD fP : Addr} {fd fdD fdP : FuncData} {n : Nat} (F : Fun K "_law_mail_row" "_law_mail_row" sMDR f fd) (GD : FnOk P w K mg base CX0 1 fD fdD ["_law_left_here", "_law_many"] spDigit) (bD : Binds K fdD ["_law_left_here", "_law_many"] []) (kD : PySem.W.keepIn K (.ref fD) = true)
    (mD : mg "_law_digit" = some (.ref fD)) (mt : mg "tuple" = none) (mr : mg "range" = none) (Gp : FnOk P w K mg base CX0 (2 * n + 2) fP fdP ps4 (spMP n)) (bP : Binds K fdP ps4 []) (kP : PySem.W.keepIn K (.ref fP) = true) (mP : mg "_law_mail_part" = some (.ref fP)) :
    FnOk P w K mg base CX0 (2 * n + 2 + 1) f fd ps4 (spMRow (n + 1)) := by
  refine F.ok scMDR (fun vs H Q E h => ?_) (fun cdv A outer s H vs Q E hr h => ?_)
  · obtain ⟨_, _, _, _, _, _, _, ⟨rfl, _⟩, _⟩ := h
    rfl
  obtain ⟨L, S, A0, nL, m, ss, sp, ⟨rfl, hL, hS, hA, hAL, hAS, hne, hlen, hsh⟩, hmn, q⟩ := h
  have hr1 : Room 1 _ := hr.mono (by omega)
  refine ⟨_, pss_one (ps_ret (pe_callTy call_tuple_of (by rfl) mt (by decide +kernel) (pa_cons (pe_lc (own := [("_law_k", 4)]) (g := gName 4) (tt := tYes) (by rfl) scMDR.nd (pi_range1 rfl mr (pa_cons (pe_call GD hr1 (by rfl) mD kD bD .nil pass0 (pa_cons (pv 0) (pa_cons pe_int pa_nil))) pa_nil))
        (blkOk_by (own := [("_law_k", 4)]) (N := nmMDR) (sc := defScope sMDR) (by decide +kernel)) (fun _ _ _ _ _ => pg_name (i := 4) scMDR.nd rfl (Or.inl rfl)) (fun _ _ _ _ _ => pts_nil)
        (fun _ _ _ _ _ => pe_call Gp hr (by rfl) mP kP bP .nil pass0 (pa_cons (pv 0) (pa_cons (pv 1) (pa_cons (pv 2) (pa_cons (pv 3) pa_nil)))))) pa_nil))), ?_⟩
  refine ⟨_, rfl, L, nL, 3, rfl, hL, by decide, by decide, fun d n2 d0 d1 => ?_⟩
  have x2 := (StG.refl hL hS).put n2
  refine ⟨d, rfl, Int.le_trans (by decide) d0, Int.lt_trans d1 (by decide), fun D nD => ?_⟩
  have nH : H D = none := x2.none nD hL hS
  have DL : D ≠ L := Ne.symm (ne_of_none hL nH)
  have DS : D ≠ S := Ne.symm (ne_of_none hS nH)
  refine lc_range (lo := 0) (n := d.toNat) (fun i H' => ∃ (sp' : List Str) (r : List MP) (vs : List V), StG L S H H' sp' ∧ H' D = some (.lst vs) ∧ ThsAt H' (thMs r) vs ∧ MGR m i ss sp sp' r ∧ vs.length = i)
    ⟨sp, [], [], x2.new nD, upd_same, rfl, MGR.nil, rfl⟩ (fun i H' hi hP => ?_) fun H' hP => ?_
  · obtain ⟨sp', r, vs, x3, hD, hps, hG, hl⟩ := hP
    obtain ⟨n3, hn3⟩ := x3.2.1
    refine ⟨rfl, yes (iteT ?_)⟩
    refine ⟨_, rfl, _, rfl, _, rfl, _, rfl, L, S, A0, n3, m, ss, sp', ⟨rfl, hn3, x3.2.2, x3.1 _ _ hAL hAS hA, hAL, hAS, hne, hlen, fun z hz => hsh z (by rw [hG.bd]; exact List.mem_append_left _ hz)⟩, by omega, fun H4 v sp2 p x4 hp hg => ?_⟩
    have hD4 := x4.1 _ _ DL DS hD
    have st4 : STup H' H4 := x4.tup hn3 x3.2.2
    have st5 : STup H4 (upd H4 D (.lst (vs ++ [v]))) := STup.lst hD4
    have ea : thMs (r ++ [p]) = thMs r ++ [thM p] := by rw [thMs_map, thMs_map, List.map_append]; rfl
    refine ⟨vs, hD4, by rw [hl]; exact small1000 (by omega), sp2, r ++ [p], vs ++ [v], ?_, upd_same, by rw [ea]; exact ThsAt.app (ThsAt.one (thM_tup st5 p v hp)) (thMs_tup (st4.trans st5) r vs hps), hG.snoc hg, by rw [List.length_append, hl]; rfl⟩
    have x5 := x3.trans x4
    obtain ⟨n5, hn5⟩ := x5.2.1
    refine ⟨fun b o nb nc e => ?_, ⟨n5, by rw [upd_ne (Ne.symm DL)]; exact hn5⟩, by rw [upd_ne (Ne.symm DS)]; exact x5.2.2⟩
    rw [upd_ne (ne_of_none e nH)]
    exact x5.1 b o nb nc e
  · obtain ⟨sp', r, vs, x3, hD, hps, hG, hl⟩ := hP
    refine ⟨D, vs, rfl, .inl ⟨SqL.of hD, fun t nt => ?_⟩⟩
    exact q _ _ sp' r (x3.new nt) ⟨t, vs, rfl, upd_same, thMs_tup (STup.new nt) r vs hps⟩ (hG.up (by omega))
theorem mnone_left {f : Addr} {fd : FuncData} {k : Nat} : FnOk P w K mg base CX0 k f fd ps4 (spMRow 0) := by
  have no : ∀ vs H Q E, ¬ spMRow 0 vs H Q E := fun vs H Q E h => by
    obtain ⟨_, _, _, _, _, _, _, _, h1, _⟩ := h
    omega
  exact ⟨fun vs H Q E h => absurd h (no vs H Q E), fun A outer s H args us vs Q E _ _ _ _ h => absurd h (no vs H Q E)⟩
theorem mrows_ok {fD fP fR : Addr} {fdD fdP fdR : FuncData} (FP : Fun K "_law_mail_part" "_law_mail_part" sMDP fP fdP) (FR : Fun K "_law_mail_row" "_law_mail_row" sMDR fR fdR) (GD : FnOk P w K mg base CX0 1 fD fdD ["_law_left_here", "_law_many"] spDigit) (bD : Binds K fdD ["_law_left_here", "_law_many"] []) (kD : PySem.W.keepIn K (.ref fD) = true)
    (mD : mg "_law_digit" = some (.ref fD)) (ml : mg "len" = none) (mt : mg "tuple" = none) (mr : mg "range" = none) (bR : Binds K fdR ps4 []) (mR : mg "_law_mail_row" = some (.ref fR)) (bP : Binds K fdP ps4 []) (mP : mg "_law_mail_part" = some (.ref fP)) :
    ∀ n : Nat, FnOk P w K mg base CX0 (2 * n + 1) fR fdR ps4 (spMRow n)
  | 0 => mnone_left
  | n + 1 => ok_mdr FR GD bD kD mD mt mr (ok_mdp FP GD bD kD mD ml (mrows_ok FP FR GD bD kD mD ml mt mr bR mR bP mP n) bR FR.kp mR) bP FP.kp mP
end
end K54

set_option Elab.async false
set_option linter.all false
set_option maxRecDepth 100000
set_option maxHeartbeats 4000000
namespace K54
open PySem PySem.Spec PyProof.Rows L2 Wk GxR
abbrev sMSz : Stmt := topS 31
abbrev sMD : Stmt := topS 30
theorem scMSz : FnScope ["_law_mail_here", "_law_found", "_law_part"] ["_law_mail_here"] (defScope sMSz) := ⟨rfl, rfl, rfl, by decide +kernel, rfl, by decide +kernel, by decide +kernel⟩
theorem scMD : FnScope ["_law_left_here", "_law_names", "_law_mail_here", "_law_spare", "_law_scope", "_law_turn", "_law_more"] ["_law_left_here", "_law_names"] (defScope sMD) := ⟨rfl, rfl, rfl, by decide +kernel, rfl, by decide +kernel, by decide +kernel⟩
section
variable {P : Program} {w : World} {K : PySem.W.Frag} {mg : Str → Option Value} {base : Heap}
theorem ok_msz {f : Addr} {fd : FuncData} {n : Nat} (F : Fun K "_law_mail_size" "_law_mail_size" sMSz f fd)
    (G : FnOk P w K mg base CX0 (n + 1) f fd ["_law_mail_here"] (spMSize n)) (bF : Binds K fd ["_law_mail_here"] []) (mF : mg "_law_mail_size" = some (.ref f)) : FnOk P w K mg base CX0 (n + 1 + 1) f fd ["_law_mail_here"] (spMSize (n + 1)) := by
  refine F.ok scMSz (fun vs H Q E h => ?_) (fun cdv A outer s H vs Q E hr h => ?_)
  · obtain ⟨_, _, rfl, _⟩ := h
    rfl
  obtain ⟨v, r, rfl, hR, hd, q⟩ := h
  refine ⟨_, pss_cons (ps_set (i := 1) scMSz.nd rfl (.inl rfl) pe_int)
    (pss_cons (ps_for PassesOwn.never rfl (pi_tup (pv 0)) (pg_name (i := 2) scMSz.nd rfl (.inl rfl))
      (pss_cons (ps_set (i := 1) scMSz.nd rfl (.inl rfl) (pe_op op_add (pv 1) pe_int))
      (pss_one (ps_if (pt_cmpR op_eq (pe_ix ix_tup (pv 2) pe_int (fun _ _ => rfl)) pe_str (nomark _))
        (pss_one (ps_set (i := 1) scMSz.nd rfl (.inl rfl) (pe_op op_add (pv 1) (pe_call G hr (by rfl) mF F.kp bF .nil pass0 (pa_cons (pe_ix ix_tup (pv 2) pe_int (fun _ _ => rfl)) pa_nil))))) pss_nil))))
    (pss_one (ps_ret (pv 1)))), ?_⟩
  obtain ⟨a, xs, rfl, ha, hps⟩ := hR
  have lx : xs.length = r.length := (ThsAt.len hps).trans (thMs_len r)
  refine ⟨_, rfl, a, rfl, ⟨_, SqT.of ha⟩, for_it (walk_tup (xs := xs)) (fun i σ H' => H' = H ∧ ∃ s2 : Option V, σ = [some (.ref a), some (.int (sizeMs (r.take i) : Nat)), s2])
    ⟨rfl, _, rfl⟩ (fun i σ H' _ hP => by rw [hP.1]; exact SqT.of ha) (fun i y σ H1 H2 hi hP hY => ?_) (fun σ H' hP => ?_)⟩
  · obtain ⟨e2, hy⟩ := hY
    obtain ⟨e1, s2, rfl⟩ := hP
    rw [e1] at e2
    subst e2
    clear e1
    obtain ⟨p, hp, hpa⟩ := thMs_get hps hy
    have tk : r.take (i + 1) = r.take i ++ [p] := by rw [List.take_add_one, hp]; rfl
    have ez : sizeMs (r.take (i + 1)) = sizeMs (r.take i) + sizeM p := by
      rw [tk, sizeMs_app, show sizeMs [p] = sizeM p + 0 from rfl]
      omega
    have d1 := deepMs.mem p (List.mem_of_getElem? hp)
    refine ⟨_, rfl, _, _, rfl, rfl, ?_⟩
    cases p with
    | send n m =>
      obtain ⟨b, zs, rfl, hb, u, us, rfl, hu, _⟩ := hpa
      have e : u = .str "send" := hu
      subst e
      refine ⟨_, rfl, b, _, 0, _, rfl, rfl, SqT.of hb, atI_nat (j := 0) rfl, rfl, _, rfl, iteD (by decide +kernel) ⟨rfl, some (.ref b), ?_⟩⟩
      have e3 : ((sizeMs (r.take i) : Nat) : Int) + 1 = ((sizeMs (r.take (i + 1)) : Nat) : Int) := by
        rw [ez, show sizeM (.send n m) = 1 from rfl]
        omega
      rw [← e3]
      rfl
    | get n x q' =>
      obtain ⟨b, zs, rfl, hb, u, us, rfl, hu, u2, us2, rfl, _, u3, us3, rfl, _, u4, us4, rfl, h4, _⟩ := hpa
      have e : u = .str "get" := hu
      subst e
      have d2 : deepM (.get n x q') = deepMs q' + 1 := rfl
      refine ⟨_, rfl, b, _, 0, _, rfl, rfl, SqT.of hb, atI_nat (j := 0) rfl, rfl, _, rfl, iteU (by decide +kernel) ?_⟩
      refine ⟨_, rfl, _, rfl, b, _, 3, _, rfl, rfl, SqT.of hb, atI_nat (j := 3) rfl, u4, q', rfl, h4, by omega, _, _, rfl, rfl, rfl, some (.ref b), ?_⟩
      have e3 : ((sizeMs (r.take i) : Nat) : Int) + 1 + (sizeMs q' : Nat) = ((sizeMs (r.take (i + 1)) : Nat) : Int) := by
        rw [ez, show sizeM (.get n x q') = sizeMs q' + 1 from rfl]
        omega
      rw [← e3]
      rfl
  · obtain ⟨rfl, s2, rfl⟩ := hP
    rw [lx, List.take_length]
    exact ⟨_, rfl, q⟩
theorem msz_none {f : Addr} {fd : FuncData} {k : Nat} : FnOk P w K mg base CX0 k f fd ["_law_mail_here"] (spMSize 0) := by
  have no : ∀ vs H Q E, ¬ spMSize 0 vs H Q E := fun vs H Q E h => by
    obtain ⟨_, _, _, _, h1, _⟩ := h
    omega
  exact ⟨fun vs H Q E h => absurd h (no vs H Q E), fun A outer s H args us vs Q E _ _ _ _ h => absurd h (no vs H Q E)⟩
theorem msz_ok {f : Addr} {fd : FuncData} (F : Fun K "_law_mail_size" "_law_mail_size" sMSz f fd)
    (bF : Binds K fd ["_law_mail_here"] []) (mF : mg "_law_mail_size" = some (.ref f)) : ∀ n : Nat, FnOk P w K mg base CX0 (n + 1) f fd ["_law_mail_here"] (spMSize n)
  | 0 => msz_none
  | n + 1 => ok_msz F (msz_ok F bF mF n) bF mF
theorem ok_md {f fD fR fS : Addr} {fd fdD fdR fdS : FuncData} (F : Fun K "_law_mail" "_law_mail" sMD f fd) (GD : FnOk P w K mg base CX0 1 fD fdD ["_law_left_here", "_law_many"] spDigit) (bD : Binds K fdD ["_law_left_here", "_law_many"] []) (kD : PySem.W.keepIn K (.ref fD) = true)
    (mD : mg "_law_digit" = some (.ref fD)) (mr : mg "range" = none) (Gr : FnOk P w K mg base CX0 9 fR fdR ps4 (spMRow 4)) (bR : Binds K fdR ps4 []) (kR : PySem.W.keepIn K (.ref fR) = true) (mR : mg "_law_mail_row" = some (.ref fR))
    (Gs : FnOk P w K mg base CX0 6 fS fdS ["_law_mail_here"] (spMSize 5)) (bS : Binds K fdS ["_law_mail_here"] []) (kS : PySem.W.keepIn K (.ref fS) = true) (mS : mg "_law_mail_size" = some (.ref fS)) :
    FnOk P w K mg base CX0 10 f fd ["_law_left_here", "_law_names"] spMailD := by
  refine F.ok scMD (fun vs H Q E h => ?_) (fun cdv A outer s H vs Q E hr h => ?_)
  · obtain ⟨_, _, _, _, rfl, _⟩ := h
    rfl
  obtain ⟨L, N, n, zs, rfl, hL, hN, hNL, lz, nz, hz, q⟩ := h
  have hr1 : Room 1 _ := hr.mono (by omega)
  refine ⟨_, pss_cons (ps_set (i := 2) scMD.nd rfl (.inl rfl) (pe_tup pa_nil))
    (pss_cons (ps_set (i := 3) scMD.nd rfl (.inl rfl) (pe_slice sl_list (pv 1) (po_some pe_int) po_none))
    (pss_cons (ps_set (i := 4) scMD.nd rfl (.inl rfl) (pe_slice sl_list (pv 1) po_none (po_some (pe_op op_add pe_int (pe_call GD hr1 (by rfl) mD kD bD .nil pass0 (pa_cons (pv 0) (pa_cons pe_int pa_nil)))))))
    (pss_cons (ps_for PassesOwn.never rfl (pi_range1 rfl mr (pa_cons (pe_op op_add pe_int (pe_call GD hr1 (by rfl) mD kD bD .nil pass0 (pa_cons (pv 0) (pa_cons pe_int pa_nil)))) pa_nil)) (pg_name (i := 5) scMD.nd rfl (.inl rfl))
      (pss_cons (ps_set (i := 6) scMD.nd rfl (.inl rfl) (pe_op op_catM (pv 2) (pe_call Gr hr (by rfl) mR kR bR .nil pass0 (pa_cons (pv 0) (pa_cons pe_int (pa_cons (pv 4) (pa_cons (pv 3) pa_nil)))))))
      (pss_one (ps_if (pt_cmpR op_lt (pe_call Gs (hr.mono (by decide)) (by rfl) mS kS bS .nil pass0 (pa_cons (pv 6) pa_nil)) pe_int (nomark _)) (pss_one (ps_set (i := 2) scMD.nd rfl (.inl rfl) (pv 6))) pss_nil))))
    (pss_one (ps_ret (pv 2)))))), ?_⟩
  refine ⟨(show 0 ≤ sizeLine by decide), fun t0 nt0 => ?_⟩
  have e4 : cutV (zs.map V.str) (some 4) none = (zs.drop 4).map V.str := cut_off (i := 4) (by omega)
  refine ⟨_, rfl, 4, rfl, N, _, rfl, SqL.of (kn hN nt0), fun S nS => ?_⟩
  rw [e4]
  have hL2 : upd (upd H t0 (.tup [])) S (.lst ((zs.drop 4).map V.str)) L = some (.lst [.int n]) := kn (kn hL nt0) nS
  have hN2 : upd (upd H t0 (.tup [])) S (.lst ((zs.drop 4).map V.str)) N = some (.lst (zs.map V.str)) := kn (kn hN nt0) nS
  have ht2 : upd (upd H t0 (.tup [])) S (.lst ((zs.drop 4).map V.str)) t0 = some (.tup []) := kn upd_same nS
  have hS2 : upd (upd H t0 (.tup [])) S (.lst ((zs.drop 4).map V.str)) S = some (.lst ((zs.drop 4).map V.str)) := upd_same
  have sm2 : Same H (upd (upd H t0 (.tup [])) S (.lst ((zs.drop 4).map V.str))) := fun b o e => kn (kn e nt0) nS
  have nSH : H S = none := by
    cases e : H S with
    | none => rfl
    | some o =>
      rw [kn e nt0] at nS
      cases nS
  generalize upd (upd H t0 (.tup [])) S (.lst ((zs.drop 4).map V.str)) = H2 at *
  have NS : N ≠ S := ne_of_none hN nSH
  refine ⟨_, rfl, _, rfl, L, n, 3, rfl, hL2, by decide, by decide, fun d n1 d0 d1 => ?_⟩
  have x1 := (StG.refl hL2 hS2).put n1
  have hN3 := x1.1 _ _ hNL NS hN2
  obtain ⟨k, ek, hk1, hk3⟩ : ∃ k : Nat, (1 : Int) + d = (k : Nat) ∧ 1 ≤ k ∧ k ≤ 3 := ⟨(1 + d).toNat, by omega, by omega, by omega⟩
  refine ⟨_, _, rfl, rfl, _, rfl, N, _, rfl, SqL.of hN3, fun A0 nA => ?_⟩
  rw [ek]
  have ek2 : cutV (zs.map V.str) none (some (k : Int)) = (zs.take k).map V.str := cut_to (k := k) (by omega)
  rw [ek2]
  have x2 := x1.new (o := .lst ((zs.take k).map V.str)) nA
  have hA2 : upd (upd H2 L (.lst [.int n1])) A0 (.lst ((zs.take k).map V.str)) A0 = some (.lst ((zs.take k).map V.str)) := upd_same
  have nA2 : H2 A0 = none := x1.none nA hL2 hS2
  have AL : A0 ≠ L := Ne.symm (ne_of_none hL2 nA2)
  have AS : A0 ≠ S := Ne.symm (ne_of_none hS2 nA2)
  have ht3 := x2.tup hL2 hS2 _ _ ht2
  generalize upd (upd H2 L (.lst [.int n1])) A0 (.lst ((zs.take k).map V.str)) = H3 at *
  obtain ⟨n3, hn3⟩ := x2.2.1
  refine ⟨_, rfl, L, n3, 3, rfl, hn3, by decide, by decide, fun d' n4 d0' d1' => ?_⟩
  have x3 := x2.put n4
  have hA3 : upd H3 L (.lst [.int n4]) A0 = some (.lst ((zs.take k).map V.str)) := by rw [upd_ne AL]; exact hA2
  have ht4 : upd H3 L (.lst [.int n4]) t0 = some (.tup []) := by rw [upd_ne (fun z => by rw [z, hn3] at ht3; cases ht3)]; exact ht3
  generalize upd H3 L (.lst [.int n4]) = H4 at *
  have dz : (zs.drop 4).length = 8 := by rw [List.length_drop]; omega
  have nzd : (zs.drop 4).Nodup := nz.sublist (List.drop_sublist _ _)
  have zd : ∀ z ∈ zs.drop 4, mnB z = true := fun z hx => (hz z (List.mem_of_mem_drop hx)).1
  have zt : ∀ z ∈ zs.take k, mnB z = true := fun z hx => (hz z (List.mem_of_mem_take hx)).1
  have dis : ∀ x ∈ zs.drop 4, x ∉ zs.take k := fun x h1 h2 => by
    have h3 : x ∈ zs.take 4 := by
      have e : zs.take k = (zs.take 4).take k := by rw [List.take_take, Nat.min_eq_left (by omega)]
      rw [e] at h2
      exact List.mem_of_mem_take h2
    have nz' := nz
    rw [← List.take_append_drop 4 zs] at nz'
    exact (List.nodup_append.mp nz').2.2 x h3 x h1 rfl
  refine ⟨_, _, rfl, rfl, _, rfl, by omega, by omega, for_range (n := (1 + d').toNat) (lo := 0) (fun i σ H' => ∃ (sp : List Str) (r : List MP) (v : V), StG L S H2 H' sp ∧ H' A0 = some (.lst ((zs.take k).map V.str)) ∧ ThAt H' (thMR r) v ∧ MDr (zs.drop 4) (zs.take k) sp r ∧
      ∃ s5 s6 : Option V, σ = [some (.ref L), some (.ref N), some v, some (.ref S), some (.ref A0), s5, s6])
    ⟨zs.drop 4, [], .ref t0, x3, hA3, ⟨t0, [], rfl, ht4, rfl⟩, MDr.none, _, _, rfl⟩ (fun i σ H' hi hP => ?_) fun σ H' hP => ?_⟩
  · obtain ⟨sp, r, v, x5, hA5, hR, hM, s5, s6, rfl⟩ := hP
    obtain ⟨n5, hn5⟩ := x5.2.1
    have spm : ∀ z ∈ sp, z ∈ zs := fun z hx => by
      obtain ⟨dn, e, _⟩ := hM.bd
      have : z ∈ zs.drop 4 := by rw [e]; exact List.mem_append_left _ hx
      exact List.mem_of_mem_drop this
    have tne : zs.take k ≠ [] := fun e => by
      have := congrArg List.length e
      rw [List.length_take, List.length_nil] at this
      omega
    refine ⟨_, rfl, _, rfl, _, rfl, _, rfl, L, S, A0, n5, 3, zs.take k, sp, ⟨rfl, hn5, x5.2.2, hA5, AL, AS, tne, by rw [List.length_take]; omega, fun z hx => (hz z (spm z hx)).2⟩, by omega, fun H6 v2 sp' r2 x6 hR2 hG => ?_⟩
    have st6 : STup H' H6 := x6.tup hn5 x5.2.2
    obtain ⟨a, us, rfl, ha, hus⟩ := thMR_tup st6 hR
    obtain ⟨b, ws, rfl, hb, hws⟩ := hR2
    have l1 := ThsAt.len hus
    have l2 := ThsAt.len hws
    rw [thMs_len] at l1 l2
    have z1 := len_sizeMs r
    have z2 := len_sizeMs r2
    have z3 := hM.size
    have z4 := hG.size
    have z5 : cntM 3 = 15 := rfl
    have ea : thMs (r ++ r2) = thMs r ++ thMs r2 := by rw [thMs_map, thMs_map, thMs_map, List.map_append]
    refine ⟨a, b, us, ws, rfl, rfl, ha, hb, by omega, fun H7 c sm7 hc => ?_⟩
    have hR7 : ThAt H7 (thMR (r ++ r2)) (.ref c) := ⟨c, _, rfl, hc, by rw [ea]; exact ThsAt.app (thMs_tup (STup.of sm7) r2 ws hws) (thMs_tup (STup.of sm7) r us hus)⟩
    have d4 := hM.deep
    have d5 := hG.deep
    refine ⟨_, rfl, .ref c, r ++ r2, rfl, hR7, by rw [deepMs_app]; omega, _, _, rfl, rfl, _, rfl, ?_⟩
    have x7 : StG L S H2 H7 sp' := by
      have x8 := x5.trans x6
      obtain ⟨n8, hn8⟩ := x8.2.1
      exact ⟨fun b o n1 n2 e => sm7 _ _ (x8.1 b o n1 n2 e), ⟨n8, sm7 _ _ hn8⟩, sm7 _ _ x8.2.2⟩
    have hA7 := sm7 _ _ (x6.1 _ _ AL AS hA5)
    refine ite2 (fun hlt => ?_) (fun hlt => ?_)
    · have hlt : ((sizeMs (r ++ r2) : Nat) : Int) < 21 := of_decide_eq_true hlt
      exact ⟨_, rfl, sp', r ++ r2, .ref c, x7, hA7, hR7, MDr.more nzd zt zd hM hG (by omega), _, _, rfl⟩
    · exact ⟨sp', r, .ref a, x7, hA7, ⟨a, us, rfl, sm7 _ _ ha, thMs_tup (STup.of sm7) r us hus⟩, hM.less hG, _, _, rfl⟩
  · obtain ⟨sp, r, v, x5, hA5, hR, hM, s5, s6, rfl⟩ := hP
    obtain ⟨n5, hn5⟩ := x5.2.1
    refine ⟨_, rfl, q H' v r ⟨fun b o nb e => x5.1 b o nb (ne_of_none e nSH) (sm2 _ _ e), n5, hn5⟩ hR (hM.mail (by omega) dis)⟩
end
end K54

set_option Elab.async false
set_option linter.all false
set_option maxRecDepth 100000
set_option maxHeartbeats 4000000
namespace K54
open PySem PySem.Spec PyProof.Rows L2 Wk GxR
abbrev sLMN : Stmt := topS 32
abbrev sLP : Stmt := topS 33
theorem scLMN : FnScope ["_law_thing", "_law_sign"] ["_law_thing"] (defScope sLMN) := ⟨rfl, rfl, rfl, by decide +kernel, rfl, by decide +kernel, by decide +kernel⟩
abbrev nmLP : List Str := ["_law_thing", "_law_room", "_law_part"]
abbrev psLP : List Str := ["_law_thing", "_law_room"]
theorem scLP : FnScope nmLP psLP (defScope sLP) := ⟨rfl, rfl, rfl, by decide +kernel, rfl, by decide +kernel, by decide +kernel⟩
section
variable {P : Program} {w : World} {K : PySem.W.Frag} {mg : Str → Option Value} {base : Heap}
theorem ok_lmname {f : Addr} {fd : FuncData} {k : Nat} (F : Fun K "_law_is_name" "_law_is_name" sLMN f fd) (mi : mg "isinstance" = none) (ms : mg "str" = none) (ml : mg "len" = none) :
    FnOk P w K mg base CX0 (k + 1) f fd ["_law_thing"] spLMName := by
  refine F.ok scLMN (fun vs H Q E h => ?_) (fun cdv A outer s H vs Q E hr h => ?_)
  · obtain ⟨_, _, rfl, _⟩ := h
    rfl
  obtain ⟨v, t, rfl, ht, ok, q⟩ := h
  refine ⟨_, pss_cons (ps_if (PW.pt (pw_or (pt_not (pt_val (pe_callB call_isi (by rfl) mi (by decide +kernel) (pa_cons (pv 0) (pa_cons (pe_bltn (v := .ty "str") (by rfl) ms (by decide +kernel) rfl) pa_nil)))))
      (pw_or (pt_not (pt_chain op_le op_le pe_int (pe_callB call_len_str (by rfl) ml PySem.boot_len (pa_cons (pv 0) pa_nil)) pe_int))
      (pw_or1 (pt_cmpR op_in_seq (pv 0) (pe_lst (pa_cons pe_str (pa_cons pe_str (pa_cons pe_str (pa_cons pe_str pa_nil))))) rfl))))) (pss_one (ps_ret pe_bl)) pss_nil)
    (pss_one (ps_ret (pe_and (pe_cmpR op_ne (pe_ix ix_str (pv 0) pe_int (fun _ _ => rfl)) pe_str (nomark _)) (pe_one (pe_cmpR (op_eqL0 hr.units) (pe_lc (own := [("_law_sign", 1)]) (g := gName 1) (by rfl) scLMN.nd (pi_str (pv 0)) (blkOk_by (own := [("_law_sign", 1)]) (N := ["_law_thing", "_law_sign"]) (sc := defScope sLMN) (by decide +kernel))
      (fun _ _ _ _ _ => pg_name (i := 1) scLMN.nd rfl (Or.inl rfl)) (fun _ _ _ _ _ => pts_one (pt_cmpR op_notIn_sign (pv 1) pe_str rfl)) (fun _ _ _ _ _ => pv 1)) (pe_lst pa_nil) (nomark _)))))), ?_⟩
  obtain ⟨ty, h1, h2, h3⟩ := ht.tyT (K := K)
  refine ⟨_, rfl, v, .ty "str", .type ty, .type "str", isStrT t, rfl, .ty "str", h1, h3, _, rfl, ?_⟩
  match t, ht, ok, q with
  | .str z, ht, ok, q =>
    have ez : v = .str z := ht
    subst ez
    have hz : z.length ≤ 1000 := ok
    refine iteF ?_
    have no : ∀ (H' : Hp), Same H H' → mnB z = false → Q (.bl false) H' := fun H' s e => by
      have q1 := q _ s
      rw [show mnT (.str z) = false from e] at q1
      exact q1
    refine ⟨.str z, rfl, z, rfl, Nat.le_of_lt (small1000 hz), 1, z.length, rfl, rfl, _, rfl, ?_⟩
    refine ite2 (fun g1 => ?_) (fun g1 => ?_)
    rotate_left
    · have g1' : ¬ 1 ≤ z.length := fun g => g1 (decide_eq_true (by omega))
      refine ⟨_, rfl, iteT (no _ (fun _ _ e => e) ?_)⟩
      unfold mnB nameB wordB
      rw [decide_eq_false g1', Bool.false_and, Bool.and_false, Bool.false_and]
    have g1' : 1 ≤ z.length := by
      have := of_decide_eq_true g1
      omega
    refine ⟨_, _, rfl, rfl, _, rfl, ite2 (fun g2 => ?_) (fun g2 => ?_)⟩
    · have g2' : ¬ z.length ≤ 4 := fun g => by
        rw [decide_eq_true (show ((z.length : Nat) : Int) ≤ 4 by omega)] at g2
        cases g2
      refine iteT (no _ (fun _ _ e => e) ?_)
      unfold mnB
      rw [decide_eq_false g2', Bool.false_and, Bool.and_false]
    have g2' : z.length ≤ 4 := by
      by_cases g : z.length ≤ 4
      · exact g
      · exact absurd (by rw [decide_eq_false (show ¬ ((z.length : Nat) : Int) ≤ 4 by omega)]; rfl) g2
    refine ⟨.str z, rfl, by decide, fun p np => ?_⟩
    have x1 : Same H (upd H p (.lst takenV)) := same_new np
    refine ⟨p, takenV, rfl, .inl (SqL.of upd_same), rfl, rfl, _, rfl, ite2 (fun h => ?_) (fun h => ?_)⟩
    · refine no _ x1 ?_
      unfold mnB nameB
      rw [show inV (.str z) takenV = true from h, Bool.not_true, Bool.false_and, Bool.false_and]
    have h' : inV (.str z) takenV = false := Bool.eq_false_iff.mpr h
    obtain ⟨c0, r0, ec⟩ : ∃ c r, z.cps.toList = c :: r := by
      cases e : z.cps.toList with
      | nil =>
        have : z.length = z.cps.toList.length := (Array.length_toList).symm
        rw [e, List.length_nil] at this
        omega
      | cons c r => exact ⟨c, r, rfl⟩
    refine ⟨_, rfl, _, 0, c0, rfl, rfl, small hz, by rw [ec]; exact atI_nat (j := 0) rfl, rfl, _, rfl, ?_⟩
    have em : mnB z = (wordB z abc && !decide (c0 = 122)) := by
      unfold mnB nameB
      rw [h', Bool.not_false, Bool.true_and, decide_eq_true g2', Bool.true_and, ec, List.head?_cons]
      congr 2
      by_cases g : c0 = 122
      · rw [decide_eq_true g, decide_eq_true (by rw [g])]
      · rw [decide_eq_false g, decide_eq_false (by intro e; exact g (Option.some.inj e))]
    rw [msign_eq (d := 122) (by decide +kernel)]
    by_cases gz : c0 = 122
    · refine iteD (by rw [decide_eq_true gz]; rfl) (no _ x1 ?_)
      rw [em, decide_eq_true gz, Bool.not_true, Bool.and_false]
    refine iteU (by rw [decide_eq_false gz]; rfl) ?_
    have em2 : mnB z = wordB z abc := by rw [em, decide_eq_false gz, Bool.not_false, Bool.and_true]
    refine ⟨.str z, rfl, z, rfl, fun D nD => ?_⟩
    refine lc_it walk_str (fun i H' => Same H H' ∧ H' D = some (.lst (badV abc (z.cps.toList.take i)))) ⟨x1.trans (same_new nD), by rw [upd_same]; rfl⟩ (fun _ _ _ _ => trivial) (fun i x H1 H2 hi hP hY => ?_) (fun H1 hP => ?_)
    · obtain ⟨rfl, c, hc, rfl⟩ := hY
      obtain ⟨hx, hD⟩ := hP
      have hc' : z.cps.toList[i]? = some c := by
        rw [Array.getElem?_toList]
        exact hc
      refine ⟨rfl, _, rfl, c, abc, rfl, rfl, _, rfl, ite2 (fun h3 => ?_) (fun h3 => ?_)⟩
      · have h3' : c ∉ abc.cps.toList := of_decide_eq_false (by simpa using h3)
        refine ⟨_, rfl, _, hD, ?_, fun b o e => ?_, ?_⟩
        · exact badV_len (by omega) i
        · rw [upd_ne (ne_of_none (x1 _ _ e) nD)]
          exact hx b o e
        · rw [upd_same, badV_take hc', if_neg h3']
      · have h3' : c ∈ abc.cps.toList := by simpa using h3
        refine ⟨hx, ?_⟩
        rw [hD, badV_take hc', if_pos h3', List.append_nil]
    · obtain ⟨hx, hD⟩ := hP
      refine ⟨Nat.zero_le _, fun E2 nE => ?_⟩
      have et : z.cps.toList.take z.cps.size = z.cps.toList := by
        rw [← Array.length_toList, List.take_length]
      rw [et] at hD
      have hD2 : upd H1 E2 (.lst []) D = some (.lst (badV abc z.cps.toList)) := by
        rw [upd_ne (ne_of_none hD nE)]
        exact hD
      refine ⟨_, _, _, rfl, rfl, SqL.of hD2, SqL.of upd_same, ?_⟩
      have q1 := q (upd H1 E2 (.lst [])) (hx.trans (same_new nE))
      rw [show mnT (.str z) = (badV abc z.cps.toList).isEmpty by
        show mnB z = _
        rw [em2, badV_none]
        unfold wordB
        rw [decide_eq_true g1', decide_eq_true (show z.length ≤ 6 by omega), Bool.true_and, Bool.true_and]] at q1
      exact q1
  | .non, ht, ok, q => exact iteT (q _ fun _ _ e => e)
  | .int _, ht, ok, q => exact iteT (q _ fun _ _ e => e)
  | .bl _, ht, ok, q => exact iteT (q _ fun _ _ e => e)
  | .lst _, ht, ok, q => exact iteT (q _ fun _ _ e => e)
  | .tup _, ht, ok, q => exact iteT (q _ fun _ _ e => e)
  | .dct, ht, ok, q => exact iteT (q _ fun _ _ e => e)
end
end K54

set_option Elab.async false
set_option linter.all false
set_option maxRecDepth 100000
set_option maxHeartbeats 400000
namespace K54
open PySem PySem.Spec PyProof.Rows L2 Wk GxR
section
variable {P : Program} {w : World} {K : PySem.W.Frag} {mg : Str → Option Value} {base : Heap}
theorem ok_lparts {f fN : Addr} {fd fdN : FuncData} {n : Nat} (F : Fun K "_law_are_parts" "_law_are_parts" sLP f fd)
    (GN : FnOk P w K mg base CX0 1 fN fdN ["_law_thing"] spLMName) (bN : Binds K fdN ["_law_thing"] []) (kN : PySem.W.keepIn K (.ref fN) = true) (mN : mg "_law_is_name" = some (.ref fN))
    (G : FnOk P w K mg base CX0 (n + 1) f fd psLP (spLParts n)) (bF : Binds K fd psLP []) (mF : mg "_law_are_parts" = some (.ref f))
    (mi : mg "isinstance" = none) (mt : mg "tuple" = none) (ml : mg "len" = none) :
    FnOk P w K mg base CX0 (n + 1 + 1) f fd psLP (spLParts (n + 1)) := by
  refine F.ok scLP (fun vs H Q E h => ?_) (fun cdv A outer s H vs Q E hr h => ?_)
  · obtain ⟨_, _, _, rfl, _⟩ := h
    rfl
  obtain ⟨v, t, m, rfl, ht, ok, hhd, hm, q⟩ := h
  have hr1 : Room 1 _ := hr.mono (by omega)
  refine ⟨_, C8.pss_cut (ps_if (PW.pt (pw_or (pt_not (pt_val (pe_callB call_isi (by rfl) mi (by decide +kernel) (pa_cons (pv 0) (pa_cons (pe_bltn (v := .ty "tuple") (by rfl) mt (by decide +kernel) rfl) pa_nil)))))
      (pw_or1 (PW.pt (pw_and (pt_cmpR (op_neT0 hr.units) (pv 0) (pe_tup pa_nil) (nomark _)) (pw_and1 (pt_cmpR op_eq (pv 1) pe_int (nomark _)))))))) (pss_one (ps_ret pe_bl)) pss_nil)
    (pss_cons (ps_for PassesOwn.never rfl (pi_tup (pv 0)) (pg_name (i := 2) scLP.nd rfl (.inl rfl))
      (pss_cons (ps_if (PW.pt (pw_or (pt_not (pt_val (pe_callB call_isi (by rfl) mi (by decide +kernel) (pa_cons (pv 2) (pa_cons (pe_bltn (v := .ty "tuple") (by rfl) mt (by decide +kernel) rfl) pa_nil)))))
        (pw_or (pt_cmpR op_lt (pe_callB call_len_seq (by rfl) ml PySem.boot_len (pa_cons (pv 2) pa_nil)) pe_int (nomark _))
        (pw_or (pt_not (pt_val (pe_call GN hr1 (by rfl) mN kN bN .nil pass0 (pa_cons (pe_ix ix_tup (pv 2) pe_int (fun _ _ => rfl)) pa_nil))))
        (pw_or1 (pt_not (pt_val (pe_call GN hr1 (by rfl) mN kN bN .nil pass0 (pa_cons (pe_ix ix_tup (pv 2) pe_int (fun _ _ => rfl)) pa_nil))))))))) (pss_one (ps_ret pe_bl)) pss_nil)
      (C8.pss_cut (ps_if (PW.pt (pw_and (pt_cmpR op_eq (pe_ix ix_tup (pv 2) pe_int (fun _ _ => rfl)) pe_str (nomark _)) (pw_and1 (pt_cmpR op_eq (pe_callB call_len_seq (by rfl) ml PySem.boot_len (pa_cons (pv 2) pa_nil)) pe_int (nomark _))))) (pss_one ps_continue) pss_nil)
      (pss_one (ps_if (PW.pt (pw_or (pt_cmpR op_ne (pe_ix ix_tup (pv 2) pe_int (fun _ _ => rfl)) pe_str (nomark _)) (pw_or (pt_cmpR op_ne (pe_callB call_len_seq (by rfl) ml PySem.boot_len (pa_cons (pv 2) pa_nil)) pe_int (nomark _))
        (pw_or1 (pt_not (pt_val (pe_call G hr (by rfl) mF F.kp bF .nil pass0 (pa_cons (pe_ix ix_tup (pv 2) pe_int (fun _ _ => rfl)) (pa_cons (pe_op op_sub (pv 1) pe_int) pa_nil))))))))) (pss_one (ps_ret pe_bl)) pss_nil)))))
    (pss_one (ps_ret pe_bl))), ?_⟩
  have no : ∀ H', Same H H' → (¬ ∃ r, t = thMR r ∧ okMs r ∧ deepMs r ≤ m) → Q (.bl false) H' := fun H' s c => q H' false s ⟨(fun z => nomatch z), fun z => absurd z c⟩
  obtain ⟨ty, h1, h2, h3⟩ := ht.tyT (K := K)
  refine ⟨fun σ H' => ∃ (xs : List Th) (vs : List V) (a : Addr), t = .tup xs ∧ v = .ref a ∧ H a = some (.tup vs) ∧ ThsAt H xs vs ∧ (xs ≠ [] → 1 ≤ m) ∧ Same H H' ∧ σ = [some v, some (.int m), none], ?_, fun σ' H3 hm => ?_⟩
  · refine ⟨_, rfl, v, .ty "tuple", .type ty, .type "tuple", isTup t, rfl, .ty "tuple", h1, h2, _, rfl, ?_⟩
    by_cases c : isTup t = true
    rotate_left
    · rw [Bool.eq_false_iff.mpr c]
      refine iteT (no _ (fun _ _ e => e) ?_)
      rintro ⟨r, rfl, _⟩
      exact c rfl
    rw [c]
    refine iteF ?_
    obtain ⟨xs, rfl⟩ : ∃ xs, t = .tup xs := by
      cases t with
      | tup xs => exact ⟨xs, rfl⟩
      | _ => cases c
    obtain ⟨a, vs, rfl, ha, hvs⟩ := ht
    have lv := ThsAt.len hvs
    refine ⟨_, rfl, (show 0 ≤ sizeLine by decide), fun e0 ne0 => ?_⟩
    have s0 : Same H (upd H e0 (.tup [])) := same_new ne0
    refine ⟨a, e0, vs, rfl, rfl, SqT.of (s0 _ _ ha), SqT.of upd_same, _, rfl, ?_⟩
    refine ite2 (fun g1 => ?_) (fun g1 => ?_)
    · have x0 : xs ≠ [] := fun e => by
        rw [e] at lv
        rw [List.length_eq_zero_iff.mp lv] at g1
        cases g1
      refine ⟨_, rfl, rfl, _, rfl, ite2 (fun g2 => ?_) (fun g2 => ?_)⟩
      · refine no _ s0 ?_
        rintro ⟨r, e, _, hd⟩
        have m0 : m = 0 := by
          have := of_decide_eq_true g2
          have := V.int.inj this
          omega
        have er : xs = thMs r := Th.tup.inj e
        cases r with
        | nil => exact x0 er
        | cons p r =>
          have : max (deepM p) (deepMs r) ≤ m := hd
          have := deep_restM p
          omega
      · refine ⟨xs, vs, a, rfl, rfl, ha, hvs, fun _ => ?_, s0, rfl⟩
        have : m ≠ 0 := fun e => g2 (decide_eq_true (by rw [e]; rfl))
        omega
    · refine ⟨xs, vs, a, rfl, rfl, ha, hvs, fun x0 => absurd ?_ x0, s0, rfl⟩
      have g1' : vs = [] := by
        cases vs with
        | nil => rfl
        | cons _ _ => exact absurd rfl g1
      rw [g1'] at lv
      exact List.length_eq_zero_iff.mp lv.symm
  · obtain ⟨xs, vs, a, rfl, rfl, ha, hvs, hm1, s3, rfl⟩ := hm
    have lv := ThsAt.len hvs
    refine ⟨_, rfl, a, rfl, ⟨_, SqT.of (s3 _ _ ha)⟩, for_it (walk_tup (xs := vs)) (fun i σ H' => Same H H' ∧ (∀ x ∈ xs.take i, PartM m x) ∧ ∃ s4 : Option V, σ = [some (.ref a), some (.int m), s4])
      ⟨s3, (fun x hx => by simp at hx), _, rfl⟩ (fun i σ H' _ hP => SqT.of (hP.1 _ _ ha)) (fun i y σ H1 H2 hi hP hY => ?_) (fun σ H' hP => ?_)⟩
    rotate_left
    · obtain ⟨s4, hp, _, rfl⟩ := hP
      rw [lv, List.take_length] at hp
      exact q _ true s4 ⟨fun _ => by
        obtain ⟨r, e, h5, h6⟩ := mrow_parts xs m hp
        exact ⟨r, by rw [e]; rfl, h5, h6⟩, fun _ => rfl⟩
    obtain ⟨rfl, hy⟩ := hY
    obtain ⟨sm, hp, s4, rfl⟩ := hP
    obtain ⟨x, hx, hxa⟩ := ThsAt.get hvs hy
    have xm : x ∈ xs := List.mem_of_getElem? hx
    have okx := ok.items.2 x xm
    have m1 : 1 ≤ m := hm1 fun e => by rw [e] at xm; cases xm
    obtain ⟨m', rfl⟩ : ∃ m', m = m' + 1 := ⟨m - 1, by omega⟩
    have hdx : hdX m' x := hhd x xm
    have no2 : ∀ H', Same H H' → ¬ PartM (m' + 1) x → Q (.bl false) H' := fun H' s c => no H' s fun ⟨r, e, h5, h6⟩ => c (mparts_row (Th.tup.inj e) h5 h6 x xm)
    have tk : xs.take (i + 1) = xs.take i ++ [x] := by rw [List.take_add_one, hx]; rfl
    have yes : PartM (m' + 1) x → ∀ x' ∈ xs.take (i + 1), PartM (m' + 1) x' := fun hpx x' hx' => by
      rw [tk] at hx'
      rcases List.mem_append.mp hx' with z | z
      · exact hp x' z
      · rw [List.mem_singleton.mp z]; exact hpx
    clear hp
    have hxa2 := ThAt.mono (Kpt.same sm) x y hxa
    obtain ⟨ty, h1, h2, h3⟩ := hxa2.tyT (K := K)
    refine ⟨_, rfl, y, .ty "tuple", .type ty, .type "tuple", isTup x, rfl, .ty "tuple", h1, h2, _, rfl, ?_⟩
    by_cases c : isTup x = true
    rotate_left
    · rw [Bool.eq_false_iff.mpr c]
      refine iteT (no2 _ sm ?_)
      rintro ⟨p, rfl, _⟩
      cases p <;> exact c rfl
    rw [c]
    refine iteF ?_
    obtain ⟨ws, rfl⟩ : ∃ ws, x = .tup ws := by
      cases x with
      | tup xs => exact ⟨xs, rfl⟩
      | _ => cases c
    obtain ⟨b, us, rfl, hb, hus⟩ := hxa2
    have lu := ThsAt.len hus
    refine ⟨_, rfl, b, us, rfl, .inr (SqT.of hb), _, _, rfl, rfl, _, rfl, ite2 (fun g1 => ?_) (fun g1 => ?_)⟩
    · refine iteT (no2 _ sm ?_)
      rintro ⟨p, e, _⟩
      have l3 := of_decide_eq_true g1
      cases p with
      | send a b =>
        have := congrArg List.length (Th.tup.inj e)
        have e3 : ws.length = 3 := this
        omega
      | get a b r =>
        have := congrArg List.length (Th.tup.inj e)
        have e3 : ws.length = 4 := this
        omega
    have l2 : 3 ≤ ws.length := Nat.not_lt.mp fun g => g1 (decide_eq_true (show ((us.length : Nat) : Int) < 3 by rw [lu]; exact Int.ofNat_lt.mpr g))
    obtain ⟨x0, x1, x2, wr, rfl⟩ := three l2
    clear l2 g1
    obtain ⟨u0, us0, rfl, hx0, u1, us1, rfl, hx1, u2, us2, rfl, hx2, hwr⟩ := hus
    have noN : ∀ H', Same H H' → (mnT x1 = false ∨ mnT x2 = false) → Q (.bl false) H' := fun H' s c => no2 H' s fun ⟨p, e, h5, _⟩ => by
      cases p with
      | send a b =>
        have e1 := (List.cons.inj (List.cons.inj (Th.tup.inj e)).2).1
        have e2 := (List.cons.inj (List.cons.inj (List.cons.inj (Th.tup.inj e)).2).2).1
        rcases c with c | c
        · rw [e1] at c; rw [show mnT (.str a) = true from h5.1] at c; cases c
        · rw [e2] at c; rw [show mnT (.str b) = true from h5.2] at c; cases c
      | get a b r =>
        have e1 := (List.cons.inj (List.cons.inj (Th.tup.inj e)).2).1
        have e2 := (List.cons.inj (List.cons.inj (List.cons.inj (Th.tup.inj e)).2).2).1
        rcases c with c | c
        · rw [e1] at c; rw [show mnT (.str a) = true from h5.1] at c; cases c
        · rw [e2] at c; rw [show mnT (.str b) = true from h5.2.1] at c; cases c
    have okx1 : okT x1 := okx.2.2.1
    have okx2 : okT x2 := okx.2.2.2.1
    refine ⟨_, rfl, b, _, 1, _, rfl, rfl, SqT.of hb, atI_nat (j := 1) rfl, u1, x1, rfl, hx1, okx1, fun H5 s5 => ⟨_, rfl, ?_⟩⟩
    by_cases c1 : mnT x1 = true
    rotate_left
    · rw [Bool.eq_false_iff.mpr c1]
      exact iteT (iteT (noN _ (sm.trans s5) (.inl (Bool.eq_false_iff.mpr c1))))
    rw [c1]
    refine iteF ?_
    refine ⟨_, rfl, b, _, 2, _, rfl, rfl, SqT.of (s5 _ _ hb), atI_nat (j := 2) rfl, u2, x2, rfl, ThAt.mono (Kpt.same s5) _ _ hx2, okx2, fun H6 s6 => ⟨_, rfl, ?_⟩⟩
    by_cases c2 : mnT x2 = true
    rotate_left
    · rw [Bool.eq_false_iff.mpr c2]
      exact iteT (noN _ (sm.trans (s5.trans s6)) (.inr (Bool.eq_false_iff.mpr c2)))
    rw [c2]
    refine iteF ?_
    have s06 := sm.trans (s5.trans s6)
    have s26 := s5.trans s6
    have hb6 := s26 _ _ hb
    have hx06 := ThAt.mono (Kpt.same s26) _ _ hx0
    have hwr6 := ThsAt.mono (Kpt.same s26) _ _ hwr
    obtain ⟨sc0, hdr⟩ := hdx x0 x1 x2 wr rfl c1 c2
    obtain ⟨a1, rfl, k1⟩ : ∃ a1, x1 = .str a1 ∧ mnB a1 = true := by
      cases x1 with
      | str z => exact ⟨z, rfl, c1⟩
      | _ => cases c1
    obtain ⟨a2, rfl, k2⟩ : ∃ a2, x2 = .str a2 ∧ mnB a2 = true := by
      cases x2 with
      | str z => exact ⟨z, rfl, c2⟩
      | _ => cases c2
    have lw := ThsAt.len hwr6
    have lln : (u0 :: u1 :: u2 :: us2).length = wr.length + 3 := by rw [List.length_cons, List.length_cons, List.length_cons, lw]
    clear noN s5 s6
    refine ⟨fun σ H' => H' = H6 ∧ σ = [some (.ref a), some (.int ((m' + 1 : Nat) : Int)), some (.ref b)] ∧ ¬ (x0 = .str "send" ∧ wr = []), ?_, fun σ' H7 hmm => ?_⟩
    · refine ⟨_, rfl, b, _, 0, _, rfl, rfl, SqT.of hb6, atI_nat (j := 0) rfl, sc_scal hx06 sc0 _, _, rfl, ite2 (fun g3 => ?_) (fun g3 => ?_)⟩
      · have e0 := (sc_str hx06 sc0).mp (of_decide_eq_true g3)
        refine ⟨_, rfl, b, _, rfl, .inr (SqT.of hb6), rfl, _, rfl, ite2 (fun g4 => ?_) (fun g4 => ?_)⟩
        · have e4 : wr = [] := by
            have := V.int.inj (of_decide_eq_true g4)
            exact List.length_eq_zero_iff.mp (by omega)
          exact ⟨s06, yes ⟨.send a1 a2, by rw [e0, e4]; rfl, ⟨k1, k2⟩, by show 1 ≤ m' + 1; omega⟩, _, rfl⟩
        · refine ⟨rfl, rfl, fun ⟨_, e4⟩ => g4 (decide_eq_true ?_)⟩
          rw [lln, e4]
          rfl
      · exact ⟨rfl, rfl, fun ⟨e0, _⟩ => g3 (decide_eq_true ((sc_str hx06 sc0).mpr e0))⟩
    · obtain ⟨rfl, rfl, nsend⟩ := hmm
      refine ⟨_, rfl, b, _, 0, _, rfl, rfl, SqT.of hb6, atI_nat (j := 0) rfl, sc_scal hx06 sc0 _, _, rfl, ?_⟩
      by_cases e0 : x0 = .str "get"
      rotate_left
      · have nv : ¬ u0 = V.str "get" := fun e => e0 ((sc_str hx06 sc0).mp e)
        refine iteU (by rw [decide_eq_false nv]; rfl) ?_
        refine iteT (no2 _ s06 ?_)
        rintro ⟨p, e, _⟩
        cases p with
        | send n' m'' =>
          have w1 := (List.cons.inj (List.cons.inj (List.cons.inj (Th.tup.inj e)).2).2).2
          exact nsend ⟨(List.cons.inj (Th.tup.inj e)).1, w1⟩
        | get n' x' r => exact e0 (List.cons.inj (Th.tup.inj e)).1
      have uv : u0 = V.str "get" := (sc_str hx06 sc0).mpr e0
      refine iteD (by rw [decide_eq_true uv]; rfl) ?_
      refine ⟨_, rfl, b, _, rfl, .inr (SqT.of hb6), rfl, _, rfl, ?_⟩
      by_cases e4 : wr.length = 1
      rotate_left
      · have nv : ¬ V.int (((u0 :: u1 :: u2 :: us2).length : Nat) : Int) = V.int 4 := fun e => by
          have := V.int.inj e
          omega
        refine iteU (by rw [decide_eq_false nv]; rfl) ?_
        refine iteT (no2 _ s06 ?_)
        rintro ⟨p, e, _⟩
        cases p with
        | send n' m'' =>
          have w1 := (List.cons.inj (List.cons.inj (List.cons.inj (Th.tup.inj e)).2).2).2
          exact nsend ⟨(List.cons.inj (Th.tup.inj e)).1, w1⟩
        | get n' x' r =>
          have w1 := (List.cons.inj (List.cons.inj (List.cons.inj (Th.tup.inj e)).2).2).2
          rw [w1] at e4
          exact e4 rfl
      have ev : V.int (((u0 :: u1 :: u2 :: us2).length : Nat) : Int) = V.int 4 := by rw [lln, e4]; rfl
      refine iteD (by rw [decide_eq_true ev]; rfl) ?_
      obtain ⟨y4, rfl⟩ := List.length_eq_one_iff.mp e4
      obtain ⟨u4, us4, rfl, hy4, _⟩ := hwr6
      have em : (((m' + 1 : Nat) : Int) - 1) = (m' : Int) := by omega
      refine ⟨_, rfl, b, _, 3, _, rfl, rfl, SqT.of hb6, atI_nat (j := 3) rfl, _, rfl, _, _, rfl, rfl, u4, y4, m', (by show [u4, V.int (((m' + 1 : Nat) : Int) - 1)] = _; rw [em]), hy4, okx.2.2.2.2.1, hdr y4 rfl, by omega, fun H8 bb s8 hbb => ⟨_, rfl, ?_⟩⟩
      cases bb with
      | true =>
        obtain ⟨r, e5, h5, h6⟩ := hbb.mp rfl
        exact iteF ⟨s06.trans s8, yes ⟨.get a1 a2 r, by rw [e0, e5]; rfl, ⟨k1, k2, h5⟩, by show deepMs r + 1 ≤ m' + 1; omega⟩, _, rfl⟩
      | false =>
        refine iteT (no2 _ (s06.trans s8) ?_)
        rintro ⟨p, e, h5, h6⟩
        cases p with
        | send n' m'' =>
          have w1 := (List.cons.inj (List.cons.inj (List.cons.inj (Th.tup.inj e)).2).2).2
          cases w1
        | get n' x' r =>
          have w1 := (List.cons.inj (List.cons.inj (List.cons.inj (Th.tup.inj e)).2).2).2
          have h6 : deepMs r + 1 ≤ m' + 1 := h6
          exact Bool.false_ne_true (hbb.mpr ⟨r, (List.cons.inj w1).1, h5.2.2, by omega⟩)
theorem lparts_none {f : Addr} {fd : FuncData} {k : Nat} : FnOk P w K mg base CX0 k f fd psLP (spLParts 0) := by
  have no : ∀ vs H Q E, ¬ spLParts 0 vs H Q E := fun vs H Q E h => by
    obtain ⟨_, _, _, _, _, _, _, h1, _⟩ := h
    omega
  exact ⟨fun vs H Q E h => absurd h (no vs H Q E), fun A outer s H args us vs Q E _ _ _ _ h => absurd h (no vs H Q E)⟩
theorem lparts_ok {f fN : Addr} {fd fdN : FuncData} (F : Fun K "_law_are_parts" "_law_are_parts" sLP f fd)
    (GN : FnOk P w K mg base CX0 1 fN fdN ["_law_thing"] spLMName) (bN : Binds K fdN ["_law_thing"] []) (kN : PySem.W.keepIn K (.ref fN) = true) (mN : mg "_law_is_name" = some (.ref fN))
    (bF : Binds K fd psLP []) (mF : mg "_law_are_parts" = some (.ref f))
    (mi : mg "isinstance" = none) (mt : mg "tuple" = none) (ml : mg "len" = none) : ∀ n : Nat, FnOk P w K mg base CX0 (n + 1) f fd psLP (spLParts n)
  | 0 => lparts_none
  | n + 1 => ok_lparts F GN bN kN mN (lparts_ok F GN bN kN mN bF mF mi mt ml n) bF mF mi mt ml
end
end K54

set_option Elab.async false
set_option linter.all false
set_option maxRecDepth 100000
set_option maxHeartbeats 800000
namespace K54
open PySem PySem.Spec PyProof.Rows L2 Wk GxR
abbrev sMMet : Stmt := topS 34
abbrev psMM : List Str := ["_law_mail_here", "_law_around"]
theorem scMMet : FnScope ["_law_mail_here", "_law_around", "_law_found", "_law_part"] psMM (defScope sMMet) := ⟨rfl, rfl, rfl, by decide +kernel, rfl, by decide +kernel, by decide +kernel⟩
section
variable {P : Program} {w : World} {K : PySem.W.Frag} {mg : Str → Option Value} {base : Heap}
theorem ok_mmet {f : Addr} {fd : FuncData} {n : Nat} (F : Fun K "_law_met" "_law_met" sMMet f fd)
    (G : FnOk P w K mg base CX0 (n + 1) f fd psMM (spMMet n)) (bF : Binds K fd psMM []) (mF : mg "_law_met" = some (.ref f)) : FnOk P w K mg base CX0 (n + 1 + 1) f fd psMM (spMMet (n + 1)) := by
  refine F.ok scMMet (fun vs H Q E h => ?_) (fun cdv A outer s H vs Q E hr h => ?_)
  · obtain ⟨_, _, _, _, rfl, _⟩ := h
    rfl
  obtain ⟨v, r, aS, S, rfl, hR, hS, hd, hsz, hdS, q⟩ := h
  refine ⟨_, pss_cons (ps_set (i := 2) scMMet.nd rfl (.inl rfl) (pe_lst pa_nil))
    (pss_cons (ps_for PassesOwn.never rfl (pi_tup (pv 0)) (pg_name (i := 3) scMMet.nd rfl (.inl rfl))
      (pss_cons (ps_expr (pe_bm PySem.F.plainAttrs_list PySem.F.slot_list_append PySem.F.type_list_append mt_append (pv 2) (pa_cons (pe_tup (pa_cons pe_str (pa_cons (pe_ix ix_tup (pv 3) pe_int (fun _ _ => rfl)) (pa_cons (pe_cmpR op_in_seq (pe_ix ix_tup (pv 3) pe_int (fun _ _ => rfl)) (pv 1) rfl) pa_nil)))) pa_nil)))
      (pss_one (ps_if (pt_cmpR op_eq (pe_ix ix_tup (pv 3) pe_int (fun _ _ => rfl)) pe_str (nomark _))
        (pss_one (ps_expr (pe_bm PySem.F.plainAttrs_list PySem.F.slot_list_append PySem.F.type_list_append mt_append (pv 2) (pa_cons (pe_tup (pa_cons pe_str (pa_cons (pe_ix ix_tup (pv 3) pe_int (fun _ _ => rfl)) (pa_cons (pe_cmpR op_in_seq (pe_ix ix_tup (pv 3) pe_int (fun _ _ => rfl)) (pv 1) rfl) pa_nil)))) pa_nil))))
        (pss_cons (ps_expr (pe_bm PySem.F.plainAttrs_list PySem.F.slot_list_append PySem.F.type_list_append mt_append (pv 2) (pa_cons (pe_tup (pa_cons pe_str (pa_cons (pe_ix ix_tup (pv 3) pe_int (fun _ _ => rfl)) (pa_cons pe_bl pa_nil)))) pa_nil)))
        (pss_one (ps_expr (pe_bm PySem.F.plainAttrs_list PySem.F.slot_list_extend PySem.F.type_list_extend mt_extend (pv 2) (pa_cons (pe_call G hr (by rfl) mF F.kp bF .nil pass0 (pa_cons (pe_ix ix_tup (pv 3) pe_int (fun _ _ => rfl)) (pa_cons (pe_op op_cat (pv 1) (pe_lst (pa_cons (pe_ix ix_tup (pv 3) pe_int (fun _ _ => rfl)) pa_nil))) pa_nil))) pa_nil)))))))))
    (pss_one (ps_ret (pv 2)))), ?_⟩
  refine ⟨(show 0 ≤ sizeLine by decide), fun D nD => ?_⟩
  obtain ⟨a, xs, rfl, ha, hps⟩ := hR
  have lx : xs.length = r.length := (ThsAt.len hps).trans (thMs_len r)
  have own : ∀ {H1 : Hp} {us : List V}, Same H H1 → Same H (upd H1 D (.lst us)) := fun s b o e => by rw [upd_ne (ne_of_none e nD)]; exact s b o e
  refine ⟨_, rfl, a, rfl, ⟨_, SqT.of (kn ha nD)⟩, for_it (walk_tup (xs := xs)) (fun i σ H' => Same H H' ∧ (∃ us, H' D = some (.lst us) ∧ MEntsAt H' (meMs S (r.take i)) us) ∧ ∃ s3 : Option V, σ = [some (.ref a), some (.ref aS), some (.ref D), s3])
    ⟨same_new nD, ⟨[], upd_same, rfl⟩, _, rfl⟩ (fun i σ H' _ hP => SqT.of (hP.1 _ _ ha)) (fun i y σ H1 H2 hi hP hY => ?_) (fun σ H' hP => ?_)⟩
  · obtain ⟨rfl, hy⟩ := hY
    obtain ⟨sm, ⟨us, hD, hus⟩, s3, rfl⟩ := hP
    obtain ⟨p, hp, hpa⟩ := thMs_get hps hy
    have tk : r.take (i + 1) = r.take i ++ [p] := by rw [List.take_add_one, hp]; rfl
    have eme : meMs S (r.take (i + 1)) = meMs S (r.take i) ++ meM S p := by rw [tk, meMs_app, show meMs S [p] = meM S p ++ [] from rfl, List.append_nil]
    have z1 := sizeMs_take r (i + 1)
    rw [tk, sizeMs_app, show sizeMs [p] = sizeM p + 0 from rfl] at z1
    have d1 := deepMs.mem p (List.mem_of_getElem? hp)
    have lu := MEntsAt.len hus
    rw [meMs_len] at lu
    have hpa2 := thM_tup (STup.of sm) p _ hpa
    have hS2 := sm _ _ hS
    -- one more entry
    have put : ∀ (H3 : Hp) (es : List MEnt) (vs : List V) (e : MEnt) (t : Addr), Same H H3 → H3 D = some (.lst vs) → MEntsAt H3 es vs → H3 t = none →
        Same H (upd (upd H3 t (.tup [.str e.1, .str e.2.1, .bl e.2.2])) D (.lst (vs ++ [.ref t]))) ∧ MEntsAt (upd (upd H3 t (.tup [.str e.1, .str e.2.1, .bl e.2.2])) D (.lst (vs ++ [.ref t]))) (es ++ [e]) (vs ++ [.ref t]) := fun H3 es vs e t s hD3 hes nt => by
      have hDt : upd H3 t (.tup [.str e.1, .str e.2.1, .bl e.2.2]) D = some (.lst vs) := kn hD3 nt
      have st : STup H3 (upd (upd H3 t (.tup [.str e.1, .str e.2.1, .bl e.2.2])) D (.lst (vs ++ [.ref t]))) := (STup.new nt).trans (STup.lst hDt)
      refine ⟨own (s.trans (same_new nt)), MEntsAt.app (MEntsAt.one ⟨t, rfl, ?_⟩) (hes.mono st)⟩
      rw [upd_ne (Ne.symm (ne_of_none hD3 nt))]
      exact upd_same
    cases p with
    | send n' m' =>
      obtain ⟨b, zs, rfl, hb, u, ws, rfl, hu, u1, ws1, rfl, h1, u2, ws2, rfl, h2, h3⟩ := hpa2
      have e0 : u = .str "send" := hu
      have e1 : u1 = .str n' := h1
      have e2 : u2 = .str m' := h2
      have e3 : ws2 = [] := h3
      subst e0 e1 e2 e3
      have zs1 : sizeM (.send n' m') = 1 := rfl
      refine ⟨_, rfl, .inl ⟨rfl, _, SqL.of hD⟩, _, rfl, b, _, 1, _, rfl, rfl, SqT.of hb, atI_nat (j := 1) rfl, _, rfl, b, _, 1, _, rfl, rfl, SqT.of hb, atI_nat (j := 1) rfl, _, rfl, aS, _, rfl, .inl (SqL.of hS2), rfl, Wk.flat_strs S, (show 3 ≤ sizeLine by decide), fun t nt => ?_⟩
      rw [inV_strs, if_neg Bool.false_ne_true]
      refine ⟨D, _, _, rfl, rfl, kn hD nt, small1000 (by omega), ?_⟩
      obtain ⟨s5, hus5⟩ := put H2 _ us ("name", n', decide (n' ∈ S)) t sm hD hus nt
      have hD5 : upd (upd H2 t (.tup [.str "name", .str n', .bl (decide (n' ∈ S))])) D (.lst (us ++ [.ref t])) D = some (.lst (us ++ [.ref t])) := upd_same
      have hb5 : upd (upd H2 t (.tup [.str "name", .str n', .bl (decide (n' ∈ S))])) D (.lst (us ++ [.ref t])) b = some (.tup [.str "send", .str n', .str m']) := by
        rw [upd_ne (fun z => by rw [z, hD] at hb; cases hb)]
        exact kn hb nt
      have hS5 := s5 _ _ hS
      generalize upd (upd H2 t (.tup [.str "name", .str n', .bl (decide (n' ∈ S))])) D (.lst (us ++ [.ref t])) = H5 at *
      refine ⟨_, rfl, b, _, 0, _, rfl, rfl, SqT.of hb5, atI_nat (j := 0) rfl, rfl, _, rfl, iteU (by decide +kernel) ?_⟩
      refine ⟨_, rfl, .inl ⟨rfl, _, SqL.of hD5⟩, _, rfl, b, _, 2, _, rfl, rfl, SqT.of hb5, atI_nat (j := 2) rfl, _, rfl, b, _, 2, _, rfl, rfl, SqT.of hb5, atI_nat (j := 2) rfl, _, rfl, aS, _, rfl, .inl (SqL.of hS5), rfl, Wk.flat_strs S, (show 3 ≤ sizeLine by decide), fun t2 nt2 => ?_⟩
      rw [inV_strs, if_neg Bool.false_ne_true]
      refine ⟨D, _, _, rfl, rfl, kn hD5 nt2, small1000 (by rw [List.length_append, List.length_singleton]; omega), ?_⟩
      obtain ⟨s6, hus6⟩ := put H5 _ _ ("name", m', decide (m' ∈ S)) t2 s5 hD5 hus5 nt2
      refine ⟨s6, ⟨_, upd_same, ?_⟩, _, rfl⟩
      rw [eme]
      rw [List.append_assoc (meMs S (r.take i))] at hus6
      exact hus6
    | get n' x' r' =>
      obtain ⟨b, zs, rfl, hb, u, ws, rfl, hu, u1, ws1, rfl, h1, u2, ws2, rfl, h2, u3, ws3, rfl, h3, h4⟩ := hpa2
      have e0 : u = .str "get" := hu
      have e1 : u1 = .str n' := h1
      have e2 : u2 = .str x' := h2
      have e3 : ws3 = [] := h4
      subst e0 e1 e2 e3
      have zs1 : sizeM (.get n' x' r') = sizeMs r' + 1 := rfl
      have zs2 : deepM (.get n' x' r') = deepMs r' + 1 := rfl
      refine ⟨_, rfl, .inl ⟨rfl, _, SqL.of hD⟩, _, rfl, b, _, 1, _, rfl, rfl, SqT.of hb, atI_nat (j := 1) rfl, _, rfl, b, _, 1, _, rfl, rfl, SqT.of hb, atI_nat (j := 1) rfl, _, rfl, aS, _, rfl, .inl (SqL.of hS2), rfl, Wk.flat_strs S, (show 3 ≤ sizeLine by decide), fun t nt => ?_⟩
      rw [inV_strs, if_neg Bool.false_ne_true]
      refine ⟨D, _, _, rfl, rfl, kn hD nt, small1000 (by omega), ?_⟩
      obtain ⟨s5, hus5⟩ := put H2 _ us ("name", n', decide (n' ∈ S)) t sm hD hus nt
      have hD5 : upd (upd H2 t (.tup [.str "name", .str n', .bl (decide (n' ∈ S))])) D (.lst (us ++ [.ref t])) D = some (.lst (us ++ [.ref t])) := upd_same
      have st5 : STup H2 (upd (upd H2 t (.tup [.str "name", .str n', .bl (decide (n' ∈ S))])) D (.lst (us ++ [.ref t]))) := (STup.new nt).trans (STup.lst (kn hD nt))
      have hb5 := st5 _ _ hb
      have h35 := thMR_tup st5 h3
      have hS5 := s5 _ _ hS
      generalize upd (upd H2 t (.tup [.str "name", .str n', .bl (decide (n' ∈ S))])) D (.lst (us ++ [.ref t])) = H5 at *
      refine ⟨_, rfl, b, _, 0, _, rfl, rfl, SqT.of hb5, atI_nat (j := 0) rfl, rfl, _, rfl, iteD (by decide +kernel) ?_⟩
      refine ⟨_, rfl, .inl ⟨rfl, _, SqL.of hD5⟩, _, rfl, b, _, 2, _, rfl, rfl, SqT.of hb5, atI_nat (j := 2) rfl, (show 3 ≤ sizeLine by decide), fun t2 nt2 => ?_⟩
      refine ⟨D, _, _, rfl, rfl, kn hD5 nt2, small1000 (by rw [List.length_append, List.length_singleton]; omega), ?_⟩
      obtain ⟨s6, hus6⟩ := put H5 _ _ ("bound", x', false) t2 s5 hD5 hus5 nt2
      have hD6 : upd (upd H5 t2 (.tup [.str "bound", .str x', .bl false])) D (.lst (us ++ [.ref t] ++ [.ref t2])) D = some (.lst (us ++ [.ref t] ++ [.ref t2])) := upd_same
      have st6 : STup H5 (upd (upd H5 t2 (.tup [.str "bound", .str x', .bl false])) D (.lst (us ++ [.ref t] ++ [.ref t2]))) := (STup.new nt2).trans (STup.lst (kn hD5 nt2))
      have hb6 := st6 _ _ hb5
      have h36 := thMR_tup st6 h35
      have hS6 := s6 _ _ hS
      generalize upd (upd H5 t2 (.tup [.str "bound", .str x', .bl false])) D (.lst (us ++ [.ref t] ++ [.ref t2])) = H6 at *
      refine ⟨_, rfl, .inl ⟨rfl, _, SqL.of hD6⟩, _, rfl, b, _, 3, _, rfl, rfl, SqT.of hb6, atI_nat (j := 3) rfl, _, rfl, _, rfl, b, _, 2, _, rfl, rfl, SqT.of hb6, atI_nat (j := 2) rfl, (show 1 ≤ sizeLine by decide), fun l1 nl1 => ?_⟩
      refine ⟨aS, l1, _, _, rfl, rfl, kn hS6 nl1, upd_same, small (by rw [List.length_map]; show S.length + 1 ≤ 1000; omega), fun A1 nA1 => ?_⟩
      have eS : S.map V.str ++ [V.str x'] = (S ++ [x']).map V.str := by rw [List.map_append]; rfl
      rw [eS]
      have s7 : Same H6 (upd (upd H6 l1 (.lst [.str x'])) A1 (.lst ((S ++ [x']).map V.str))) := fun b o e => kn (kn e nl1) nA1
      have hA7 : upd (upd H6 l1 (.lst [.str x'])) A1 (.lst ((S ++ [x']).map V.str)) A1 = some (.lst ((S ++ [x']).map V.str)) := upd_same
      generalize upd (upd H6 l1 (.lst [.str x'])) A1 (.lst ((S ++ [x']).map V.str)) = H7 at *
      refine ⟨u3, r', A1, S ++ [x'], rfl, thMR_tup (STup.of s7) h36, hA7, by omega, by omega, by rw [List.length_append, List.length_singleton]; omega, fun H8 pp us2 s8 np hpp hus2 => ?_⟩
      have hD8 := s8 _ _ (s7 _ _ hD6)
      have hus8 := hus6.mono ((STup.of s7).trans (STup.of s8))
      have l8 := MEntsAt.len hus2
      rw [meMs_len] at l8
      refine ⟨D, pp, _, _, rfl, rfl, hD8, hpp, small (by rw [List.length_append, List.length_append, List.length_singleton, List.length_singleton]; omega), ?_⟩
      have st8 : STup H8 (upd H8 D (.lst (us ++ [.ref t] ++ [.ref t2] ++ us2))) := STup.lst hD8
      refine ⟨own (s6.trans (s7.trans s8)), ⟨_, upd_same, ?_⟩, _, rfl⟩
      rw [eme]
      have := MEntsAt.app (hus2.mono st8) (hus8.mono st8)
      rw [List.append_assoc (meMs S (r.take i) ++ _), List.append_assoc (meMs S (r.take i))] at this
      exact this
  · obtain ⟨sm, ⟨us, hD, hus⟩, s3, rfl⟩ := hP
    rw [lx, List.take_length] at hus
    exact ⟨_, rfl, q H' D us sm nD hD hus⟩
theorem mmet_none {f : Addr} {fd : FuncData} {k : Nat} : FnOk P w K mg base CX0 k f fd psMM (spMMet 0) := by
  have no : ∀ vs H Q E, ¬ spMMet 0 vs H Q E := fun vs H Q E h => by
    obtain ⟨_, _, _, _, _, _, _, h1, _⟩ := h
    omega
  exact ⟨fun vs H Q E h => absurd h (no vs H Q E), fun A outer s H args us vs Q E _ _ _ _ h => absurd h (no vs H Q E)⟩
theorem mmet_ok {f : Addr} {fd : FuncData} (F : Fun K "_law_met" "_law_met" sMMet f fd)
    (bF : Binds K fd psMM []) (mF : mg "_law_met" = some (.ref f)) : ∀ n : Nat, FnOk P w K mg base CX0 (n + 1) f fd psMM (spMMet n)
  | 0 => mmet_none
  | n + 1 => ok_mmet F (mmet_ok F bF mF n) bF mF
end
end K54

set_option Elab.async false
set_option linter.all false
set_option maxRecDepth 100000
set_option maxHeartbeats 400000
namespace K54
open PySem PySem.Spec PyProof.Rows L2 Wk GxR
abbrev sLMl : Stmt := topS 35
abbrev nmLMl : List Str := ["_law_thing", "_law_some", "_law_bound", "_law_kind", "_law_name", "_law_inner"]
theorem scLMl : FnScope nmLMl ["_law_thing"] (defScope sLMl) := ⟨rfl, rfl, rfl, by decide +kernel, rfl, by decide +kernel, by decide +kernel⟩
abbrev gE (K : PySem.W.Frag) := gTup K 3 (gCons (gName 3) (gCons (gName 4) (gCons (gName 5) gNil)))
section
variable {P : Program} {w : World} {K : PySem.W.Frag} {mg : Str → Option Value} {base : Heap}
theorem ok_lmail {f fR fS fM : Addr} {fd fdR fdS fdM : FuncData} (F : Fun K "_law_is_mail" "_law_is_mail" sLMl f fd) (ml : mg "len" = none) (ms : mg "set" = none)
    (GR : FnOk P w K mg base CX0 6 fR fdR psLP (spLParts 5)) (bR : Binds K fdR psLP []) (kR : PySem.W.keepIn K (.ref fR) = true) (mR : mg "_law_are_parts" = some (.ref fR))
    (GS : FnOk P w K mg base CX0 6 fS fdS ["_law_mail_here"] (spMSize 5)) (bS : Binds K fdS ["_law_mail_here"] []) (kS : PySem.W.keepIn K (.ref fS) = true) (mS : mg "_law_mail_size" = some (.ref fS))
    (GM : FnOk P w K mg base CX0 6 fM fdM psMM (spMMet 5)) (bM : Binds K fdM psMM []) (kM : PySem.W.keepIn K (.ref fM) = true) (mM : mg "_law_met" = some (.ref fM)) :
    FnOk P w K mg base CX0 7 f fd ["_law_thing"] spLMail := by
  refine F.ok scLMl (fun vs H Q E h => ?_) (fun cdv A outer s H vs Q E hr h => ?_)
  · obtain ⟨_, _, rfl, _⟩ := h
    rfl
  obtain ⟨v, t, rfl, ht, ok, hhd, q⟩ := h
  refine ⟨_, pss_cons (ps_if (PW.pt (pw_or (pt_not (pt_val (pe_call GR hr (by rfl) mR kR bR .nil pass0 (pa_cons (pv 0) (pa_cons pe_int pa_nil))))) (pw_or1 (pt_cmpR op_gt (pe_call GS hr (by rfl) mS kS bS .nil pass0 (pa_cons (pv 0) pa_nil)) pe_int (nomark _))))) (pss_one (ps_ret pe_bl)) pss_nil)
    (pss_cons (ps_set (i := 1) scLMl.nd rfl (.inl rfl) (pe_call GM hr (by rfl) mM kM bM .nil pass0 (pa_cons (pv 0) (pa_cons (pe_lst pa_nil) pa_nil))))
    (pss_cons (ps_set (i := 2) scLMl.nd rfl (.inr rfl) (pe_lc (own := [("_law_kind", 3), ("_law_name", 4), ("_law_inner", 5)]) (g := gE K) (tt := tTest (tOp rEq (tVar 3) (tC (.str "bound")))) (te := tVar 4) (by rfl) scLMl.nd (pi_list (pv 1))
          (blkOk_by (own := [("_law_kind", 3), ("_law_name", 4), ("_law_inner", 5)]) (N := nmLMl) (sc := defScope sLMl) (by decide +kernel))
          (fun _ _ _ _ _ => pg_tup rfl (pgs_cons (pg_name (i := 3) scLMl.nd rfl (Or.inl rfl)) (pgs_cons (pg_name (i := 4) scLMl.nd rfl (Or.inl rfl)) (pgs_cons (pg_name (i := 5) scLMl.nd rfl (Or.inl rfl)) pgs_nil))))
          (fun _ _ _ _ _ => pts_one (pt_cmpR op_eq (pv 3) pe_str (nomark _))) (fun _ _ _ _ _ => pv 4)))
    (pss_cons (ps_if (PW.pt (pw_or (pt_cmpR op_gt (pe_callB call_len_seq (by rfl) ml PySem.boot_len (pa_cons (pv 2) pa_nil)) pe_int (nomark _))
        (pw_or1 (pt_cmpR op_ne (pe_callB cr_lenTx (by rfl) ml PySem.boot_len (pa_cons (pe_callTy (cr_setTx rfl) (by rfl) ms (by decide +kernel) (pa_cons (pv 2) pa_nil)) pa_nil)) (pe_callB call_len_seq (by rfl) ml PySem.boot_len (pa_cons (pv 2) pa_nil)) (nomark _))))) (pss_one (ps_ret pe_bl)) pss_nil)
    (pss_one (ps_ret (pe_cmpR (op_eqL0 hr.units) (pe_lc (own := [("_law_kind", 3), ("_law_name", 4), ("_law_inner", 5)]) (g := gE K) (tt := tAnd (tTest (tOp rEq (tVar 3) (tC (.str "name")))) (tAnd (tNot (tB (tVar 5))) (tTest (tOp (rIn K false) (tVar 4) (tVar 2))))) (te := tVar 4) (by rfl) scLMl.nd (pi_list (pv 1))
          (blkOk_by (own := [("_law_kind", 3), ("_law_name", 4), ("_law_inner", 5)]) (N := nmLMl) (sc := defScope sLMl) (by decide +kernel))
          (fun _ _ _ _ _ => pg_tup rfl (pgs_cons (pg_name (i := 3) scLMl.nd rfl (Or.inl rfl)) (pgs_cons (pg_name (i := 4) scLMl.nd rfl (Or.inl rfl)) (pgs_cons (pg_name (i := 5) scLMl.nd rfl (Or.inl rfl)) pgs_nil))))
          (fun _ _ _ _ _ => pts_one (PW.pt (pw_and (pt_cmpR op_eq (pv 3) pe_str (nomark _)) (pw_and (pt_not (pt_val (pv 5))) (pw_and1 (pt_cmpR op_in_seq (pv 4) (pv 2) rfl)))))) (fun _ _ _ _ _ => pv 4)) (pe_lst pa_nil) (nomark _))))))), ?_⟩
  refine ⟨_, rfl, v, t, 4, rfl, ht, ok, hhd, by decide, fun H1 b s1 hb => ⟨_, rfl, ?_⟩⟩
  cases b with
  | false =>
    refine iteT (iteT (q H1 false s1 ⟨(fun e => by cases e), fun ⟨r, e, hh⟩ => ?_⟩))
    exact absurd (hb.mpr ⟨r, e, hh.ok, hh.deep⟩) Bool.false_ne_true
  | true =>
    refine iteF ?_
    obtain ⟨r, rfl, hok, hdp⟩ := hb.mp rfl
    have hR1 : ThAt H1 (thMR r) v := ThAt.mono (Kpt.same s1) _ _ ht
    have inj : ∀ r', thMR r = thMR r' → MailR r' → MailR r := fun r' e hh => by rw [thMR_inj e]; exact hh
    have hno : ∀ (H' : Hp), Same H H' → ¬ MailR r → Q (.bl false) H' := fun H' s' c => q H' false s' ⟨(fun e => by cases e), fun ⟨r', e, hh⟩ => absurd (inj r' e hh) c⟩
    refine ⟨_, rfl, v, r, rfl, hR1, by omega, _, _, rfl, rfl, _, rfl, ite2 (fun g => ?_) (fun g => ?_)⟩
    · refine hno _ s1 fun hh => ?_
      have g := of_decide_eq_true g
      have := hh.size
      omega
    have hsz : sizeMs r ≤ 20 := by
      by_cases c : sizeMs r ≤ 20
      · exact c
      · exact absurd (decide_eq_true (by omega)) g
    clear g
    refine ⟨_, rfl, (show 0 ≤ sizeLine by decide), fun e0 ne0 => ?_⟩
    refine ⟨v, r, e0, [], rfl, thMR_tup (STup.new ne0) hR1, upd_same, by omega, by omega, by show 0 + deepMs r ≤ 900; omega, fun H3 p us s3 np hp hus => ?_⟩
    have s03 : Same H H3 := s1.trans ((same_new ne0).trans s3)
    have ebd := me_bdMs r []
    have efr := me_frMs r []
    have les := meMs_len r []
    have lus := MEntsAt.len hus
    have lb := bd_sizeMs r
    generalize meMs [] r = es at *
    clear s3 np ne0 hR1 s1
    refine ⟨_, rfl, p, rfl, ⟨us, SqL.of hp⟩, fun D nD => ?_⟩
    refine lc_it (walk_list (xs := us)) (fun j H' => Same H3 H' ∧ H' D = some (.lst ((bndE (es.take j)).map V.str))) ⟨same_new nD, upd_same⟩ (fun j H' _ hP => SqL.of (hP.1 _ _ hp)) (fun j y H4 H5 hj hP hY => ?_) (fun H4 hP => ?_)
    · obtain ⟨rfl, hy⟩ := hY
      obtain ⟨sm, hD⟩ := hP
      obtain ⟨e, he, t', rfl, ht'⟩ := MEntsAt.get hus hy
      have tk : es.take (j + 1) = es.take j ++ [e] := by rw [List.take_add_one, he]; rfl
      have lo : (bndE (es.take j)).length ≤ 1000 := by
        unfold bndE
        rw [List.length_map]
        refine Nat.le_trans (List.length_filter_le _ _) ?_
        rw [List.length_take]
        omega
      refine ⟨t', _, rfl, SqT.of (sm _ _ ht'), rfl, _, _, rfl, _, _, rfl, _, _, rfl, rfl, rfl, _, rfl, rfl, _, rfl, ite2 (fun c => ?_) (fun c => ?_)⟩
      · refine ⟨_, rfl, _, hD, by rw [List.length_map]; exact small1000 lo, fun b o eb => by rw [upd_ne (ne_of_none eb nD)]; exact sm _ _ eb, ?_⟩
        have ec : e.1 = "bound" := str_eq c
        rw [upd_same, tk, bndE_app, List.map_append]
        unfold bndE
        rw [List.filter_cons (x := e), if_pos (decide_eq_true ec)]
        rfl
      · refine ⟨sm, ?_⟩
        have ec : ¬ e.1 = "bound" := str_ne c
        rw [tk, bndE_app, hD]
        unfold bndE
        rw [List.filter_cons (x := e), if_neg (fun z => ec (of_decide_eq_true z))]
        simp
    obtain ⟨sm, hD⟩ := hP
    rw [lus, List.take_length, ebd] at hD
    have hp4 := sm _ _ hp
    have s04 := s03.trans sm
    have hus4 := hus.mono (STup.of sm)
    clear hp hus sm nD
    have eb : scanBound = 4096 := rfl
    refine ⟨_, rfl, D, _, rfl, .inl (SqL.of hD), _, _, rfl, rfl, _, rfl, ite2 (fun g => ?_) (fun g => ?_)⟩
    · refine iteT (hno _ s04 fun hh => ?_)
      have g := of_decide_eq_true g
      rw [List.length_map] at g
      have := hh.gets
      omega
    have hg : (bdMs r).length ≤ 10 := by
      by_cases c : (bdMs r).length ≤ 10
      · exact c
      · exact absurd (decide_eq_true (by rw [List.length_map]; omega)) g
    clear g
    refine ⟨_, rfl, D, bdMs r, rfl, SqL.of hD, by omega, fun pp L np nd hm hL => ?_⟩
    refine ⟨pp, L, rfl, upd_same, ?_⟩
    refine ⟨_, rfl, D, _, rfl, .inl (SqL.of (kn hD np)), rfl, _, rfl, ?_⟩
    have s05 := s04.trans (same_new (o := TxO P w pp L) np)
    have hp5 : upd H4 pp (TxO P w pp L) p = _ := kn hp4 np
    have hD5 : upd H4 pp (TxO P w pp L) D = _ := kn hD np
    have hus5 := hus4.mono (STup.new (o := TxO P w pp L) np)
    have el : (!decide (V.int (L.length : Nat) = V.int (((bdMs r).map V.str).length : Nat))) = !decide (L.length = (bdMs r).length) := by
      rw [List.length_map]
      by_cases e : L.length = (bdMs r).length
      · rw [e, decide_eq_true rfl, decide_eq_true rfl]
      · rw [decide_eq_false e, decide_eq_false (by intro h; exact e (by have := V.int.inj h; omega))]
    rw [el]
    by_cases c2 : L.length = (bdMs r).length
    rotate_left
    · refine iteU (by rw [decide_eq_false c2]; rfl) (hno _ s05 fun hh => c2 ?_)
      exact Nat.le_antisymm (sub_len L (bdMs r) nd fun x hx => (hm x).mp hx) (sub_len (bdMs r) L hh.nd fun x hx => (hm x).mpr hx)
    refine iteD (by rw [decide_eq_true c2]; rfl) ?_
    have bnd : (bdMs r).Nodup := nodup_of_len nd (fun x hx => (hm x).mpr hx) c2 (fun x hx => (hm x).mp hx)
    have okV : ∀ b : Bool, (b = true ↔ ∀ x ∈ bdMs r, x ∉ frMs [] r) → ∀ H', Same H H' → Q (.bl b) H' := fun b hb H' s' => q H' b s' ⟨fun e => ⟨r, rfl, hok, hsz, hdp, hg, bnd, hb.mp e⟩, fun ⟨r', e, hh⟩ => hb.mpr (inj r' e hh).apart⟩
    refine ⟨_, rfl, p, rfl, ⟨_, SqL.of hp5⟩, fun D2 nD2 => ?_⟩
    refine lc_it (walk_list (xs := us)) (fun j H' => Same (upd H4 pp (TxO P w pp L)) H' ∧ H' D2 = some (.lst (((freE (es.take j)).filter fun x => decide (x ∈ bdMs r)).map V.str))) ⟨same_new nD2, upd_same⟩ (fun j H' _ hP => SqL.of (hP.1 _ _ hp5)) (fun j y H6 H7 hj hP hY => ?_) (fun H6 hP => ?_)
    · obtain ⟨rfl, hy⟩ := hY
      obtain ⟨sm, hD2⟩ := hP
      obtain ⟨e, he, t', rfl, ht'⟩ := MEntsAt.get hus5 hy
      have tk : es.take (j + 1) = es.take j ++ [e] := by rw [List.take_add_one, he]; rfl
      have lo : ((freE (es.take j)).filter fun x => decide (x ∈ bdMs r)).length ≤ 1000 := by
        refine Nat.le_trans (List.length_filter_le _ _) ?_
        unfold freE
        rw [List.length_map]
        refine Nat.le_trans (List.length_filter_le _ _) ?_
        rw [List.length_take]
        omega
      have skip : (freE [e] = [] ∨ e.2.1 ∉ bdMs r) → Same (upd H4 pp (TxO P w pp L)) H7 ∧ H7 D2 = some (.lst (((freE (es.take (j + 1))).filter fun x => decide (x ∈ bdMs r)).map V.str)) := fun h => by
        refine ⟨sm, ?_⟩
        have e0 : (freE [e]).filter (fun x => decide (x ∈ bdMs r)) = [] := by
          rcases h with h | h
          · rw [h]; rfl
          · unfold freE
            rw [List.filter_cons (x := e)]
            split
            · show List.filter _ [e.2.1] = []
              rw [List.filter_cons_of_neg (by simpa using h)]
              rfl
            · rfl
        rw [tk, freE_app, List.filter_append, e0, List.append_nil]
        exact hD2
      refine ⟨t', _, rfl, SqT.of (sm _ _ ht'), rfl, _, _, rfl, _, _, rfl, _, _, rfl, rfl, rfl, _, rfl, rfl, _, rfl, ite2 (fun c => ?_) (fun c => ?_)⟩
      rotate_left
      · refine iteF (skip (.inl ?_))
        unfold freE
        rw [List.filter_cons (x := e), if_neg (fun z => str_ne c (of_decide_eq_true (Bool.and_eq_true_iff.mp z).1))]
        rfl
      have ec : e.1 = "name" := str_eq c
      refine ⟨_, rfl, _, rfl, ?_⟩
      by_cases ci : e.2.2 = true
      · rw [ci]
        refine iteF (iteF (skip (.inl ?_)))
        unfold freE
        rw [List.filter_cons (x := e), if_neg (fun z => by
          have := (Bool.and_eq_true_iff.mp z).2
          rw [ci] at this
          cases this)]
        rfl
      have ci' : e.2.2 = false := Bool.eq_false_iff.mpr ci
      rw [ci']
      refine iteT ⟨_, rfl, _, rfl, D, _, rfl, .inl (SqL.of (sm _ _ hD5)), rfl, Wk.flat_strs _, _, rfl, ?_⟩
      rw [inV_strs, if_neg Bool.false_ne_true]
      by_cases cb : e.2.1 ∈ bdMs r
      · refine iteU (decide_eq_true cb) ?_
        refine ⟨_, rfl, _, hD2, by rw [List.length_map]; exact small1000 lo, fun b o eb => by rw [upd_ne (ne_of_none eb nD2)]; exact sm _ _ eb, ?_⟩
        have e0 : (freE [e]).filter (fun x => decide (x ∈ bdMs r)) = [e.2.1] := by
          unfold freE
          rw [List.filter_cons (x := e), if_pos (by rw [ci', decide_eq_true ec]; rfl)]
          show List.filter _ [e.2.1] = _
          rw [List.filter_cons_of_pos (by simpa using cb)]
          rfl
        rw [upd_same, tk, freE_app, List.filter_append, e0, List.map_append]
        rfl
      · exact iteD (decide_eq_false cb) (skip (.inr cb))
    · obtain ⟨sm, hD2⟩ := hP
      rw [lus, List.take_length, efr] at hD2
      refine ⟨Nat.zero_le _, fun E2 nE => ?_⟩
      refine ⟨_, _, _, rfl, rfl, SqL.of (kn hD2 nE), SqL.of upd_same, ?_⟩
      refine okV _ ?_ _ (s05.trans (sm.trans (same_new nE)))
      show (List.map V.str _).isEmpty = true ↔ _
      rw [List.isEmpty_iff, List.map_eq_nil_iff, List.filter_eq_nil_iff]
      exact ⟨fun h x hb hf => h x hf (decide_eq_true hb), fun h x hf hb => h x (of_decide_eq_true hb) hf⟩
end
end K54

set_option Elab.async false
set_option linter.all false
set_option maxRecDepth 100000
set_option maxHeartbeats 400000
namespace K54
open PySem PySem.Spec PyProof.Rows L2 Wk GxR
abbrev sMAsk : Stmt := topS 37
abbrev nmMA : List Str := ["_law_thing", "_law_found", "_law_due", "_law_turn", "_law_told", "_law_kind", "_law_name", "_law_inner"]
theorem scMAsk : FnScope nmMA ["_law_thing"] (defScope sMAsk) := ⟨rfl, rfl, rfl, by decide +kernel, rfl, by decide +kernel, by decide +kernel⟩
abbrev gA (K : PySem.W.Frag) := gTup K 3 (gCons (gName 5) (gCons (gName 6) (gCons (gName 7) gNil)))
section
variable {P : Program} {w : World} {K : PySem.W.Frag} {mg : Str → Option Value} {base : Heap} {Ts : List Addr}
theorem ok_masked {f fH fL fM fN : Addr} {fd fdH fdL fdM fdN : FuncData} (F : Fun K "_law_asked" "_law_asked" sMAsk f fd) (mi : mg "isinstance" = none) (mb : mg "bool" = none) (ml : mg "list" = none) (ms : mg "set" = none) (mo : mg "sorted" = none) (mr : mg "range" = none)
    (GH : FnOk P w K mg base CX0 8 fH fdH ["thing"] (spMail Ts)) (bH : Binds K fdH ["thing"] []) (kH : PySem.W.keepIn K (.ref fH) = true) (mH : mg "is_mail" = some (.ref fH))
    (GL : FnOk P w K mg base CX0 7 fL fdL ["_law_thing"] spLMail) (bL : Binds K fdL ["_law_thing"] []) (kL : PySem.W.keepIn K (.ref fL) = true) (mL : mg "_law_is_mail" = some (.ref fL))
    (GM : FnOk P w K mg base CX0 6 fM fdM psMM (spMMet 5)) (bM : Binds K fdM psMM []) (kM : PySem.W.keepIn K (.ref fM) = true) (mM : mg "_law_met" = some (.ref fM))
    (GN : FnOk P w K mg base CX0 8 fN fdN ["mail"] (spMNames 5)) (bN : Binds K fdN ["mail"] []) (kN : PySem.W.keepIn K (.ref fN) = true) (mN : mg "mail_names" = some (.ref fN)) :
    FnOk P w K mg base CX0 9 f fd ["_law_thing"] (spMAsked Ts) := by
  refine F.ok scMAsk (fun vs H Q E h => ?_) (fun cdv A outer s H vs Q E hr h => ?_)
  · obtain ⟨_, _, rfl, _⟩ := h
    rfl
  obtain ⟨v, t, rfl, ht, ok, hhd, tg, q⟩ := h
  refine ⟨_, pss_cons (ps_set (i := 1) scMAsk.nd rfl (.inl rfl) (pe_call GH hr (by rfl) mH kH bH .nil pass0 (pa_cons (pv 0) pa_nil)))
    (pss_cons (ps_if (PW.pt (pw_or (pt_not (pt_val (pe_callB call_isi (by rfl) mi (by decide +kernel) (pa_cons (pv 1) (pa_cons (pe_bltn (v := .ty "bool") (by rfl) mb (by decide +kernel) rfl) pa_nil)))))
        (pw_or1 (pt_cmpR op_ne (pv 1) (pe_call GL (hr.mono (by decide)) (by rfl) mL kL bL .nil pass0 (pa_cons (pv 0) pa_nil)) (nomark _))))) (pss_one (ps_ret pe_bl)) pss_nil)
    (pss_cons (ps_if (pt_not (pt_val (pv 1))) (pss_one (ps_ret pe_bl)) pss_nil)
    (pss_cons (ps_set (i := 2) scMAsk.nd rfl (.inl rfl) (pe_callB (cr_sortedTx rfl) (by rfl) mo (by decide +kernel) (pa_cons (pe_callTy (cr_setTx rfl) (by rfl) ms (by decide +kernel) (pa_cons
        (pe_lc (own := [("_law_kind", 5), ("_law_name", 6), ("_law_inner", 7)]) (g := gA K) (tt := tAnd (tTest (tOp rEq (tVar 5) (tC (.str "name")))) (tNot (tB (tVar 7)))) (te := tVar 6) (by rfl) scMAsk.nd (pi_list (pe_call GM (hr.mono (by decide)) (by rfl) mM kM bM .nil pass0 (pa_cons (pv 0) (pa_cons (pe_lst pa_nil) pa_nil))))
          (blkOk_by (own := [("_law_kind", 5), ("_law_name", 6), ("_law_inner", 7)]) (N := nmMA) (sc := defScope sMAsk) (by decide +kernel))
          (fun _ _ _ _ _ => pg_tup rfl (pgs_cons (pg_name (i := 5) scMAsk.nd rfl (Or.inl rfl)) (pgs_cons (pg_name (i := 6) scMAsk.nd rfl (Or.inl rfl)) (pgs_cons (pg_name (i := 7) scMAsk.nd rfl (Or.inl rfl)) pgs_nil))))
          (fun _ _ _ _ _ => pts_one (PW.pt (pw_and (pt_cmpR op_eq (pv 5) pe_str (nomark _)) (pw_and1 (pt_not (pt_val (pv 7))))))) (fun _ _ _ _ _ => pv 6)) pa_nil)) pa_nil)))
    (pss_cons (ps_for PassesOwn.never rfl (pi_range1 rfl mr (pa_cons pe_int pa_nil)) (pg_name (i := 3) scMAsk.nd rfl (.inl rfl))
      (pss_cons (ps_set (i := 4) scMAsk.nd rfl (.inl rfl) (pe_call GN hr (by rfl) mN kN bN .nil pass0 (pa_cons (pv 0) pa_nil)))
      (pss_cons (ps_if (PW.pt (pw_or (pt_not (pt_val (pe_callB call_isi (by rfl) mi (by decide +kernel) (pa_cons (pv 4) (pa_cons (pe_bltn (v := .ty "list") (by rfl) ml (by decide +kernel) rfl) pa_nil)))))
          (pw_or1 (pt_cmpR (op_neD hr.units) (pv 4) (pv 2) (nomark _))))) (pss_one (ps_ret pe_bl)) pss_nil)
      (pss_one (ps_expr (pe_bm PySem.F.plainAttrs_list PySem.F.slot_list_append PySem.F.type_list_append mt_append (pv 4) (pa_cons pe_str pa_nil)))))))
    (pss_one (ps_ret pe_bl)))))), ?_⟩
  refine ⟨_, rfl, v, t, rfl, ht, ok, tg, fun H1 b s1 hb => ?_⟩
  refine ⟨_, rfl, .bl b, .ty "bool", .type "bool", .type "bool", true, rfl, .ty "bool", .base (.bl b), kit_ty (show kitB "bool" "bool" = some true by decide +kernel), _, rfl, iteF ?_⟩
  refine ⟨_, rfl, _, rfl, v, t, rfl, ThAt.mono (Kpt.of tg s1) t v ht, ok, hhd, fun H2 b2 s2 hb2 => ⟨rfl, ?_⟩⟩
  have e : b = b2 := by
    rw [Bool.eq_iff_iff, hb, hb2]
  subst e
  refine ⟨_, rfl, iteD (by rw [decide_eq_true rfl]; rfl) ?_⟩
  have st2 := s1.sm s2
  refine ⟨_, rfl, _, rfl, ?_⟩
  cases b with
  | false => exact iteT (q H2 st2)
  | true =>
    refine iteF ?_
    obtain ⟨r, rfl, hM⟩ := hb.mp rfl
    have hsz := hM.size
    have hdp := hM.deep
    have hR2 : ThAt H2 (thMR r) v := ThAt.mono (Kpt.of tg st2) _ _ ht
    have lf := fr_sizeMs r []
    refine ⟨_, rfl, (show 0 ≤ sizeLine by decide), fun e0 ne0 => ?_⟩
    refine ⟨v, r, e0, [], rfl, thMR_tup (STup.new ne0) hR2, upd_same, by omega, by omega, by show 0 + deepMs r ≤ 900; omega, fun H3 p us s3 np hp hus => ?_⟩
    have st3 : SamTs Ts H H3 := st2.sm ((same_new ne0).trans s3)
    have efr := me_frMs r []
    have les := meMs_len r []
    have lus := MEntsAt.len hus
    generalize meMs [] r = es at *
    refine ⟨p, rfl, ⟨us, SqL.of hp⟩, fun D nD => ?_⟩
    refine lc_it (walk_list (xs := us)) (fun j H' => Same H3 H' ∧ H' D = some (.lst ((freE (es.take j)).map V.str))) ⟨same_new nD, upd_same⟩ (fun j H' _ hP => SqL.of (hP.1 _ _ hp)) (fun j y H4 H5 hj hP hY => ?_) (fun H4 hP => ?_)
    · obtain ⟨rfl, hy⟩ := hY
      obtain ⟨sm, hD⟩ := hP
      obtain ⟨e, he, t', rfl, ht'⟩ := MEntsAt.get hus hy
      have tk : es.take (j + 1) = es.take j ++ [e] := by rw [List.take_add_one, he]; rfl
      have lo : (freE (es.take j)).length ≤ 1000 := by
        unfold freE
        rw [List.length_map]
        refine Nat.le_trans (List.length_filter_le _ _) ?_
        rw [List.length_take]
        omega
      have skip : freE [e] = [] → Same H3 H5 ∧ H5 D = some (.lst ((freE (es.take (j + 1))).map V.str)) := fun h => by
        refine ⟨sm, ?_⟩
        rw [tk, freE_app, h, List.append_nil]
        exact hD
      refine ⟨t', _, rfl, SqT.of (sm _ _ ht'), rfl, _, _, rfl, _, _, rfl, _, _, rfl, rfl, rfl, _, rfl, rfl, _, rfl, ite2 (fun c => ?_) (fun c => ?_)⟩
      rotate_left
      · refine iteF (skip ?_)
        unfold freE
        rw [List.filter_cons (x := e), if_neg (fun z => str_ne c (of_decide_eq_true (Bool.and_eq_true_iff.mp z).1))]
        rfl
      have ec : e.1 = "name" := str_eq c
      refine ⟨_, rfl, _, rfl, ?_⟩
      by_cases ci : e.2.2 = true
      · rw [ci]
        refine iteF (skip ?_)
        unfold freE
        rw [List.filter_cons (x := e), if_neg (fun z => by
          have := (Bool.and_eq_true_iff.mp z).2
          rw [ci] at this
          cases this)]
        rfl
      have ci' : e.2.2 = false := Bool.eq_false_iff.mpr ci
      rw [ci']
      refine iteT ⟨_, rfl, _, hD, by rw [List.length_map]; exact small1000 lo, fun b o eb => by rw [upd_ne (ne_of_none eb nD)]; exact sm _ _ eb, ?_⟩
      rw [upd_same, tk, freE_app, List.map_append]
      unfold freE
      rw [List.filter_cons (x := e), if_pos (by rw [ci', decide_eq_true ec]; rfl)]
      rfl
    obtain ⟨sm, hD⟩ := hP
    rw [lus, List.take_length, efr] at hD
    have st4 := st3.sm sm
    have ln : (frMs [] r).length + 1 < scanBound := by
      have e : scanBound = 4096 := rfl
      omega
    refine ⟨D, frMs [] r, rfl, SqL.of hD, ln, fun pp L np nd hm _ => ?_⟩
    have l64 : L.length < 64 := by
      have := sub_len L (frMs [] r) nd fun x hx => (hm x).mp hx
      omega
    refine ⟨pp, L, rfl, upd_same, l64, fun ys u pm so nu => ?_⟩
    have st5 : SamTs Ts H (upd (upd H4 pp (TxO P w pp L)) u (.lst (ys.map V.str))) := (st4.new np).new nu
    have hu : upd (upd H4 pp (TxO P w pp L)) u (.lst (ys.map V.str)) u = some (.lst (ys.map V.str)) := upd_same
    have ndy : ys.Nodup := pm.nodup_iff.mpr nd
    have my : ∀ x, x ∈ ys ↔ x ∈ frMs [] r := fun x => by rw [pm.mem_iff, hm x]
    have oky : ∀ z ∈ ys, PyData.strOk z = true := fun z hz => (mn_sh (fr_mnMs r [] hM.ok z ((my z).mp hz))).ok
    have ly : ys.length ≤ 40 := by
      have := sub_len ys (frMs [] r) ndy fun x hx => (my x).mp hx
      omega
    refine ⟨2, rfl, by decide, by decide, for_range (n := 2) (lo := 0) (fun i σ H' => SamTs Ts H H' ∧ H' u = some (.lst (ys.map V.str)) ∧ ∃ s3 s4 s5 s6 s7 : Option V, σ = [some v, some (.bl true), some (.ref u), s3, s4, s5, s6, s7])
      ⟨st5, hu, _, _, _, _, _, rfl⟩ (fun i σ H' hi hP => ?_) fun σ H' hP => ?_⟩
    · obtain ⟨st6, hu6, s3, s4, s5, s6, s7, rfl⟩ := hP
      refine ⟨_, rfl, v, r, rfl, ThAt.mono (Kpt.of tg st6) _ _ ht, by omega, hsz, by omega, fun H7 a zs sm7 na ndz mz soz ha => ?_⟩
      have ez : zs = ys := sorted_uniq soz so ndz ndy fun x => (mz x).trans (my x).symm
      subst ez
      have hu7 := sm7 _ _ hu6
      refine ⟨_, rfl, .ref a, .ty "list", .type "list", .type "list", true, rfl, .ty "list", .base (.lst ha), kit_ty (show kitB "list" "list" = some true by decide +kernel), _, rfl, iteF ?_⟩
      refine ⟨_, rfl, _, rfl, _, _, .lst (SqL.of ha) (strs_dp zs), .lst (SqL.of hu7) (strs_dp zs), strs_shaped oky, strs_shaped oky, _, rfl, iteD (by rw [strs_eqv oky]; rfl) ?_⟩
      refine ⟨_, rfl, .inl ⟨rfl, _, SqL.of ha⟩, a, _, _, rfl, rfl, ha, small1000 (by rw [List.length_map]; omega), ?_⟩
      have nua : u ≠ a := fun z => by rw [z, na] at hu6; cases hu6
      exact ⟨SamTs.own tg (st6.sm sm7) (SamTs.none tg st6 na), by rw [upd_ne nua]; exact hu7, _, _, _, _, _, rfl⟩
    · exact q H' hP.1
end
end K54

set_option Elab.async false
set_option linter.all false
set_option maxRecDepth 100000
set_option maxHeartbeats 400000
namespace K54
open PySem PySem.Spec PyProof.Rows L2 Wk GxR
abbrev sMBent : Stmt := topS 36
abbrev psMB : List Str := ["_law_mail_here", "_law_left_here", "_law_bound"]
theorem scMBent : FnScope ["_law_mail_here", "_law_left_here", "_law_bound", "_law_at", "_law_part", "_law_way", "_law_place", "_law_other"] psMB (defScope sMBent) := ⟨rfl, rfl, rfl, by decide +kernel, rfl, by decide +kernel, by decide +kernel⟩
section
variable {P : Program} {w : World} {K : PySem.W.Frag} {mg : Str → Option Value} {base : Heap}
theorem ok_mbent {f fD : Addr} {fd fdD : FuncData} {n : Nat} (F : Fun K "_law_bent" "_law_bent" sMBent f fd) (GD : FnOk P w K mg base CX0 1 fD fdD ["_law_left_here", "_law_many"] spDigit) (bD : Binds K fdD ["_law_left_here", "_law_many"] []) (kD : PySem.W.keepIn K (.ref fD) = true)
    (mD : mg "_law_digit" = some (.ref fD)) (ml : mg "len" = none) (mt : mg "list" = none)
    (G : FnOk P w K mg base CX0 (n + 1) f fd psMB (spMBent n)) (bF : Binds K fd psMB []) (mF : mg "_law_bent" = some (.ref f)) : FnOk P w K mg base CX0 (n + 1 + 1) f fd psMB (spMBent (n + 1)) := by
  refine F.ok scMBent (fun vs H Q E h => ?_) (fun cdv A outer s H vs Q E hr h => ?_)
  · obtain ⟨_, _, _, _, _, _, rfl, _⟩ := h
    rfl
  obtain ⟨v, r, L, Bd, x, bs, rfl, hR, hok, hsz, hdp, hL, hBd, hBL, hbs, lbs, q⟩ := h
  have hr1 : Room 1 _ := hr.mono (by omega)
  refine ⟨_, pss_cons (ps_if (pt_cmpR (op_eqT0 hr.units) (pv 0) (pe_tup pa_nil) (nomark _)) (pss_one (ps_ret (pe_tup (pa_cons (pe_tup (pa_cons pe_str (pa_cons pe_str (pa_cons pe_str pa_nil)))) pa_nil)))) pss_nil)
    (pss_cons (ps_set (i := 3) scMBent.nd rfl (.inl rfl) (pe_call GD hr1 (by rfl) mD kD bD .nil pass0 (pa_cons (pv 1) (pa_cons (pe_callB call_len_seq (by rfl) ml PySem.boot_len (pa_cons (pv 0) pa_nil)) pa_nil))))
    (pss_cons (ps_set (i := 4) scMBent.nd rfl (.inl rfl) (pe_ix ix_tup (pv 0) (pv 3) (fun _ _ => rfl)))
    (C8.pss_cut (ps_if (PW.pt (pw_and (pt_cmpR op_eq (pe_ix ix_tup (pv 4) pe_int (fun _ _ => rfl)) pe_str (nomark _)) (pw_and1 (pt_cmpR op_eq (pe_call GD hr1 (by rfl) mD kD bD .nil pass0 (pa_cons (pv 1) (pa_cons pe_int pa_nil))) pe_int (nomark _)))))
      (pss_cons (ps_set (i := 4) scMBent.nd rfl (.inl rfl) (pe_op op_catM (pe_slice sl_tupS (pv 4) po_none (po_some pe_int)) (pe_tup (pa_cons (pe_call G hr (by rfl) mF F.kp bF .nil pass0 (pa_cons (pe_ix ix_tup (pv 4) pe_int (fun _ _ => rfl)) (pa_cons (pv 1) (pa_cons (pv 2) pa_nil)))) pa_nil))))
      (pss_one (ps_ret (pe_op op_catM (pe_op op_catM (pe_slice sl_tupS (pv 0) po_none (po_some (pv 3))) (pe_tup (pa_cons (pv 4) pa_nil))) (pe_slice sl_tupS (pv 0) (po_some (pe_op op_add (pv 3) pe_int)) po_none))))) pss_nil)
    (pss_cons (ps_set (i := 5) scMBent.nd rfl (.inl rfl) (pe_call GD hr1 (by rfl) mD kD bD .nil pass0 (pa_cons (pv 1) (pa_cons pe_int pa_nil))))
    (pss_cons (ps_set (i := 6) scMBent.nd rfl (.inl rfl) (pe_op op_add pe_int (pe_call GD hr1 (by rfl) mD kD bD .nil pass0 (pa_cons (pv 1) (pa_cons pe_int pa_nil)))))
    (C8.pss_cut (ps_if (pt_cmpR op_eq (pv 5) pe_int (nomark _))
        (pss_cons (ps_set (i := 7) scMBent.nd rfl (.inl rfl) (pe_ix ix_list (pe_lst (pa_cons pe_str (pa_cons pe_str (pa_cons pe_str (pa_cons pe_str (pa_cons pe_str (pa_cons pe_non (pa_cons pe_str (pa_cons pe_int (pa_cons pe_str (pa_cons pe_str pa_nil))))))))))) (pe_call GD hr1 (by rfl) mD kD bD .nil pass0 (pa_cons (pv 1) (pa_cons pe_int pa_nil))) (fun _ _ => rfl)))
        (pss_one (ps_set (i := 4) scMBent.nd rfl (.inl rfl) (pe_op op_catM (pe_op op_catM (pe_slice sl_tupS (pv 4) po_none (po_some (pv 6))) (pe_tup (pa_cons (pv 7) pa_nil))) (pe_slice sl_tupA (pv 4) (po_some (pe_op op_add (pv 6) pe_int)) po_none)))))
      (pss_one (ps_if (PW.pt (pw_and (pt_cmpR op_eq (pv 5) pe_int (nomark _)) (pw_and1 (pt_cmpR (op_neL0 hr.units) (pv 2) (pe_lst pa_nil) (nomark _)))))
        (pss_cons (ps_set (i := 7) scMBent.nd rfl (.inl rfl) (pe_ix ix_list (pv 2) (pe_call GD hr1 (by rfl) mD kD bD .nil pass0 (pa_cons (pv 1) (pa_cons (pe_callB call_len_seq (by rfl) ml PySem.boot_len (pa_cons (pv 2) pa_nil)) pa_nil))) (fun _ _ => rfl)))
        (pss_one (ps_set (i := 4) scMBent.nd rfl (.inl rfl) (pe_op op_catM (pe_op op_catM (pe_slice sl_tupS (pv 4) po_none (po_some (pv 6))) (pe_tup (pa_cons (pv 7) pa_nil))) (pe_slice sl_tupA (pv 4) (po_some (pe_op op_add (pv 6) pe_int)) po_none)))))
      (pss_one (ps_if (pt_cmpR op_eq (pv 5) pe_int (nomark _))
        (pss_one (ps_set (i := 4) scMBent.nd rfl (.inl rfl) (pe_op op_catM (pv 4) (pe_tup (pa_cons (pe_tup pa_nil) pa_nil)))))
      (pss_one (ps_if (pt_cmpR op_eq (pv 5) pe_int (nomark _))
        (pss_one (ps_set (i := 4) scMBent.nd rfl (.inl rfl) (pe_slice sl_tupS (pv 4) po_none (po_some (pe_un un_neg pe_int)))))
      (pss_one (ps_if (pt_cmpR op_eq (pv 5) pe_int (nomark _))
        (pss_one (ps_set (i := 4) scMBent.nd rfl (.inl rfl) (pe_callTy call_list_of (by rfl) mt (by decide +kernel) (pa_cons (pv 4) pa_nil))))
      (pss_one (ps_if (pt_cmpR op_eq (pv 5) pe_int (nomark _))
        (pss_one (ps_set (i := 4) scMBent.nd rfl (.inl rfl) (pe_op op_catM (pe_tup (pa_cons (pe_ix ix_list (pe_lst (pa_cons pe_str (pa_cons pe_str (pa_cons pe_str (pa_cons pe_non (pa_cons pe_str pa_nil)))))) (pe_call GD hr1 (by rfl) mD kD bD .nil pass0 (pa_cons (pv 1) (pa_cons pe_int pa_nil))) (fun _ _ => rfl)) pa_nil)) (pe_slice sl_tupS (pv 4) (po_some pe_int) po_none))))
      (pss_one (ps_if (pt_cmpR op_eq (pe_ix ix_tup (pv 4) pe_int (fun _ _ => rfl)) pe_str (nomark _))
        (pss_one (ps_set (i := 4) scMBent.nd rfl (.inl rfl) (pe_op op_catM (pe_slice sl_tupS (pv 4) po_none (po_some pe_int)) (pe_tup (pa_cons (pe_ix ix_list (pe_lst (pa_cons pe_non (pa_cons (pe_callTy call_list_of (by rfl) mt (by decide +kernel) (pa_cons (pe_ix ix_tup (pv 4) pe_int (fun _ _ => rfl)) pa_nil)) (pa_cons (pe_tup (pa_cons (pe_tup (pa_cons pe_str (pa_cons pe_str pa_nil))) pa_nil)) (pa_cons (pv 4) pa_nil))))) (pe_call GD hr1 (by rfl) mD kD bD .nil pass0 (pa_cons (pv 1) (pa_cons pe_int pa_nil))) (fun _ _ => rfl)) pa_nil)))))
        pss_nil)))))))))))))
    (pss_one (ps_ret (pe_op op_catM (pe_op op_catM (pe_slice sl_tupS (pv 0) po_none (po_some (pv 3))) (pe_tup (pa_cons (pv 4) pa_nil))) (pe_slice sl_tupS (pv 0) (po_some (pe_op op_add (pv 3) pe_int)) po_none)))))))))), ?_⟩
  obtain ⟨a, xs, rfl, ha, hps⟩ := hR
  have lx : xs.length = r.length := (ThsAt.len hps).trans (thMs_len r)
  refine ⟨_, rfl, (show 0 ≤ sizeLine by decide), fun e0 ne0 => ?_⟩
  refine ⟨a, e0, xs, rfl, rfl, SqT.of (kn ha ne0), SqT.of upd_same, _, rfl, ?_⟩
  by_cases c0 : r = []
  · have ex : xs = [] := List.length_eq_zero_iff.mp (by rw [lx, c0]; rfl)
    rw [ex]
    refine iteT ⟨(show 3 ≤ sizeLine by decide), fun t1 nt1 => ⟨(show 1 ≤ sizeLine by decide), fun t2 nt2 => ?_⟩⟩
    refine q _ _ (.tup [.tup [.str "send", .str "Ab", .str "a"]]) (((KpM.refl hL).sm (same_new ne0)).sm ((same_new nt1).trans (same_new nt2))) ⟨t2, _, rfl, upd_same, _, _, rfl, ⟨t1, _, rfl, kn upd_same nt2, _, _, rfl, rfl, _, _, rfl, rfl, _, _, rfl, rfl, rfl⟩, rfl⟩
      ⟨(show 1 ≤ 1000 by decide), ⟨(show 3 ≤ 1000 by decide), (show ("send" : Str).length ≤ 1000 by decide +kernel), (show ("Ab" : Str).length ≤ 1000 by decide +kernel), (show ("a" : Str).length ≤ 1000 by decide +kernel), trivial⟩, trivial⟩ (fun k => ?_)
    cases k with
    | zero => trivial
    | succ k =>
      intro z hz y a' b' r' e _ _
      rw [List.mem_singleton.mp hz] at e
      obtain ⟨e1, e2⟩ := List.cons.inj (Th.tup.inj e)
      obtain ⟨_, e3⟩ := List.cons.inj e2
      obtain ⟨_, e4⟩ := List.cons.inj e3
      refine ⟨by rw [← e1]; rfl, fun z' hz' => ?_⟩
      rw [hz'] at e4
      cases e4
  have nx : xs.isEmpty = false := by
    cases xs with
    | nil => exact absurd (List.length_eq_zero_iff.mp lx.symm) c0
    | cons _ _ => rfl
  rw [nx]
  refine iteF ?_
  have hx0 : 0 < xs.length := by
    cases xs with
    | nil => cases nx
    | cons _ _ => exact Nat.succ_pos _
  have l20 := len_sizeMs r
  have hL0 : upd H e0 (.tup []) L = _ := kn hL ne0
  have ha0 : upd H e0 (.tup []) a = _ := kn ha ne0
  have hBd0 : upd H e0 (.tup []) Bd = _ := kn hBd ne0
  have hps0 := thMs_tup (STup.new (o := HO.tup []) ne0) r xs hps
  have k0 : KpM L H (upd H e0 (.tup [])) := (KpM.refl hL).sm (same_new ne0)
  generalize upd H e0 (.tup []) = H0 at *
  clear ne0 nx hps
  refine ⟨_, rfl, _, rfl, a, xs, rfl, .inr (SqT.of ha0), L, x, _, rfl, hL0, by omega, by omega, fun d n1 d0 d1 => ?_⟩
  obtain ⟨j, rfl⟩ : ∃ j : Nat, d = (j : Nat) := ⟨d.toNat, by omega⟩
  have hj : j < xs.length := by omega
  have k1 := k0.trans (KpM.digit (L := L) (H := H0) (n' := n1))
  have st1 := KpM.tup hL0 (KpM.digit (L := L) (H := H0) (n' := n1))
  have ha1 := st1 _ _ ha0
  have hps1 := thMs_tup st1 r xs hps0
  have hBd1 := (upd_ne (o := HO.lst [.int n1]) (H := H0) hBL).trans hBd0
  have hn1 : upd H0 L (.lst [.int n1]) L = some (.lst [.int n1]) := upd_same
  generalize upd H0 L (.lst [.int n1]) = H1 at *
  clear hL0 ha0 hBd0 hps0 st1 k0 d0 d1
  obtain ⟨y, hy⟩ : ∃ y, xs[j]? = some y := ⟨xs[j], List.getElem?_eq_getElem hj⟩
  refine ⟨_, rfl, _, rfl, a, xs, _, y, rfl, rfl, SqT.of ha1, atI_nat (j := j) hy, ?_⟩
  obtain ⟨p, hp, hpa⟩ := thMs_get hps1 hy
  have okp := hok.mem p (List.mem_of_getElem? hp)
  have dpp := deepMs.mem p (List.mem_of_getElem? hp)
  have szp : sizeM p ≤ 20 := by
    have z := sizeMs_take r (j + 1)
    rw [List.take_add_one, hp, sizeMs_app] at z
    have : sizeMs (some p).toList = sizeM p + 0 := rfl
    omega
  refine ⟨fun σ' H' => ∃ b, y = .ref b ∧ σ' = [some (.ref a), some (.ref L), some (.ref Bd), some (.int (j : Nat)), some y, none, none, none] ∧ KpM L H1 H', ?_, fun σ' H2 hm => ?_⟩
  · cases p with
    | send n' m' =>
      obtain ⟨b, zs, rfl, hb, u, us, rfl, hu, _⟩ := hpa
      have e : u = .str "send" := hu
      subst e
      exact ⟨_, rfl, b, _, 0, _, rfl, rfl, SqT.of hb, atI_nat (j := 0) rfl, rfl, _, rfl, iteD (by decide +kernel) (iteF ⟨b, rfl, rfl, KpM.refl hn1⟩)⟩
    | get n' x' r' =>
      obtain ⟨b, zs, rfl, hb, u, us, rfl, hu, u1, us1, rfl, hu1, u2, us2, rfl, hu2, u3, us3, rfl, hu3, h4⟩ := hpa
      have e : u = .str "get" := hu
      have e1 : u1 = .str n' := hu1
      have e2 : u2 = .str x' := hu2
      have e4 : us3 = [] := h4
      subst e e1 e2 e4
      refine ⟨_, rfl, b, _, 0, _, rfl, rfl, SqT.of hb, atI_nat (j := 0) rfl, rfl, _, rfl, iteU (by decide +kernel) ?_⟩
      refine ⟨_, rfl, L, n1, 2, rfl, hn1, by decide, by decide, fun d n2 d0 d1 => ?_⟩
      have k2 := KpM.digit (L := L) (H := H1) (n' := n2)
      have st2 := KpM.tup hn1 k2
      have hb2 := st2 _ _ hb
      have ha2 := st2 _ _ ha1
      have hu32 := thMR_tup st2 hu3
      have hps2 := thMs_tup st2 r xs hps1
      have hBd2 := (upd_ne (o := HO.lst [.int n2]) (H := H1) hBL).trans hBd1
      have hn2 : upd H1 L (.lst [.int n2]) L = some (.lst [.int n2]) := upd_same
      generalize upd H1 L (.lst [.int n2]) = H2 at *
      refine ⟨rfl, _, rfl, ite2 (fun c => ?_) (fun c => ⟨b, rfl, rfl, k2⟩)⟩
      -- bent within
      refine ⟨_, rfl, 3, rfl, b, _, rfl, hb2, (fun ⟨_, e⟩ => absurd e (show ¬ HT.sIx 4 4 (some 3) = 4 by decide)), fun H3 c1 s3 hc1 => ?_⟩
      have hok' : okMs r' := okp.2.2
      have zd : deepM (.get n' x' r') = deepMs r' + 1 := rfl
      have zz : sizeM (.get n' x' r') = sizeMs r' + 1 := rfl
      refine ⟨_, rfl, b, _, 3, _, rfl, rfl, SqT.of (s3 _ _ hb2), atI_nat (j := 3) rfl, _, rfl, _, rfl, u3, r', L, Bd, n2, bs, rfl, thMR_tup (STup.of s3) hu32, hok', by omega, by omega, s3 _ _ hn2, s3 _ _ hBd2, hBL, hbs, lbs, fun H4 u4 t4 k4 hu4 ok4 hd4 => ?_⟩
      refine ⟨(show 1 ≤ sizeLine by decide), fun t1 nt1 => ?_⟩
      have k24 := (KpM.refl hn2).sm s3 |>.trans k4
      have st24 := KpM.tup hn2 k24
      have hc4 := KpM.tup (s3 _ _ hn2) k4 _ _ hc1
      refine ⟨c1, t1, _, _, rfl, rfl, kn hc4 nt1, upd_same, (show 3 + 1 ≤ 1000 by decide), fun H5 c5 s5 hc5 => ?_⟩
      have s45 : Same H4 H5 := (same_new nt1).trans s5
      have k15 := k1.trans (k2.trans (k24.sm s45))
      have st25 := st24.trans (STup.of s45)
      obtain ⟨n5, hn5⟩ := k15.2
      have l1 := mn_len okp.1
      have l2 := mn_len okp.2.1
      refine bent_ret (xT := .tup [.str "get", .str n', .str x', t4]) hn5 (st25 _ _ ha2) (thMs_tup st25 r xs hps2) hj hok hsz rfl rfl rfl k15
        ⟨c5, _, rfl, hc5, _, _, rfl, rfl, _, _, rfl, rfl, _, _, rfl, rfl, _, _, rfl, ThAt.mono (Kpt.same s45) _ _ hu4, rfl⟩
        ⟨(show 4 ≤ 1000 by decide), (show ("get" : Str).length ≤ 1000 by decide +kernel), (show n'.length ≤ 1000 by omega), (show x'.length ≤ 1000 by omega), ok4, trivial⟩ (fun k y a' b' r'' e _ _ => ?_) q
      obtain ⟨e1, e2⟩ := List.cons.inj (Th.tup.inj e)
      obtain ⟨_, e3⟩ := List.cons.inj e2
      obtain ⟨_, e4⟩ := List.cons.inj e3
      refine ⟨by rw [← e1]; rfl, fun z' hz' => ?_⟩
      rw [hz'] at e4
      rw [← (List.cons.inj e4).1]
      exact hd4 k
  obtain ⟨b, rfl, rfl, k12⟩ := hm
  obtain ⟨n2, hn2⟩ := k12.2
  refine ⟨_, rfl, L, n2, 7, rfl, hn2, by decide, by decide, fun way n3 w0 w1 => ?_⟩
  refine ⟨_, rfl, L, n3, 2, rfl, upd_same, by decide, by decide, fun pl n4 p0 p1 => ⟨_, _, rfl, rfl, ?_⟩⟩
  have k24 := (KpM.digit (L := L) (H := H2) (n' := n3)).trans (KpM.digit (L := L) (H := upd H2 L (.lst [.int n3])) (n' := n4))
  have hn4 : upd (upd H2 L (.lst [.int n3])) L (.lst [.int n4]) L = some (.lst [.int n4]) := upd_same
  generalize upd (upd H2 L (.lst [.int n3])) L (.lst [.int n4]) = H4 at *
  have k14 := k12.trans k24
  have st14 := KpM.tup hn1 k14
  obtain ⟨pc, epc, hp1, hp2⟩ : ∃ pc : Nat, (1 : Int) + pl = (pc : Nat) ∧ 1 ≤ pc ∧ pc ≤ 2 := ⟨(1 + pl).toNat, by omega, by omega, by omega⟩
  have hpa4 := thM_tup st14 p _ hpa
  have ha4 := st14 _ _ ha1
  have hps4 := thMs_tup st14 r xs hps1
  have hBd4 := k14.1 _ _ hBL hBd1
  have okI := itemsM_ok okp (by omega)
  refine ⟨fun σ' H' => ∃ (u : V) (xT : Th) (s5 s6 s7 : Option V), σ' = [some (.ref a), some (.ref L), some (.ref Bd), some (.int (j : Nat)), some u, s5, s6, s7] ∧ KpM L H4 H' ∧ ThAt H' xT u ∧ okT xT ∧ ∀ k, hdX k xT, ?_, fun σ' H5 hm => ?_⟩
  rotate_left
  · obtain ⟨u, xT, s5, s6, s7, rfl, k45, hu, oku, hdu⟩ := hm
    have k15 := k1.trans (k14.trans k45)
    obtain ⟨n5, hn5⟩ := k15.2
    have st45 := KpM.tup hn4 k45
    exact bent_ret hn5 (st45 _ _ ha4) (thMs_tup st45 r xs hps4) hj hok hsz rfl rfl rfl k15 hu oku hdu q
  have epv : (some (some (V.int (1 + pl))) : Option (Option V)) = some (some (V.int (pc : Nat))) := by rw [epc]
  -- one thing put in another's place
  have put : ∀ (H5 : Hp) (o : V) (oT : Th) (s5 s6 s7 : Option V), KpM L H4 H5 → ThAt H5 oT o → okT oT → ∀ (H' : Hp) (c : Addr), Same H5 H' → ThAt H' (putM p pc oT) (.ref c) →
      ∃ (u : V) (xT : Th) (t5 t6 t7 : Option V), [some (V.ref a), some (.ref L), some (.ref Bd), some (.int (j : Nat)), some (.ref c), s5, s6, s7] = [some (.ref a), some (.ref L), some (.ref Bd), some (.int (j : Nat)), some u, t5, t6, t7] ∧ KpM L H4 H' ∧ ThAt H' xT u ∧ okT xT ∧ ∀ k, hdX k xT :=
    fun H5 o oT s5 s6 s7 k45 ho oko H' c s5' hc => ⟨_, _, _, _, _, rfl, k45.sm s5', hc, putM_ok okI oko, putM_hd hp1 hp2⟩
  refine ⟨_, rfl, rfl, _, rfl, ite2 (fun g0 => ?_) (fun g0 => ?_)⟩
  · refine ⟨(show 10 ≤ sizeLine by decide), fun l1 nl1 => ?_⟩
    have k5 : KpM L H4 (upd H4 l1 (.lst oths)) := (KpM.refl hn4).sm (same_new nl1)
    have hl5 : upd H4 l1 (.lst oths) l1 = some (.lst oths) := upd_same
    have hn5 : upd H4 l1 (.lst oths) L = _ := kn hn4 nl1
    have l1L : l1 ≠ L := Ne.symm (ne_of_none hn4 nl1)
    refine ⟨_, rfl, L, n4, 10, rfl, hn5, by decide, by decide, fun d n5 d0 d1 => ?_⟩
    obtain ⟨o, ho, hat, _⟩ := atX_lt (l := oths) d0 d1
    obtain ⟨oT, hoT, oko⟩ := oths_th o ho
    have k6 := k5.trans (KpM.digit (L := L) (n' := n5))
    have st46 := KpM.tup hn4 k6
    refine ⟨l1, oths, d, o, rfl, rfl, SqL.of ((upd_ne l1L).trans hl5), hat, ?_⟩
    obtain ⟨ps, hb6, hpi6⟩ := partI (thM_tup st46 p _ hpa4)
    exact bent_put (p := p) hb6 hpi6 hp1 hp2 rfl epv rfl (hoT _) (fun H' c s' hc => put _ o oT _ _ _ k6 (hoT _) oko H' c s' hc)
  have rest : ∀ (H5 : Hp), KpM L H4 H5 → ∃ n5 : Int, H5 L = some (.lst [.int n5]) ∧ ThAt H5 (thM p) (.ref b) := fun H5 k45 => k45.2.imp fun n5 h => ⟨h, thM_tup (KpM.tup hn4 k45) p _ hpa4⟩
  refine ⟨_, rfl, rfl, _, rfl, ite2 (fun g1 => ?_) (fun g1 => iteF ?_)⟩
  · refine ⟨_, rfl, (show 0 ≤ sizeLine by decide), fun e1 ne1 => ⟨Bd, e1, bs.map V.str, rfl, rfl, SqL.of (kn hBd4 ne1), SqL.of upd_same, _, rfl, ?_⟩⟩
    have k5 : KpM L H4 (upd H4 e1 (.lst [])) := (KpM.refl hn4).sm (same_new ne1)
    have hn5 : upd H4 e1 (.lst []) L = _ := kn hn4 ne1
    have hBd5 : upd H4 e1 (.lst []) Bd = _ := kn hBd4 ne1
    generalize upd H4 e1 (.lst []) = H5 at *
    refine ite2 (fun g2 => ?_) (fun g2 => ?_)
    · have b0 : bs ≠ [] := fun e => by rw [e] at g2; cases g2
      have lb : 0 < bs.length := List.length_pos_iff.mpr b0
      refine ⟨_, rfl, _, rfl, _, rfl, Bd, _, rfl, .inl (SqL.of hBd5), L, n4, _, rfl, hn5, by rw [List.length_map]; omega, by rw [List.length_map]; omega, fun d n6 d0 d1 => ?_⟩
      obtain ⟨o, ho, hat, _⟩ := atX_lt (l := bs.map V.str) d0 d1
      obtain ⟨z, hz, rfl⟩ := List.mem_map.mp ho
      have k6 := k5.trans (KpM.digit (L := L) (n' := n6))
      have st46 := KpM.tup hn4 k6
      have zl := mn_len (hbs z hz)
      refine ⟨Bd, _, d, _, rfl, rfl, SqL.of ((upd_ne hBL).trans hBd5), hat, ?_⟩
      obtain ⟨ps, hb6, hpi6⟩ := partI (thM_tup st46 p _ hpa4)
      exact bent_put (p := p) hb6 hpi6 hp1 hp2 rfl epv rfl (show ThAt _ (.str z) (.str z) from rfl) (fun H' c s' hc => put _ (.str z) (.str z) _ _ _ k6 rfl (show z.length ≤ 1000 by omega) H' c s' hc)
    · obtain ⟨_, _, hp5⟩ := rest H5 k5
      exact bent_rest hn5 hp5 okp (by omega) rfl rfl rfl ⟨_, _, _, _, _, rfl, k5, hp5, okT_M p okp (by omega), hdX_part p⟩ (fun H' c xT k' hc okx hdx => ⟨_, _, _, _, _, rfl, k5.trans k', hc, okx, hdx⟩)
  · exact bent_rest hn4 hpa4 okp (by omega) rfl rfl rfl ⟨_, _, _, _, _, rfl, KpM.refl hn4, hpa4, okT_M p okp (by omega), hdX_part p⟩ (fun H' c xT k' hc okx hdx => ⟨_, _, _, _, _, rfl, k', hc, okx, hdx⟩)
theorem mbent_none {f : Addr} {fd : FuncData} {k : Nat} : FnOk P w K mg base CX0 k f fd psMB (spMBent 0) := by
  have no : ∀ vs H Q E, ¬ spMBent 0 vs H Q E := fun vs H Q E h => by
    obtain ⟨_, _, _, _, _, _, _, _, _, _, h1, _⟩ := h
    omega
  exact ⟨fun vs H Q E h => absurd h (no vs H Q E), fun A outer s H args us vs Q E _ _ _ _ h => absurd h (no vs H Q E)⟩
theorem mbent_ok {f fD : Addr} {fd fdD : FuncData} (F : Fun K "_law_bent" "_law_bent" sMBent f fd) (GD : FnOk P w K mg base CX0 1 fD fdD ["_law_left_here", "_law_many"] spDigit) (bD : Binds K fdD ["_law_left_here", "_law_many"] []) (kD : PySem.W.keepIn K (.ref fD) = true)
    (mD : mg "_law_digit" = some (.ref fD)) (ml : mg "len" = none) (mt : mg "list" = none) (bF : Binds K fd psMB []) (mF : mg "_law_bent" = some (.ref f)) : ∀ n : Nat, FnOk P w K mg base CX0 (n + 1) f fd psMB (spMBent n)
  | 0 => mbent_none
  | n + 1 => ok_mbent F GD bD kD mD ml mt (mbent_ok F GD bD kD mD ml mt bF mF n) bF mF
end
end K54

set_option Elab.async false
set_option linter.all false
set_option maxRecDepth 100000
set_option maxHeartbeats 400000
namespace K54
open PySem PySem.Spec PyProof.Rows L2 Wk GxR
abbrev sLaw : Stmt := topS 38
abbrev nmLaw : List Str := ["_law_script", "_law_cell", "_law_left_here", "_law_names", "_law_mail_here", "_law_bound", "_law_turn", "_law_chain", "_law_some", "_law_k", "_law_gets", "_law_thing", "_law_kind", "_law_name", "_law_inner"]
theorem scLaw : FnScope nmLaw ["_law_script"] (defScope sLaw) := ⟨rfl, rfl, rfl, by decide +kernel, rfl, by decide +kernel, by decide +kernel⟩
def spLaw (K : PySem.W.Frag) (Ts : List Addr) : Sp := fun vs H Q _ => ∃ (a : Addr) (ns : List Int), vs = [.ref a] ∧ SqL K H a (ns.map V.int) ∧ ns.length ≤ 63 ∧ TabsG Ts H ∧ ∀ H', Q (.bl true) H'
abbrev psL : List Str := ["_law_left_here", "_law_many"]
abbrev gB (K : PySem.W.Frag) := gTup K 3 (gCons (gName 12) (gCons (gName 13) (gCons (gName 14) gNil)))
section
variable {P : Program} {w : World} {K : PySem.W.Frag} {mg : Str → Option Value} {base : Heap} {Ts : List Addr}
theorem ok_law {f f1 f3 f4 fH fA fB fM : Addr} {fd d1 d3 d4 dH dA dB dM : FuncData} (F : Fun K "law" "law" sLaw f fd)
    (G1 : FnOk P w K mg base CX0 1 f1 d1 ["_law_cell"] spLeft) (b1 : Binds K d1 ["_law_cell"] []) (k1 : PySem.W.keepIn K (.ref f1) = true) (m1 : mg "_law_left" = some (.ref f1))
    (G3 : FnOk P w K mg base CX0 2 f3 d3 psL spMNm) (b3 : Binds K d3 psL []) (k3 : PySem.W.keepIn K (.ref f3) = true) (m3 : mg "_law_mail_names" = some (.ref f3))
    (G4 : FnOk P w K mg base CX0 10 f4 d4 ["_law_left_here", "_law_names"] spMailD) (b4 : Binds K d4 ["_law_left_here", "_law_names"] []) (k4 : PySem.W.keepIn K (.ref f4) = true) (m4 : mg "_law_mail" = some (.ref f4))
    (GM : FnOk P w K mg base CX0 6 fM dM psMM (spMMet 5)) (bM : Binds K dM psMM []) (kM : PySem.W.keepIn K (.ref fM) = true) (mM : mg "_law_met" = some (.ref fM))
    (GH : FnOk P w K mg base CX0 8 fH dH ["thing"] (spMail Ts)) (bH : Binds K dH ["thing"] []) (kH : PySem.W.keepIn K (.ref fH) = true) (mH : mg "is_mail" = some (.ref fH))
    (GA : FnOk P w K mg base CX0 9 fA dA ["_law_thing"] (spMAsked Ts)) (bA : Binds K dA ["_law_thing"] []) (kA : PySem.W.keepIn K (.ref fA) = true) (mA : mg "_law_asked" = some (.ref fA))
    (GB : FnOk P w K mg base CX0 6 fB dB psMB (spMBent 5)) (bB : Binds K dB psMB []) (kB : PySem.W.keepIn K (.ref fB) = true) (mB : mg "_law_bent" = some (.ref fB))
    (mr : mg "range" = none) (mt : mg "tuple" = none) :
    FnOk P w K mg base CX0 11 f fd ["_law_script"] (spLaw K Ts) := by
  refine F.ok scLaw (fun vs H Q E h => ?_) (fun cdv A outer s H vs Q E hr h => ?_)
  · obtain ⟨a, ns, rfl, _⟩ := h
    rfl
  obtain ⟨a, ns, rfl, hS, hlen, tg, q⟩ := h
  have r1 : Room 1 _ := hr.mono (by decide)
  refine ⟨_, pss_cons (ps_for PassesOwn.never rfl (pi_list (pe_op op_cat (pe_slice sl_list (pv 0) po_none (po_some pe_int)) (pe_lst (pa_cons pe_int pa_nil)))) (pg_name (i := 1) scLaw.nd rfl (.inl rfl))
      (pss_cons (ps_set (i := 2) scLaw.nd rfl (.inl rfl) (pe_call G1 r1 (by rfl) m1 k1 b1 .nil pass0 (pa_cons (pv 1) pa_nil)))
      (pss_cons (ps_set (i := 3) scLaw.nd rfl (.inl rfl) (pe_call G3 (hr.mono (by decide)) (by rfl) m3 k3 b3 .nil pass0 (pa_cons (pv 2) (pa_cons pe_int pa_nil))))
      (pss_cons (ps_set (i := 4) scLaw.nd rfl (.inl rfl) (pe_call G4 (hr.mono (by decide)) (by rfl) m4 k4 b4 .nil pass0 (pa_cons (pv 2) (pa_cons (pv 3) pa_nil))))
      (pss_cons (ps_setLc (i := 5) (own := [("_law_kind", 12), ("_law_name", 13), ("_law_inner", 14)]) (g := gB K) (tt := tTest (tOp rEq (tVar 12) (tC (.str "bound")))) (te := tVar 13) (by rfl) scLaw.nd rfl rfl (sw_true rfl rfl rfl (by decide +kernel)) (pi_list (pe_call GM (hr.mono (by decide)) (by rfl) mM kM bM .nil pass0 (pa_cons (pv 4) (pa_cons (pe_lst pa_nil) pa_nil))))
          (blkOk_by (own := [("_law_kind", 12), ("_law_name", 13), ("_law_inner", 14)]) (N := nmLaw) (sc := defScope sLaw) (by decide +kernel))
          (fun _ _ _ _ _ => pg_tup rfl (pgs_cons (pg_name (i := 12) scLaw.nd rfl (Or.inl rfl)) (pgs_cons (pg_name (i := 13) scLaw.nd rfl (Or.inl rfl)) (pgs_cons (pg_name (i := 14) scLaw.nd rfl (Or.inl rfl)) pgs_nil))))
          (fun _ _ _ _ _ => pts_one (pt_cmpR op_eq (pv 12) pe_str (nomark _))) (fun _ _ _ _ _ => pv 13))
      (pss_cons (ps_if (PW.pt (pw_or (pt_cmpR op_notBl (pe_call GH (hr.mono (by decide)) (by rfl) mH kH bH .nil pass0 (pa_cons (pv 4) pa_nil)) pe_bl (nomark _)) (pw_or1 (pt_not (pt_val (pe_call GA (hr.mono (by decide)) (by rfl) mA kA bA .nil pass0 (pa_cons (pv 4) pa_nil))))))) (pss_one (ps_ret pe_bl)) pss_nil)
      (pss_one (ps_for PassesOwn.never rfl (pi_range1 rfl mr (pa_cons pe_int pa_nil)) (pg_name (i := 6) scLaw.nd rfl (.inl rfl))
        (pss_one (ps_if (pt_not (pt_val (pe_call GA (hr.mono (by decide)) (by rfl) mA kA bA .nil pass0 (pa_cons (pe_call GB (hr.mono (by decide)) (by rfl) mB kB bB .nil pass0 (pa_cons (pv 4) (pa_cons (pv 2) (pa_cons (pv 5) pa_nil)))) pa_nil)))) (pss_one (ps_ret pe_bl)) pss_nil))))))))))
    (pss_cons (ps_set (i := 7) scLaw.nd rfl (.inl rfl) (pe_tup pa_nil))
    (pss_cons (ps_set (i := 8) scLaw.nd rfl (.inl rfl) (pe_lst pa_nil))
    (pss_cons (ps_for PassesOwn.never rfl (pi_range1 rfl mr (pa_cons pe_int pa_nil)) (pg_name (i := 9) scLaw.nd rfl (.inl rfl))
        (pss_cons (ps_set (i := 7) scLaw.nd rfl (.inl rfl) (pe_tup (pa_cons (pe_tup (pa_cons pe_str (pa_cons pe_str (pa_cons (pe_ix ix_str pe_str (pv 9) (fun _ _ => rfl)) (pa_cons (pv 7) pa_nil))))) pa_nil)))
        (pss_one (ps_expr (pe_bm PySem.F.plainAttrs_list PySem.F.slot_list_append PySem.F.type_list_append mt_append (pv 8) (pa_cons (pv 7) pa_nil))))))
    (pss_cons (ps_set (i := 10) scLaw.nd rfl (.inl rfl) (pe_callTy call_tuple_of (by rfl) mt (by decide +kernel) (pa_cons
        (pe_lc (own := [("_law_k", 9)]) (g := gName 9) (tt := tYes) (te := tTup (tCons (tC (.str "get")) (tCons (tC (.str "a")) (tCons (tOp rIxS (tC (.str "bcdefghijkl")) (tVar 9)) (tCons (tTup tNil) tNil))))) (by rfl) scLaw.nd (pi_range1 rfl mr (pa_cons pe_int pa_nil))
          (blkOk_by (own := [("_law_k", 9)]) (N := nmLaw) (sc := defScope sLaw) (by decide +kernel)) (fun _ _ _ _ _ => pg_name (i := 9) scLaw.nd rfl (Or.inl rfl)) (fun _ _ _ _ _ => pts_nil)
          (fun _ _ _ _ _ => (pe_tup (pa_cons pe_str (pa_cons pe_str (pa_cons (pe_ix ix_str pe_str (pv 9) (fun _ _ => rfl)) (pa_cons (pe_tup pa_nil) pa_nil))))))) pa_nil)))
    (pss_cons (ps_set (i := 8) scLaw.nd rfl (.inl rfl) (pe_op op_cat (pv 8) (pe_lst (pa_cons (pe_slice sl_tupS (pv 10) po_none (po_some pe_int)) (pa_cons (pv 10) (pa_cons (pe_op op_repT (pe_tup (pa_cons (pe_tup (pa_cons pe_str (pa_cons pe_str (pa_cons pe_str pa_nil)))) pa_nil)) pe_int) (pa_cons (pe_op op_repT (pe_tup (pa_cons (pe_tup (pa_cons pe_str (pa_cons pe_str (pa_cons pe_str pa_nil)))) pa_nil)) pe_int) (pa_cons (pe_tup (pa_cons (pe_tup (pa_cons pe_str (pa_cons pe_str (pa_cons pe_str (pa_cons (pe_tup pa_nil) pa_nil))))) pa_nil)) pa_nil))))))))
    (pss_cons (ps_for PassesOwn.never rfl (pi_list (pe_op op_cat (pv 8) (pe_lst (pa_cons (pe_tup pa_nil) (pa_cons pe_non (pa_cons pe_int (pa_cons pe_str (pa_cons (pe_lst pa_nil) (pa_cons pe_dnewK (pa_cons (pe_tup (pa_cons (pe_tup pa_nil) pa_nil)) (pa_cons pe_bl (pa_cons (pe_tup (pa_cons pe_str (pa_cons pe_str (pa_cons pe_str pa_nil)))) pa_nil)))))))))))) (pg_name (i := 11) scLaw.nd rfl (.inl rfl))
        (pss_one (ps_if (pt_not (pt_val (pe_call GA (hr.mono (by decide)) (by rfl) mA kA bA .nil pass0 (pa_cons (pv 11) pa_nil)))) (pss_one (ps_ret pe_bl)) pss_nil)))
    (pss_one (ps_ret pe_bl)))))))), ?_⟩
  refine ⟨.ref a, rfl, 8, rfl, a, ns.map V.int, rfl, hS, fun c nc => ?_⟩
  refine ⟨(show 1 ≤ sizeLine by decide), fun c2 nc2 => ?_⟩
  have hc2 : upd (upd H c (.lst (cutV (ns.map V.int) none (some 8)))) c2 (.lst [.int 4]) c = some (.lst (cutV (ns.map V.int) none (some 8))) := kn upd_same nc2
  have hl := cut_len (ns := ns) (lo := none) (hi := some 8) hlen
  refine ⟨c, c2, _, _, rfl, rfl, hc2, upd_same, small (by rw [List.length_singleton]; omega), fun p np => ?_⟩
  have allI : ∀ v ∈ cutV (ns.map V.int) none (some 8) ++ [V.int 4], ∃ i : Int, v = .int i := fun v hv => by
    rcases List.mem_append.mp hv with g | g
    · exact cut_ints v g
    · exact ⟨4, List.mem_singleton.mp g⟩
  have tg4 := TabsG.new (o := .lst (cutV (ns.map V.int) none (some 8) ++ [V.int 4])) (TabsG.new (o := .lst [.int 4]) (TabsG.new (o := .lst (cutV (ns.map V.int) none (some 8))) tg nc) nc2) np
  generalize cutV (ns.map V.int) none (some 8) ++ [V.int 4] = items at *
  refine ⟨p, rfl, ⟨_, SqL.of upd_same⟩, for_it (walk_list (xs := items))
    (fun _ σ H' => H' p = some (.lst items) ∧ TabsG Ts H' ∧ ∃ s1 s2 s3 s4 s5 s6 s7 s8 s9 s10 s11 s12 s13 s14 : Option V, σ = [some (.ref a), s1, s2, s3, s4, s5, s6, s7, s8, s9, s10, s11, s12, s13, s14])
    ⟨upd_same, tg4, _, _, _, _, _, _, _, _, _, _, _, _, _, _, rfl⟩ (fun i σ H' _ hP => SqL.of hP.1) (fun i x σ H1 H2 hi hP hY => ?_) (fun σ H' hP => ?_)⟩
  · obtain ⟨hp, tg5, s1, s2, s3, s4, s5, s6, s7, s8, s9, s10, s11, s12, s13, s14, rfl⟩ := hP
    obtain ⟨rfl, hx⟩ := hY
    obtain ⟨j, rfl⟩ := allI x (List.mem_of_getElem? hx)
    -- the names
    refine ⟨_, rfl, j, rfl, fun L n nL => ?_⟩
    have pL : p ≠ L := ne_of_none hp nL
    have TL : L ∉ Ts := tg5.out nL
    refine ⟨_, rfl, L, n, 12, rfl, upd_same, by decide, fun H3 pn s zs xn npn hzs hlz hs25 hnm => ?_⟩
    have hp3 : H3 p = some (.lst items) := xn.1 _ _ pL (kn hp nL)
    obtain ⟨n3, hn3⟩ := xn.2
    have pnL : pn ≠ L := fun e => by
      rw [e, hn3] at hzs
      have e2 := HO.lst.inj (Option.some.inj hzs)
      cases zs with
      | nil => cases e2
      | cons z r => cases e2
    have tg6 : TabsG Ts H3 := fun T h => by
      obtain ⟨ps, h1, h2⟩ := tg5 T h
      have ne : T ≠ L := fun z => TL (z ▸ h)
      exact ⟨ps, xn.1 _ _ ne (kn h1 nL), h2⟩
    have mnz : ∀ z ∈ zs, mnB z = true := fun z hz => by
      obtain ⟨i, hi⟩ := List.getElem?_of_mem hz
      exact (hnm i z hi).ok (Nat.mod_lt _ (by decide))
    -- the mail
    refine ⟨_, rfl, _, rfl, L, pn, n3, zs, rfl, hn3, hzs, pnL, hlz, mnames_nodup (by omega) hnm, fun z hz => ⟨mnz z hz, mn_sh (mnz z hz)⟩, fun H4 hv r x4 hR hM => ?_⟩
    have hp4 : H4 p = some (.lst items) := x4.1 _ _ pL hp3
    have tg7 : TabsG Ts H4 := fun T h => by
      obtain ⟨ps, h1, h2⟩ := tg6 T h
      have ne : T ≠ L := fun z => TL (z ▸ h)
      exact ⟨ps, x4.1 _ _ ne h1, h2⟩
    obtain ⟨n4, hn4⟩ := x4.2
    have hsz := hM.size
    have hdp := hM.deep
    have hgt := hM.gets
    clear tg6 tg5 tg4 xn hp3 hn3 hzs
    -- what is bound
    refine ⟨_, rfl, (show 0 ≤ sizeLine by decide), fun e0 ne0 => ?_⟩
    refine ⟨hv, r, e0, [], rfl, thMR_tup (STup.new ne0) hR, upd_same, by omega, by omega, by show 0 + deepMs r ≤ 900; omega, fun H5 p5 us s5 np5 hp5 hus => ?_⟩
    have s45 : Same H4 H5 := (same_new ne0).trans s5
    have ebd := me_bdMs r []
    have les := meMs_len r []
    have lus := MEntsAt.len hus
    generalize meMs [] r = es at *
    refine ⟨p5, rfl, ⟨us, SqL.of hp5⟩, fun D nD => ?_⟩
    refine lc_it (walk_list (xs := us)) (fun j H' => Same H5 H' ∧ H' D = some (.lst ((bndE (es.take j)).map V.str))) ⟨same_new nD, upd_same⟩ (fun j H' _ hP => SqL.of (hP.1 _ _ hp5)) (fun j y H6 H7 hj hP hY => ?_) (fun H6 hP => ?_)
    · obtain ⟨rfl, hy⟩ := hY
      obtain ⟨sm, hD⟩ := hP
      obtain ⟨e, he, t', rfl, ht'⟩ := MEntsAt.get hus hy
      have tk : es.take (j + 1) = es.take j ++ [e] := by rw [List.take_add_one, he]; rfl
      have lo : (bndE (es.take j)).length ≤ 1000 := by
        unfold bndE
        rw [List.length_map]
        refine Nat.le_trans (List.length_filter_le _ _) ?_
        rw [List.length_take]
        omega
      refine ⟨t', _, rfl, SqT.of (sm _ _ ht'), rfl, _, _, rfl, _, _, rfl, _, _, rfl, rfl, rfl, _, rfl, rfl, _, rfl, ite2 (fun c => ?_) (fun c => ?_)⟩
      · have ec : e.1 = "bound" := str_eq c
        refine ⟨_, rfl, _, hD, by rw [List.length_map]; exact small1000 lo, fun b o eb => by rw [upd_ne (ne_of_none eb nD)]; exact sm _ _ eb, ?_⟩
        rw [upd_same, tk, bndE_app, List.map_append]
        unfold bndE
        rw [List.filter_cons (x := e), if_pos (by rw [decide_eq_true ec])]
        rfl
      · refine ⟨sm, ?_⟩
        rw [tk, bndE_app]
        unfold bndE
        rw [List.filter_cons (x := e), if_neg (fun z => str_ne c (of_decide_eq_true z))]
        show _ = some (HO.lst (List.map V.str (_ ++ [])))
        rw [List.append_nil]
        exact hD
    obtain ⟨sm, hD⟩ := hP
    rw [lus, List.take_length, ebd] at hD
    have s46 : Same H4 H6 := s45.trans sm
    have mid : MidM Ts p L D items (bdMs r) r hv H6 := ⟨s46 _ _ hp4, ⟨n4, s46 _ _ hn4⟩, tg7.same s46, thMR_tup (STup.of s46) hR, hD, pL, (fun z => by
      have e1 := s45 _ _ hn4
      rw [← z, nD] at e1
      cases e1)⟩
    have okh := okT_mail hM.ok (by omega)
    clear s46 sm s45 s5 hD nD hus lus les hp5 np5 ne0 tg7 hp4 hR x4 hn4
    -- it is mail
    refine ⟨_, rfl, hv, thMR r, rfl, mid.row, okh, mid.tg, fun H9 b st9 eb => ?_⟩
    have eb1 : b = true := eb.mpr ⟨r, rfl, hM⟩
    rw [eb1]
    refine ⟨true, true, rfl, rfl, _, rfl, iteF ?_⟩
    have mid9 := mid.sam st9
    refine ⟨_, rfl, hv, thMR r, rfl, mid9.row, okh, hdT_mail r 4, mid9.tg, fun H10 st10 => ⟨_, rfl, iteF ?_⟩⟩
    have mid10 := mid9.sam st10
    clear mid9 mid eb st9 st10
    -- bent
    refine ⟨4, rfl, by decide, by decide, for_range (n := 4) (lo := 0) (fun _ σ H' => MidM Ts p L D items (bdMs r) r hv H' ∧ ∃ s1 s3 s6 s7 s8 s9 s10 s11 s12 s13 s14 : Option V, σ = [some (.ref a), s1, some (.ref L), s3, some hv, some (.ref D), s6, s7, s8, s9, s10, s11, s12, s13, s14])
      ⟨mid10, _, _, _, _, _, _, _, _, _, _, _, rfl⟩ (fun k σ H' hk hP => ?_) (fun σ H' hP => ?_)⟩
    · obtain ⟨md, s1, s3, s6, s7, s8, s9, s10, s11, s12, s13, s14, rfl⟩ := hP
      obtain ⟨n, hn⟩ := md.hL
      refine ⟨_, rfl, _, rfl, _, rfl, hv, r, L, D, n, bdMs r, rfl, md.row, hM.ok, hsz, by omega, hn, md.hB, md.BL, bd_mnMs r hM.ok, by omega, fun H12 u t kp ht okt hdt => ?_⟩
      have md2 := md.kpm kp
      refine ⟨u, t, rfl, ht, okt, hdt 4, md2.tg, fun H13 st => ⟨_, rfl, iteF ?_⟩⟩
      exact ⟨md2.sam st, _, _, _, _, _, _, _, _, _, _, _, rfl⟩
    · obtain ⟨md, s1, s3, s6, s7, s8, s9, s10, s11, s12, s13, s14, rfl⟩ := hP
      exact ⟨md.hp, md.tg, _, _, _, _, _, _, _, _, _, _, _, _, _, _, rfl⟩
  obtain ⟨_, tg1, s1, s2, s3, s4, s5, s6, s7, s8, s9, s10, s11, s12, s13, s14, rfl⟩ := hP
  -- chains
  refine ⟨(show 0 ≤ sizeLine by decide), fun t0 nt0 => ⟨(show 0 ≤ sizeLine by decide), fun Sm nSm => ?_⟩⟩
  have tg2 := TabsG.new (o := .lst []) (TabsG.new (o := .tup []) tg1 nt0) nSm
  have ht0 : ThAt (upd (upd H' t0 (.tup [])) Sm (.lst [])) (thMR []) (.ref t0) := ⟨t0, [], rfl, kn upd_same nSm, rfl⟩
  have hSm : upd (upd H' t0 (.tup [])) Sm (.lst []) Sm = some (.lst []) := upd_same
  generalize upd (upd H' t0 (.tup [])) Sm (.lst []) = H20 at *
  refine ⟨5, rfl, by decide, by decide, for_range (n := 5) (lo := 0) (fun i σ H' => TabsG Ts H' ∧ ∃ (vs : List V) (v : V) (s1 s2 s3 s4 s5 s6 s9 s10 s11 s12 s13 s14 : Option V), σ = [some (.ref a), s1, s2, s3, s4, s5, s6, some v, some (.ref Sm), s9, s10, s11, s12, s13, s14] ∧
      H' Sm = some (.lst vs) ∧ vs.length = i ∧ (∀ u ∈ vs, MdR H' 10 u) ∧ MdR H' i v)
    ⟨tg2, [], .ref t0, _, _, _, _, _, _, _, _, _, _, _, _, rfl, hSm, rfl, (fun u hu => nomatch hu), ⟨[], ht0, trivial, Nat.le_refl 0⟩⟩ (fun k σ Hk hk hP => ?_) (fun σ Hk hP => ?_)⟩
  · obtain ⟨tgk, vs, v, s1, s2, s3, s4, s5, s6, s9, s10, s11, s12, s13, s14, rfl, hS1, lvs, hvs, r, hr1, hr2, hr3⟩ := hP
    obtain ⟨ch, hch, hat, _⟩ := atX_lt (l := ("bcdef" : Str).cps.toList) (d := 0 + (k : Int)) (by omega) (by show _ < (5 : Int); omega)
    refine ⟨_, rfl, "bcdef", _, ch, rfl, rfl, (show 5 ≤ sizeLine by decide), hat, _, rfl, (show 4 ≤ sizeLine by decide), fun t1 nt1 => ⟨(show 1 ≤ sizeLine by decide), fun t2 nt2 => ?_⟩⟩
    have ss := (same_new (o := HO.tup [.str "get", .str "a", .str ⟨#[ch]⟩, v]) nt1).trans (same_new (o := HO.tup [.ref t1]) nt2)
    have ht1 : upd (upd Hk t1 (.tup [.str "get", .str "a", .str ⟨#[ch]⟩, v])) t2 (.tup [.ref t1]) t1 = some (.tup [.str "get", .str "a", .str ⟨#[ch]⟩, v]) := kn upd_same nt2
    have ht2 : upd (upd Hk t1 (.tup [.str "get", .str "a", .str ⟨#[ch]⟩, v])) t2 (.tup [.ref t1]) t2 = some (.tup [.ref t1]) := upd_same
    generalize upd (upd Hk t1 (.tup [.str "get", .str "a", .str ⟨#[ch]⟩, v])) t2 (.tup [.ref t1]) = H21 at *
    have tgn := tgk.same ss
    have hp := mdGet ht1 (thMR_tup (STup.of ss) hr1)
    have hS2 := ss _ _ hS1
    refine ⟨_, rfl, .inl ⟨rfl, _, SqL.of hS2⟩, _, rfl, Sm, _, _, rfl, rfl, hS2, small1000 (by omega), ?_⟩
    have st := STup.lst (o := HO.lst (vs ++ [.ref t2])) hS2
    have rw1 : MdR H21 (k + 1) (.ref t2) := (MdP.one hp ⟨okA, let_mn5 _ hch, hr2⟩ (show sizeMs r + 1 ≤ k + 1 by omega)).row ht2
    have rw2 : MdR H21 10 (.ref t2) := (MdP.one hp ⟨okA, let_mn5 _ hch, hr2⟩ (show sizeMs r + 1 ≤ 10 by omega)).row ht2
    refine ⟨fun T h => ?_, vs ++ [.ref t2], .ref t2, _, _, _, _, _, _, _, _, _, _, _, _, rfl, upd_same, by rw [List.length_append, lvs]; rfl, fun u hu => ?_, rw1.tup st⟩
    · obtain ⟨ps, h1, h2⟩ := tgn T h
      have ne : T ≠ Sm := fun z => tgn.outL hS2 (z ▸ h)
      exact ⟨ps, (upd_ne ne).trans h1, h2⟩
    · rcases List.mem_append.mp hu with g | g
      · exact ((hvs u g).up ss).tup st
      · rw [List.mem_singleton.mp g]; exact rw2.tup st
  obtain ⟨tgk, cvs, v, s1, s2, s3, s4, s5, s6, s9, s10, s11, s12, s13, s14, rfl, hC, lcv, hvs, _⟩ := hP
  have aC : MdA Hk cvs := fun u hu => (hvs u hu).md (by decide)
  -- gets
  refine ⟨11, rfl, by decide, by decide, fun D nD => ?_⟩
  refine lc_range (lo := 0) (n := 11) (fun i Hx => Same Hk Hx ∧ ∃ (vs : List V), Hx D = some (.lst vs) ∧ vs.length = i ∧ MdP Hx i vs) ⟨same_new nD, [], upd_same, rfl, MdP.nil⟩ (fun i Hx hi hP => ?_) (fun Hx hP => ?_)
  · obtain ⟨sx, vs, hD, lvs, hvp⟩ := hP
    obtain ⟨ch, hch, hat, _⟩ := atX_lt (l := ("bcdefghijkl" : Str).cps.toList) (d := 0 + (i : Int)) (by omega) (by show _ < (11 : Int); omega)
    refine ⟨rfl, yes (iteT ?_)⟩
    refine ⟨_, rfl, "bcdefghijkl", _, ch, rfl, rfl, (show 11 ≤ sizeLine by decide), hat, (show 0 ≤ sizeLine by decide), fun t1 nt1 => ⟨(show 4 ≤ sizeLine by decide), fun t2 nt2 => ?_⟩⟩
    have ss := (same_new (o := HO.tup []) nt1).trans (same_new (o := HO.tup [.str "get", .str "a", .str ⟨#[ch]⟩, .ref t1]) nt2)
    have ht1 : upd (upd Hx t1 (.tup [])) t2 (.tup [.str "get", .str "a", .str ⟨#[ch]⟩, .ref t1]) t1 = some (.tup []) := kn upd_same nt2
    have ht2 : upd (upd Hx t1 (.tup [])) t2 (.tup [.str "get", .str "a", .str ⟨#[ch]⟩, .ref t1]) t2 = some (.tup [.str "get", .str "a", .str ⟨#[ch]⟩, .ref t1]) := upd_same
    generalize upd (upd Hx t1 (.tup [])) t2 (.tup [.str "get", .str "a", .str ⟨#[ch]⟩, .ref t1]) = H21 at *
    have hp := mdGet (r := []) ht2 ⟨t1, [], rfl, ht1, rfl⟩
    have hD2 := ss _ _ hD
    have st := STup.lst (o := HO.lst (vs ++ [.ref t2])) hD2
    have one : MdP H21 1 [.ref t2] := MdP.one hp ⟨okA, let_mn _ hch, trivial⟩ (show sizeMs [] + 1 ≤ 1 from Nat.le_refl 1)
    refine ⟨vs, hD2, small1000 (by omega), fun z o g => ?_, vs ++ [.ref t2], upd_same, by rw [List.length_append, lvs]; rfl, (MdP.app (hvp.up ss) one).tup st⟩
    rw [upd_ne (ne_of_none g nD)]; exact ss _ _ (sx _ _ g)
  obtain ⟨sx, gvs, hD, lgv, hgp⟩ := hP
  have hC := sx _ _ hC
  have aC := MdA.up sx aC
  have tgx := tgk.same sx
  refine ⟨D, gvs, rfl, .inl ⟨SqL.of hD, ?_⟩⟩
  intro gt n_gt
  have S31 : Same Hx (upd Hx gt (.tup gvs)) := same_new n_gt
  have E_gt : upd Hx gt (.tup gvs) gt = some (.tup gvs) := upd_same
  generalize upd Hx gt (.tup gvs) = H31 at *
  have hC := S31 _ _ hC
  have aC := MdA.up S31 aC
  have hgp := MdP.up S31 hgp
  have v_gt : MdV H31 (.ref gt) := (hgp.row E_gt).md (by decide)
  refine ⟨_, rfl, ?_⟩
  refine ⟨_, rfl, 10, rfl, gt, gvs, rfl, E_gt, (by rw [show (10 : Int) = ((10 : Nat) : Int) from rfl, HT.sIx_nat]; rintro ⟨_, e⟩; omega), fun H32 gs S32 E_gs => ?_⟩
  rw [show (10 : Int) = ((10 : Nat) : Int) from rfl, cutTo (by omega)] at E_gs
  have hC := S32 _ _ hC
  have aC := MdA.up S32 aC
  have hgp := MdP.up S32 hgp
  have E_gt := S32 _ _ E_gt
  have v_gt := MdV.up S32 v_gt
  have v_gs : MdV H32 (.ref gs) := ((hgp.take 10).row E_gs).md (by decide)
  refine ⟨_, rfl, ?_⟩
  refine ⟨(show 3 ≤ sizeLine by decide), fun xa n_xa => ?_⟩
  have S33 : Same H32 (upd H32 xa (.tup [.str "send", .str "a", .str "a"])) := same_new n_xa
  have E_xa : upd H32 xa (.tup [.str "send", .str "a", .str "a"]) xa = some (.tup [.str "send", .str "a", .str "a"]) := upd_same
  generalize upd H32 xa (.tup [.str "send", .str "a", .str "a"]) = H33 at *
  have hC := S33 _ _ hC
  have aC := MdA.up S33 aC
  have hgp := MdP.up S33 hgp
  have E_gt := S33 _ _ E_gt
  have v_gt := MdV.up S33 v_gt
  have v_gs := MdV.up S33 v_gs
  refine ⟨(show 1 ≤ sizeLine by decide), fun xb n_xb => ?_⟩
  have S34 : Same H33 (upd H33 xb (.tup [.ref xa])) := same_new n_xb
  have E_xb : upd H33 xb (.tup [.ref xa]) xb = some (.tup [.ref xa]) := upd_same
  generalize upd H33 xb (.tup [.ref xa]) = H34 at *
  have hC := S34 _ _ hC
  have aC := MdA.up S34 aC
  have hgp := MdP.up S34 hgp
  have E_gt := S34 _ _ E_gt
  have v_gt := MdV.up S34 v_gt
  have v_gs := MdV.up S34 v_gs
  have E_xa := S34 _ _ E_xa
  have P_x : MdP H34 1 [.ref xa] := MdP.one (mdSend E_xa) okSend (by decide)
  refine ⟨xb, 20, [.ref xa], rfl, rfl, SqT.of E_xb, (fun z => by cases z), by decide, by decide, (show 1 ≤ 1000 by decide), fun xc n_xc => ?_⟩
  have S35 : Same H34 (upd H34 xc (.tup (List.replicate (20 : Int).toNat [.ref xa]).flatten)) := same_new n_xc
  have E_xc : upd H34 xc (.tup (List.replicate (20 : Int).toNat [.ref xa]).flatten) xc = some (.tup (List.replicate (20 : Int).toNat [.ref xa]).flatten) := upd_same
  generalize upd H34 xc (.tup (List.replicate (20 : Int).toNat [.ref xa]).flatten) = H35 at *
  have hC := S35 _ _ hC
  have aC := MdA.up S35 aC
  have hgp := MdP.up S35 hgp
  have E_gt := S35 _ _ E_gt
  have v_gt := MdV.up S35 v_gt
  have v_gs := MdV.up S35 v_gs
  have E_xa := S35 _ _ E_xa
  have E_xb := S35 _ _ E_xb
  have P_x := MdP.up S35 P_x
  have v_xc : MdV H35 (.ref xc) := (MdP.row E_xc (MdP.rep P_x 20)).md (by decide)
  refine ⟨(show 3 ≤ sizeLine by decide), fun ya n_ya => ?_⟩
  have S36 : Same H35 (upd H35 ya (.tup [.str "send", .str "a", .str "a"])) := same_new n_ya
  have E_ya : upd H35 ya (.tup [.str "send", .str "a", .str "a"]) ya = some (.tup [.str "send", .str "a", .str "a"]) := upd_same
  generalize upd H35 ya (.tup [.str "send", .str "a", .str "a"]) = H36 at *
  have hC := S36 _ _ hC
  have aC := MdA.up S36 aC
  have hgp := MdP.up S36 hgp
  have E_gt := S36 _ _ E_gt
  have v_gt := MdV.up S36 v_gt
  have v_gs := MdV.up S36 v_gs
  have v_xc := MdV.up S36 v_xc
  refine ⟨(show 1 ≤ sizeLine by decide), fun yb n_yb => ?_⟩
  have S37 : Same H36 (upd H36 yb (.tup [.ref ya])) := same_new n_yb
  have E_yb : upd H36 yb (.tup [.ref ya]) yb = some (.tup [.ref ya]) := upd_same
  generalize upd H36 yb (.tup [.ref ya]) = H37 at *
  have hC := S37 _ _ hC
  have aC := MdA.up S37 aC
  have hgp := MdP.up S37 hgp
  have E_gt := S37 _ _ E_gt
  have v_gt := MdV.up S37 v_gt
  have v_gs := MdV.up S37 v_gs
  have v_xc := MdV.up S37 v_xc
  have E_ya := S37 _ _ E_ya
  have P_y : MdP H37 1 [.ref ya] := MdP.one (mdSend E_ya) okSend (by decide)
  refine ⟨yb, 21, [.ref ya], rfl, rfl, SqT.of E_yb, (fun z => by cases z), by decide, by decide, (show 1 ≤ 1000 by decide), fun yc n_yc => ?_⟩
  have S38 : Same H37 (upd H37 yc (.tup (List.replicate (21 : Int).toNat [.ref ya]).flatten)) := same_new n_yc
  have E_yc : upd H37 yc (.tup (List.replicate (21 : Int).toNat [.ref ya]).flatten) yc = some (.tup (List.replicate (21 : Int).toNat [.ref ya]).flatten) := upd_same
  generalize upd H37 yc (.tup (List.replicate (21 : Int).toNat [.ref ya]).flatten) = H38 at *
  have hC := S38 _ _ hC
  have aC := MdA.up S38 aC
  have hgp := MdP.up S38 hgp
  have E_gt := S38 _ _ E_gt
  have v_gt := MdV.up S38 v_gt
  have v_gs := MdV.up S38 v_gs
  have v_xc := MdV.up S38 v_xc
  have E_ya := S38 _ _ E_ya
  have E_yb := S38 _ _ E_yb
  have P_y := MdP.up S38 P_y
  have v_yc : MdV H38 (.ref yc) := (MdP.row E_yc (MdP.rep P_y 21)).md (by decide)
  refine ⟨(show 0 ≤ sizeLine by decide), fun za n_za => ?_⟩
  have S39 : Same H38 (upd H38 za (.tup [])) := same_new n_za
  have E_za : upd H38 za (.tup []) za = some (.tup []) := upd_same
  generalize upd H38 za (.tup []) = H39 at *
  have hC := S39 _ _ hC
  have aC := MdA.up S39 aC
  have hgp := MdP.up S39 hgp
  have E_gt := S39 _ _ E_gt
  have v_gt := MdV.up S39 v_gt
  have v_gs := MdV.up S39 v_gs
  have v_xc := MdV.up S39 v_xc
  have v_yc := MdV.up S39 v_yc
  refine ⟨(show 4 ≤ sizeLine by decide), fun zb n_zb => ?_⟩
  have S40 : Same H39 (upd H39 zb (.tup [.str "get", .str "a", .str "a", .ref za])) := same_new n_zb
  have E_zb : upd H39 zb (.tup [.str "get", .str "a", .str "a", .ref za]) zb = some (.tup [.str "get", .str "a", .str "a", .ref za]) := upd_same
  generalize upd H39 zb (.tup [.str "get", .str "a", .str "a", .ref za]) = H40 at *
  have hC := S40 _ _ hC
  have aC := MdA.up S40 aC
  have hgp := MdP.up S40 hgp
  have E_gt := S40 _ _ E_gt
  have v_gt := MdV.up S40 v_gt
  have v_gs := MdV.up S40 v_gs
  have v_xc := MdV.up S40 v_xc
  have v_yc := MdV.up S40 v_yc
  have E_za := S40 _ _ E_za
  refine ⟨(show 1 ≤ sizeLine by decide), fun zc n_zc => ?_⟩
  have S41 : Same H40 (upd H40 zc (.tup [.ref zb])) := same_new n_zc
  have E_zc : upd H40 zc (.tup [.ref zb]) zc = some (.tup [.ref zb]) := upd_same
  generalize upd H40 zc (.tup [.ref zb]) = H41 at *
  have hC := S41 _ _ hC
  have aC := MdA.up S41 aC
  have hgp := MdP.up S41 hgp
  have E_gt := S41 _ _ E_gt
  have v_gt := MdV.up S41 v_gt
  have v_gs := MdV.up S41 v_gs
  have v_xc := MdV.up S41 v_xc
  have v_yc := MdV.up S41 v_yc
  have E_za := S41 _ _ E_za
  have E_zb := S41 _ _ E_zb
  have v_zc : MdV H41 (.ref zc) := ((MdP.one (k := 1) (mdGet (r := []) E_zb ⟨za, [], rfl, E_za, rfl⟩) ⟨okA, okA, trivial⟩ (Nat.le_refl 1)).row E_zc).md (by decide)
  refine ⟨(show 5 ≤ sizeLine by decide), fun l1 n_l1 => ?_⟩
  have S42 : Same H41 (upd H41 l1 (.lst [V.ref gs, V.ref gt, V.ref xc, V.ref yc, V.ref zc])) := same_new n_l1
  have E_l1 : upd H41 l1 (.lst [V.ref gs, V.ref gt, V.ref xc, V.ref yc, V.ref zc]) l1 = some (.lst [V.ref gs, V.ref gt, V.ref xc, V.ref yc, V.ref zc]) := upd_same
  generalize upd H41 l1 (.lst [V.ref gs, V.ref gt, V.ref xc, V.ref yc, V.ref zc]) = H42 at *
  have hC := S42 _ _ hC
  have aC := MdA.up S42 aC
  have hgp := MdP.up S42 hgp
  have E_gt := S42 _ _ E_gt
  have v_gt := MdV.up S42 v_gt
  have v_gs := MdV.up S42 v_gs
  have v_xc := MdV.up S42 v_xc
  have v_yc := MdV.up S42 v_yc
  have E_za := S42 _ _ E_za
  have E_zb := S42 _ _ E_zb
  have v_zc := MdV.up S42 v_zc
  have a_l1 : MdA H42 [V.ref gs, V.ref gt, V.ref xc, V.ref yc, V.ref zc] := (MdA.cons v_gs (MdA.cons v_gt (MdA.cons v_xc (MdA.cons v_yc (MdA.cons v_zc MdA.nil)))))
  refine ⟨Sm, l1, _, _, rfl, rfl, hC, E_l1, small (by show _ + 5 ≤ 1000; omega), fun q1 n_q1 => ?_⟩
  have S43 : Same H42 (upd H42 q1 (.lst (cvs ++ [V.ref gs, V.ref gt, V.ref xc, V.ref yc, V.ref zc]))) := same_new n_q1
  have E_q1 : upd H42 q1 (.lst (cvs ++ [V.ref gs, V.ref gt, V.ref xc, V.ref yc, V.ref zc])) q1 = some (.lst (cvs ++ [V.ref gs, V.ref gt, V.ref xc, V.ref yc, V.ref zc])) := upd_same
  generalize upd H42 q1 (.lst (cvs ++ [V.ref gs, V.ref gt, V.ref xc, V.ref yc, V.ref zc])) = H43 at *
  have hC := S43 _ _ hC
  have aC := MdA.up S43 aC
  have hgp := MdP.up S43 hgp
  have E_gt := S43 _ _ E_gt
  have v_gt := MdV.up S43 v_gt
  have v_gs := MdV.up S43 v_gs
  have v_xc := MdV.up S43 v_xc
  have v_yc := MdV.up S43 v_yc
  have E_za := S43 _ _ E_za
  have E_zb := S43 _ _ E_zb
  have v_zc := MdV.up S43 v_zc
  have E_l1 := S43 _ _ E_l1
  have a_l1 := MdA.up S43 a_l1
  have a_q1 : MdA H43 (cvs ++ [V.ref gs, V.ref gt, V.ref xc, V.ref yc, V.ref zc]) := MdA.app aC a_l1
  have l_q1 : (cvs ++ [V.ref gs, V.ref gt, V.ref xc, V.ref yc, V.ref zc]).length = 5 + 5 := by rw [List.length_append, lcv]; rfl
  generalize cvs ++ [V.ref gs, V.ref gt, V.ref xc, V.ref yc, V.ref zc] = L_q1 at *
  refine ⟨_, rfl, ?_⟩
  refine ⟨(show 0 ≤ sizeLine by decide), fun g1 n_g1 => ?_⟩
  have S44 : Same H43 (upd H43 g1 (.tup [])) := same_new n_g1
  have E_g1 : upd H43 g1 (.tup []) g1 = some (.tup []) := upd_same
  generalize upd H43 g1 (.tup []) = H44 at *
  have E_q1 := S44 _ _ E_q1
  have a_q1 := MdA.up S44 a_q1
  have v_g1 : MdV H44 (.ref g1) := mdT0 E_g1
  refine ⟨(show 0 ≤ sizeLine by decide), fun g2 n_g2 => ?_⟩
  have S45 : Same H44 (upd H44 g2 (.lst [])) := same_new n_g2
  have E_g2 : upd H44 g2 (.lst []) g2 = some (.lst []) := upd_same
  generalize upd H44 g2 (.lst []) = H45 at *
  have E_q1 := S45 _ _ E_q1
  have a_q1 := MdA.up S45 a_q1
  have v_g1 := MdV.up S45 v_g1
  have v_g2 : MdV H45 (.ref g2) := mdL0 E_g2
  intro g3 n_g3
  have S46 : Same H45 (upd H45 g3 (.dK [])) := same_new n_g3
  have E_g3 : upd H45 g3 (.dK []) g3 = some (.dK []) := upd_same
  generalize upd H45 g3 (.dK []) = H46 at *
  have E_q1 := S46 _ _ E_q1
  have a_q1 := MdA.up S46 a_q1
  have v_g1 := MdV.up S46 v_g1
  have v_g2 := MdV.up S46 v_g2
  have v_g3 : MdV H46 (.ref g3) := mdD E_g3
  refine ⟨(show 0 ≤ sizeLine by decide), fun g4 n_g4 => ?_⟩
  have S47 : Same H46 (upd H46 g4 (.tup [])) := same_new n_g4
  have E_g4 : upd H46 g4 (.tup []) g4 = some (.tup []) := upd_same
  generalize upd H46 g4 (.tup []) = H47 at *
  have E_q1 := S47 _ _ E_q1
  have a_q1 := MdA.up S47 a_q1
  have v_g1 := MdV.up S47 v_g1
  have v_g2 := MdV.up S47 v_g2
  have v_g3 := MdV.up S47 v_g3
  refine ⟨(show 1 ≤ sizeLine by decide), fun g5 n_g5 => ?_⟩
  have S48 : Same H47 (upd H47 g5 (.tup [.ref g4])) := same_new n_g5
  have E_g5 : upd H47 g5 (.tup [.ref g4]) g5 = some (.tup [.ref g4]) := upd_same
  generalize upd H47 g5 (.tup [.ref g4]) = H48 at *
  have E_q1 := S48 _ _ E_q1
  have a_q1 := MdA.up S48 a_q1
  have v_g1 := MdV.up S48 v_g1
  have v_g2 := MdV.up S48 v_g2
  have v_g3 := MdV.up S48 v_g3
  have E_g4 := S48 _ _ E_g4
  have v_g5 : MdV H48 (.ref g5) := mdTT E_g4 E_g5
  refine ⟨(show 3 ≤ sizeLine by decide), fun g6 n_g6 => ?_⟩
  have S49 : Same H48 (upd H48 g6 (.tup [.str "send", .str "a", .str "a"])) := same_new n_g6
  have E_g6 : upd H48 g6 (.tup [.str "send", .str "a", .str "a"]) g6 = some (.tup [.str "send", .str "a", .str "a"]) := upd_same
  generalize upd H48 g6 (.tup [.str "send", .str "a", .str "a"]) = H49 at *
  have E_q1 := S49 _ _ E_q1
  have a_q1 := MdA.up S49 a_q1
  have v_g1 := MdV.up S49 v_g1
  have v_g2 := MdV.up S49 v_g2
  have v_g3 := MdV.up S49 v_g3
  have E_g4 := S49 _ _ E_g4
  have v_g5 := MdV.up S49 v_g5
  have v_g6 : MdV H49 (.ref g6) := mdP1 E_g6
  refine ⟨(show 9 ≤ sizeLine by decide), fun l2 n_l2 => ?_⟩
  have S50 : Same H49 (upd H49 l2 (.lst [V.ref g1, V.non, V.int 5, V.str "a", V.ref g2, V.ref g3, V.ref g5, V.bl true, V.ref g6])) := same_new n_l2
  have E_l2 : upd H49 l2 (.lst [V.ref g1, V.non, V.int 5, V.str "a", V.ref g2, V.ref g3, V.ref g5, V.bl true, V.ref g6]) l2 = some (.lst [V.ref g1, V.non, V.int 5, V.str "a", V.ref g2, V.ref g3, V.ref g5, V.bl true, V.ref g6]) := upd_same
  generalize upd H49 l2 (.lst [V.ref g1, V.non, V.int 5, V.str "a", V.ref g2, V.ref g3, V.ref g5, V.bl true, V.ref g6]) = H50 at *
  have E_q1 := S50 _ _ E_q1
  have a_q1 := MdA.up S50 a_q1
  have v_g1 := MdV.up S50 v_g1
  have v_g2 := MdV.up S50 v_g2
  have v_g3 := MdV.up S50 v_g3
  have E_g4 := S50 _ _ E_g4
  have v_g5 := MdV.up S50 v_g5
  have v_g6 := MdV.up S50 v_g6
  have a_l2 : MdA H50 [V.ref g1, V.non, V.int 5, V.str "a", V.ref g2, V.ref g3, V.ref g5, V.bl true, V.ref g6] := (MdA.cons v_g1 (MdA.cons mdN (MdA.cons (mdI 5) (MdA.cons (mdS "a" (by decide +kernel)) (MdA.cons v_g2 (MdA.cons v_g3 (MdA.cons v_g5 (MdA.cons (mdB true) (MdA.cons v_g6 MdA.nil)))))))))
  refine ⟨q1, l2, _, _, rfl, rfl, E_q1, E_l2, small (by show _ + 9 ≤ 1000; omega), fun q2 n_q2 => ?_⟩
  have S51 : Same H50 (upd H50 q2 (.lst (L_q1 ++ [V.ref g1, V.non, V.int 5, V.str "a", V.ref g2, V.ref g3, V.ref g5, V.bl true, V.ref g6]))) := same_new n_q2
  have E_q2 : upd H50 q2 (.lst (L_q1 ++ [V.ref g1, V.non, V.int 5, V.str "a", V.ref g2, V.ref g3, V.ref g5, V.bl true, V.ref g6])) q2 = some (.lst (L_q1 ++ [V.ref g1, V.non, V.int 5, V.str "a", V.ref g2, V.ref g3, V.ref g5, V.bl true, V.ref g6])) := upd_same
  generalize upd H50 q2 (.lst (L_q1 ++ [V.ref g1, V.non, V.int 5, V.str "a", V.ref g2, V.ref g3, V.ref g5, V.bl true, V.ref g6])) = H51 at *
  have E_q1 := S51 _ _ E_q1
  have a_q1 := MdA.up S51 a_q1
  have v_g1 := MdV.up S51 v_g1
  have v_g2 := MdV.up S51 v_g2
  have v_g3 := MdV.up S51 v_g3
  have E_g4 := S51 _ _ E_g4
  have v_g5 := MdV.up S51 v_g5
  have v_g6 := MdV.up S51 v_g6
  have E_l2 := S51 _ _ E_l2
  have a_l2 := MdA.up S51 a_l2
  have a_q2 : MdA H51 (L_q1 ++ [V.ref g1, V.non, V.int 5, V.str "a", V.ref g2, V.ref g3, V.ref g5, V.bl true, V.ref g6]) := MdA.app a_q1 a_l2
  have l_q2 : (L_q1 ++ [V.ref g1, V.non, V.int 5, V.str "a", V.ref g2, V.ref g3, V.ref g5, V.bl true, V.ref g6]).length = 10 + 9 := by rw [List.length_append, l_q1]; rfl
  generalize L_q1 ++ [V.ref g1, V.non, V.int 5, V.str "a", V.ref g2, V.ref g3, V.ref g5, V.bl true, V.ref g6] = L_q2 at *
  have tgE : TabsG Ts H51 := (((((((((((((((((((((tgx.same S31).same S32).same S33).same S34).same S35).same S36).same S37).same S38).same S39).same S40).same S41).same S42).same S43).same S44).same S45).same S46).same S47).same S48).same S49).same S50).same S51)
  refine ⟨q2, rfl, ⟨_, SqL.of E_q2⟩, for_it (walk_list (xs := L_q2))
    (fun _ σ Hz => SamTs Ts H51 Hz ∧ ∃ s1 s2 s3 s4 s5 s6 s7 s8 s9 s10 s11 s12 s13 s14 : Option V, σ = [some (.ref a), s1, s2, s3, s4, s5, s6, s7, s8, s9, s10, s11, s12, s13, s14])
    ⟨SamTs.refl tgE, _, _, _, _, _, _, _, _, _, _, _, _, _, _, rfl⟩ (fun i σ Hz _ hP => SqL.of (hP.1.lst tgE E_q2)) (fun i x σ Hz Hy hi hP hY => ?_) (fun σ Hz hP => q _)⟩
  obtain ⟨sz, s1, s2, s3, s4, s5, s6, s7, s8, s9, s10, s11, s12, s13, s14, rfl⟩ := hP
  obtain ⟨rfl, hx⟩ := hY
  obtain ⟨t, ht, okt, ct⟩ := (a_q2 x (List.mem_of_getElem? hx)).mono (Kpt.of tgE sz)
  refine ⟨_, rfl, x, t, rfl, ht, okt, ct, sz.2, fun Hw st => ⟨_, rfl, iteF ?_⟩⟩
  exact ⟨sz.trans st, _, _, _, _, _, _, _, _, _, _, _, _, _, _, rfl⟩
end
end K54

set_option Elab.async false
set_option linter.all false
set_option maxRecDepth 100000
set_option maxHeartbeats 2000000
/-! The end of a law with the code tables of defs told. -/
namespace Wk
open PySem PySem.Spec PyProof.Rows L2 GxR
theorem walk_tab {l : PySem.W.OpenLaw} {n k : Nat} {q : Program} {loose : List Str} {XP : (Str → Option Value) → Heap → Prop}
    {YP : World → Heap → Prop} {d : DefRec} {K : Params → PySem.W.Frag} {x : Str}
    (hn : l.most = some n) (hn2 : n ≤ sizeLine) (hdf : d.params.defaults = []) (hr : Room k callerA) (hY : ∀ (w : World) (h : Heap), YP w h → (K w.params).In h)
    (F : ∀ (w : World) (mg : Str → Option Value) (fa : Addr) (h : Heap), (K w.params).In h → h.Ns mainGlobals mg → mg d.name = some (.ref fa) →
      (∀ (y : Str) (e : DefRec) (c P : Addr), (recsOf q).find? (fun e => e.name == y) = some e → PySem.W.tabIn (K w.params) y = some (c, P) → PySem.W.CodeHd h c P ∧ h.get? P = some { cls := .none, data := .fields #[] }) →
      LamX.LawAtS l w (K w.params) CX0 k n x mg fa h) :
    PySem.W.WalkO q loose XP YP l.row.toRowW d [] (fun f vs => PySem.call f vs) := by
  refine Att.attach_callB hn hdf fun w s₀ s₁ mg mb fa o pm cd doc a vs ns G Y ho hd hcd hmg hobj hints hlen hbits hg => ?_
  have KX := hY w _ Y
  obtain ⟨fd, cs, sp, hT, nT, C, hb, hsp, hF⟩ := F w mg fa _ KX G.T.g hmg fun y e c P h1 h2 => PySem.W.tab_of G.T KX h1 h2
  refine LamX.law_callTs KX G.T.g G.T.b G.T.builtins G.T.nolimit hg hT nT C G.T.bmain hobj hints (Nat.le_trans hlen hn2) hr hF hb ?_ fun H e s' z => z
  exact fun H hH hS => hsp H a ns hlen hbits hH hS
theorem tab_in {K : PySem.W.Frag} {y : Str} {f c T : Addr} {oc : Value} {od : Option Addr} {fd : FuncData} {sl : Array (Option Value)} {occ : Value} {odc : Option Addr} {vs : Array Value} {slc : Array (Option Value)}
    (a : PySem.W.nsIn K mainGlobals y = some (some (.ref f))) (l : K.lookup f = some ⟨oc, od, .func fd, sl⟩) (e : fd.code = .ref c) (lc : K.lookup c = some ⟨occ, odc, .fields vs, slc⟩) (hv : vs[11]? = some (.ref T)) : PySem.W.tabIn K y = some (c, T) := by
  unfold PySem.W.tabIn
  rw [a]
  dsimp only
  rw [l]
  dsimp only
  rw [e]
  dsimp only
  rw [lc]
  dsimp only
  rw [hv]
theorem funC_mk {K : PySem.W.Frag} {x qual : Str} {st : Stmt} {f c : Addr} {oc : Value} {od : Option Addr} {kV doc pm : Value} {an : Option Addr} {ct : Value} {osl : Array (Option Value)}
    (l : K.lookup f = some ⟨oc, od, .func (PySem.W.fnOf x qual (defArgs st) (defBody st) (defScope st) .none kV doc pm an (.ref c) ct), osl⟩) (h : PySem.W.codeIn K (.ref c) qual = true) (k : PySem.W.keepIn K (.ref f) = true) :
    FunC K x qual st f c (PySem.W.fnOf x qual (defArgs st) (defBody st) (defScope st) .none kV doc pm an (.ref c) ct) := ⟨⟨oc, od, kV, doc, pm, an, ct, osl, rfl, l, h⟩, k⟩
end Wk

set_option Elab.async false
set_option linter.all false
set_option maxRecDepth 100000
set_option maxHeartbeats 2000000
/-! SIZES, asked for any text. -/
namespace Wk
open PySem PySem.Spec PyProof.Rows L2 GxR
theorem find_no {z a : Str} {h : Int} {u : Tok} {v : Value} {r : List DictEntry} (c : ¬ z = a) : List.find? (fun e : DictEntry => e.key.isStr z) (⟨h, .str a u, v⟩ :: r) = List.find? (fun e : DictEntry => e.key.isStr z) r := by
  rw [List.find?_cons]
  have e : Value.isStr (.str a u) z = false := beq_eq_false_iff_ne.mpr fun h => c h.symm
  show (match Value.isStr (.str a u) z with | true => _ | false => _) = _
  rw [e]
theorem find_yes {a : Str} {h : Int} {u : Tok} {v : Value} {r : List DictEntry} : List.find? (fun e : DictEntry => e.key.isStr a) (⟨h, .str a u, v⟩ :: r) = some ⟨h, .str a u, v⟩ := by
  rw [List.find?_cons]
  have e : Value.isStr (.str a u) a = true := beq_self_eq_true a
  show (match Value.isStr (.str a u) a with | true => _ | false => _) = _
  rw [e]
theorem sizesG_of {K : PySem.W.Frag} {w : World} {d : Addr} {es : Array DictEntry} {n : Nat} {h0 h1 h2 h3 h4 h5 h6 h7 : Int} {u0 u1 u2 u3 u4 u5 u6 u7 q0 q1 q2 q3 q4 q5 q6 q7 : Tok}
    (l : K.lookup d = some ⟨.type "dict", none, .dict es n, #[]⟩) (k : PySem.W.KeysLit w.params es.toList) (low : (d == sysModules) = false)
    (e : es.toList = [⟨h0, .str "room" u0, .int 3 q0⟩, ⟨h1, .str "in" u1, .int 3 q1⟩, ⟨h2, .str "out" u2, .int 3 q2⟩, ⟨h3, .str "open" u3, .int 3 q3⟩, ⟨h4, .str "say" u4, .int 2 q4⟩, ⟨h5, .str "hear" u5, .int 3 q5⟩, ⟨h6, .str "new" u6, .int 3 q6⟩, ⟨h7, .str "again" u7, .int 2 q7⟩]) :
    SizesG K w d := by
  refine ⟨⟨es, n, l, k, low⟩, fun z => ?_⟩
  unfold PySem.W.nsIn
  rw [l]
  dsimp only
  rw [e]
  unfold szV szOf
  by_cases c0 : z = "room"
  · subst c0; rw [find_yes]; exact ⟨_, rfl, ⟨_, rfl⟩⟩
  rw [find_no c0, if_neg c0]
  by_cases c1 : z = "in"
  · subst c1; rw [find_yes]; exact ⟨_, rfl, ⟨_, rfl⟩⟩
  rw [find_no c1, if_neg c1]
  by_cases c2 : z = "out"
  · subst c2; rw [find_yes]; exact ⟨_, rfl, ⟨_, rfl⟩⟩
  rw [find_no c2, if_neg c2]
  by_cases c3 : z = "open"
  · subst c3; rw [find_yes]; exact ⟨_, rfl, ⟨_, rfl⟩⟩
  rw [find_no c3, if_neg c3]
  by_cases c4 : z = "say"
  · subst c4; rw [find_yes]; exact ⟨_, rfl, ⟨_, rfl⟩⟩
  rw [find_no c4, if_neg c4]
  by_cases c5 : z = "hear"
  · subst c5; rw [find_yes]; exact ⟨_, rfl, ⟨_, rfl⟩⟩
  rw [find_no c5, if_neg c5]
  by_cases c6 : z = "new"
  · subst c6; rw [find_yes]; exact ⟨_, rfl, ⟨_, rfl⟩⟩
  rw [find_no c6, if_neg c6]
  by_cases c7 : z = "again"
  · subst c7; rw [find_yes]; exact ⟨_, rfl, ⟨_, rfl⟩⟩
  rw [find_no c7, if_neg c7]
  exact ⟨none, rfl, rfl⟩
end Wk

set_option Elab.async false
set_option linter.all false
set_option maxRecDepth 100000
set_option maxHeartbeats 2000000
/-! MAIL_SIZES, asked for any text. -/
namespace Wk
open PySem PySem.Spec PyProof.Rows L2 GxR
theorem msizesG_of {K : PySem.W.Frag} {w : World} {d : Addr} {es : Array DictEntry} {n : Nat} {h0 h1 : Int} {u0 u1 q0 q1 : Tok}
    (l : K.lookup d = some ⟨.type "dict", none, .dict es n, #[]⟩) (k : PySem.W.KeysLit w.params es.toList) (low : (d == sysModules) = false)
    (e : es.toList = [⟨h0, .str "send" u0, .int 3 q0⟩, ⟨h1, .str "get" u1, .int 4 q1⟩]) : MSizesG K w d := by
  refine ⟨⟨es, n, l, k, low⟩, fun z => ?_⟩
  unfold PySem.W.nsIn
  rw [l]
  dsimp only
  rw [e]
  unfold msV msOf
  by_cases c0 : z = "send"
  · subst c0; rw [find_yes]; exact ⟨_, rfl, ⟨_, rfl⟩⟩
  rw [find_no c0, if_neg c0]
  by_cases c1 : z = "get"
  · subst c1; rw [find_yes]; exact ⟨_, rfl, ⟨_, rfl⟩⟩
  rw [find_no c1, if_neg c1]
  exact ⟨none, rfl, rfl⟩
end Wk

set_option Elab.async false
set_option linter.all false
set_option maxRecDepth 100000
set_option maxHeartbeats 2000000
namespace K54
open PySem PySem.Spec PyProof.Rows L2 Wk GxR
theorem all_mk {l : PySem.W.OpenLaw} {w : World} {K : PySem.W.Frag} {h : Heap} {mg : Str → Option Value} {fa f1 f2 f3 f4 f5 f6 f7 f8 f9 f10 f11 f12 f13 f14 f15 f16 f17 f18 f19 f20 f21 f22 f23 f24 f25 f26 t1 cc2 T2 cc4 T4 cc7 T7 : Addr} (X : K.In h) (G : h.Ns mainGlobals mg) (hfa : mg "law" = some (.ref fa))
    {od1 an1 od2 an2 od3 an3 od4 an4 od5 an5 od6 an6 od7 an7 od8 an8 od9 an9 od10 an10 od11 an11 od12 an12 od13 an13 od14 an14 od15 an15 od16 an16 od17 an17 od18 an18 od19 an19 od20 an20 od21 an21 od22 an22 od23 an23 od24 an24 od25 an25 od26 an26 : Option Addr} {sl1 sl2 sl3 sl4 sl5 sl6 sl7 sl8 sl9 sl10 sl11 sl12 sl13 sl14 sl15 sl16 sl17 sl18 sl19 sl20 sl21 sl22 sl23 sl24 sl25 sl26 : Array (Option Value)} {oc1 kV1 dc1 pm1 cd1 ct1 oc2 kV2 dc2 pm2 ct2 oc3 kV3 dc3 pm3 cd3 ct3 oc4 kV4 dc4 pm4 ct4 oc5 kV5 dc5 pm5 cd5 ct5 oc6 kV6 dc6 pm6 cd6 ct6 oc7 kV7 dc7 pm7 ct7 oc8 kV8 dc8 pm8 cd8 ct8 oc9 kV9 dc9 pm9 cd9 ct9 oc10 kV10 dc10 pm10 cd10 ct10 oc11 kV11 dc11 pm11 cd11 ct11 oc12 kV12 dc12 pm12 cd12 ct12 oc13 kV13 dc13 pm13 cd13 ct13 oc14 kV14 dc14 pm14 cd14 ct14 oc15 kV15 dc15 pm15 cd15 ct15 oc16 kV16 dc16 pm16 cd16 ct16 oc17 kV17 dc17 pm17 cd17 ct17 oc18 kV18 dc18 pm18 cd18 ct18 oc19 kV19 dc19 pm19 cd19 ct19 oc20 kV20 dc20 pm20 cd20 ct20 oc21 kV21 dc21 pm21 cd21 ct21 oc22 kV22 dc22 pm22 cd22 ct22 oc23 kV23 dc23 pm23 cd23 ct23 oc24 kV24 dc24 pm24 cd24 ct24 oc25 kV25 dc25 pm25 cd25 ct25 oc26 kV26 dc26 pm26 cd26 ct26 : Value}
    (a1 : PySem.W.nsIn K mainGlobals "is_name" = some (some (.ref f1)))
    (l1 : K.lookup f1 = some ⟨oc1, od1, .func (PySem.W.fnOf "is_name" "is_name" (defArgs sIsName) (defBody sIsName) (defScope sIsName) .none kV1 dc1 pm1 an1 cd1 ct1), sl1⟩)
    (c1 : PySem.W.codeIn K cd1 "is_name" = true) (k1 : PySem.W.keepIn K (.ref f1) = true)
    (a2 : PySem.W.nsIn K mainGlobals "consists_of" = some (some (.ref f2)))
    (l2 : K.lookup f2 = some ⟨oc2, od2, .func (PySem.W.fnOf "consists_of" "consists_of" (defArgs sCons) (defBody sCons) (defScope sCons) .none kV2 dc2 pm2 an2 (.ref cc2) ct2), sl2⟩)
    (c2 : PySem.W.codeIn K (.ref cc2) "consists_of" = true) (k2 : PySem.W.keepIn K (.ref f2) = true)
    (a3 : PySem.W.nsIn K mainGlobals "begins_with_word" = some (some (.ref f3)))
    (l3 : K.lookup f3 = some ⟨oc3, od3, .func (PySem.W.fnOf "begins_with_word" "begins_with_word" (defArgs sBegins) (defBody sBegins) (defScope sBegins) .none kV3 dc3 pm3 an3 cd3 ct3), sl3⟩)
    (c3 : PySem.W.codeIn K cd3 "begins_with_word" = true) (k3 : PySem.W.keepIn K (.ref f3) = true)
    (a4 : PySem.W.nsIn K mainGlobals "parts_within" = some (some (.ref f4)))
    (l4 : K.lookup f4 = some ⟨oc4, od4, .func (PySem.W.fnOf "parts_within" "parts_within" (defArgs sWithin) (defBody sWithin) (defScope sWithin) .none kV4 dc4 pm4 an4 (.ref cc4) ct4), sl4⟩)
    (c4 : PySem.W.codeIn K (.ref cc4) "parts_within" = true) (k4 : PySem.W.keepIn K (.ref f4) = true)
    (a5 : PySem.W.nsIn K mainGlobals "binds_well" = some (some (.ref f5)))
    (l5 : K.lookup f5 = some ⟨oc5, od5, .func (PySem.W.fnOf "binds_well" "binds_well" (defArgs sBinds) (defBody sBinds) (defScope sBinds) .none kV5 dc5 pm5 an5 cd5 ct5), sl5⟩)
    (c5 : PySem.W.codeIn K cd5 "binds_well" = true) (k5 : PySem.W.keepIn K (.ref f5) = true)
    (a6 : PySem.W.nsIn K mainGlobals "is_mail" = some (some (.ref f6)))
    (l6 : K.lookup f6 = some ⟨oc6, od6, .func (PySem.W.fnOf "is_mail" "is_mail" (defArgs sMail) (defBody sMail) (defScope sMail) .none kV6 dc6 pm6 an6 cd6 ct6), sl6⟩)
    (c6 : PySem.W.codeIn K cd6 "is_mail" = true) (k6 : PySem.W.keepIn K (.ref f6) = true)
    (a7 : PySem.W.nsIn K mainGlobals "is_mail_part" = some (some (.ref f7)))
    (l7 : K.lookup f7 = some ⟨oc7, od7, .func (PySem.W.fnOf "is_mail_part" "is_mail_part" (defArgs sMPart) (defBody sMPart) (defScope sMPart) .none kV7 dc7 pm7 an7 (.ref cc7) ct7), sl7⟩)
    (c7 : PySem.W.codeIn K (.ref cc7) "is_mail_part" = true) (k7 : PySem.W.keepIn K (.ref f7) = true)
    (a8 : PySem.W.nsIn K mainGlobals "is_mail_name" = some (some (.ref f8)))
    (l8 : K.lookup f8 = some ⟨oc8, od8, .func (PySem.W.fnOf "is_mail_name" "is_mail_name" (defArgs sMName) (defBody sMName) (defScope sMName) .none kV8 dc8 pm8 an8 cd8 ct8), sl8⟩)
    (c8 : PySem.W.codeIn K cd8 "is_mail_name" = true) (k8 : PySem.W.keepIn K (.ref f8) = true)
    (a9 : PySem.W.nsIn K mainGlobals "mail_rest" = some (some (.ref f9)))
    (l9 : K.lookup f9 = some ⟨oc9, od9, .func (PySem.W.fnOf "mail_rest" "mail_rest" (defArgs sMRest) (defBody sMRest) (defScope sMRest) .none kV9 dc9 pm9 an9 cd9 ct9), sl9⟩)
    (c9 : PySem.W.codeIn K cd9 "mail_rest" = true) (k9 : PySem.W.keepIn K (.ref f9) = true)
    (a10 : PySem.W.nsIn K mainGlobals "mail_names" = some (some (.ref f10)))
    (l10 : K.lookup f10 = some ⟨oc10, od10, .func (PySem.W.fnOf "mail_names" "mail_names" (defArgs sMNames) (defBody sMNames) (defScope sMNames) .none kV10 dc10 pm10 an10 cd10 ct10), sl10⟩)
    (c10 : PySem.W.codeIn K cd10 "mail_names" = true) (k10 : PySem.W.keepIn K (.ref f10) = true)
    (a11 : PySem.W.nsIn K mainGlobals "mail_callings" = some (some (.ref f11)))
    (l11 : K.lookup f11 = some ⟨oc11, od11, .func (PySem.W.fnOf "mail_callings" "mail_callings" (defArgs sMCallings) (defBody sMCallings) (defScope sMCallings) .none kV11 dc11 pm11 an11 cd11 ct11), sl11⟩)
    (c11 : PySem.W.codeIn K cd11 "mail_callings" = true) (k11 : PySem.W.keepIn K (.ref f11) = true)
    (a12 : PySem.W.nsIn K mainGlobals "gather_mail_callings" = some (some (.ref f12)))
    (l12 : K.lookup f12 = some ⟨oc12, od12, .func (PySem.W.fnOf "gather_mail_callings" "gather_mail_callings" (defArgs sMGather) (defBody sMGather) (defScope sMGather) .none kV12 dc12 pm12 an12 cd12 ct12), sl12⟩)
    (c12 : PySem.W.codeIn K cd12 "gather_mail_callings" = true) (k12 : PySem.W.keepIn K (.ref f12) = true)
    (a13 : PySem.W.nsIn K mainGlobals "_law_left" = some (some (.ref f13)))
    (l13 : K.lookup f13 = some ⟨oc13, od13, .func (PySem.W.fnOf "_law_left" "_law_left" (defArgs sLeft) (defBody sLeft) (defScope sLeft) .none kV13 dc13 pm13 an13 cd13 ct13), sl13⟩)
    (c13 : PySem.W.codeIn K cd13 "_law_left" = true) (k13 : PySem.W.keepIn K (.ref f13) = true)
    (a14 : PySem.W.nsIn K mainGlobals "_law_digit" = some (some (.ref f14)))
    (l14 : K.lookup f14 = some ⟨oc14, od14, .func (PySem.W.fnOf "_law_digit" "_law_digit" (defArgs sDigit) (defBody sDigit) (defScope sDigit) .none kV14 dc14 pm14 an14 cd14 ct14), sl14⟩)
    (c14 : PySem.W.codeIn K cd14 "_law_digit" = true) (k14 : PySem.W.keepIn K (.ref f14) = true)
    (a15 : PySem.W.nsIn K mainGlobals "_law_mail_names" = some (some (.ref f15)))
    (l15 : K.lookup f15 = some ⟨oc15, od15, .func (PySem.W.fnOf "_law_mail_names" "_law_mail_names" (defArgs sMNm) (defBody sMNm) (defScope sMNm) .none kV15 dc15 pm15 an15 cd15 ct15), sl15⟩)
    (c15 : PySem.W.codeIn K cd15 "_law_mail_names" = true) (k15 : PySem.W.keepIn K (.ref f15) = true)
    (a16 : PySem.W.nsIn K mainGlobals "_law_mail_part" = some (some (.ref f16)))
    (l16 : K.lookup f16 = some ⟨oc16, od16, .func (PySem.W.fnOf "_law_mail_part" "_law_mail_part" (defArgs sMDP) (defBody sMDP) (defScope sMDP) .none kV16 dc16 pm16 an16 cd16 ct16), sl16⟩)
    (c16 : PySem.W.codeIn K cd16 "_law_mail_part" = true) (k16 : PySem.W.keepIn K (.ref f16) = true)
    (a17 : PySem.W.nsIn K mainGlobals "_law_mail_row" = some (some (.ref f17)))
    (l17 : K.lookup f17 = some ⟨oc17, od17, .func (PySem.W.fnOf "_law_mail_row" "_law_mail_row" (defArgs sMDR) (defBody sMDR) (defScope sMDR) .none kV17 dc17 pm17 an17 cd17 ct17), sl17⟩)
    (c17 : PySem.W.codeIn K cd17 "_law_mail_row" = true) (k17 : PySem.W.keepIn K (.ref f17) = true)
    (a18 : PySem.W.nsIn K mainGlobals "_law_mail_size" = some (some (.ref f18)))
    (l18 : K.lookup f18 = some ⟨oc18, od18, .func (PySem.W.fnOf "_law_mail_size" "_law_mail_size" (defArgs sMSz) (defBody sMSz) (defScope sMSz) .none kV18 dc18 pm18 an18 cd18 ct18), sl18⟩)
    (c18 : PySem.W.codeIn K cd18 "_law_mail_size" = true) (k18 : PySem.W.keepIn K (.ref f18) = true)
    (a19 : PySem.W.nsIn K mainGlobals "_law_mail" = some (some (.ref f19)))
    (l19 : K.lookup f19 = some ⟨oc19, od19, .func (PySem.W.fnOf "_law_mail" "_law_mail" (defArgs sMD) (defBody sMD) (defScope sMD) .none kV19 dc19 pm19 an19 cd19 ct19), sl19⟩)
    (c19 : PySem.W.codeIn K cd19 "_law_mail" = true) (k19 : PySem.W.keepIn K (.ref f19) = true)
    (a20 : PySem.W.nsIn K mainGlobals "_law_is_name" = some (some (.ref f20)))
    (l20 : K.lookup f20 = some ⟨oc20, od20, .func (PySem.W.fnOf "_law_is_name" "_law_is_name" (defArgs sLMN) (defBody sLMN) (defScope sLMN) .none kV20 dc20 pm20 an20 cd20 ct20), sl20⟩)
    (c20 : PySem.W.codeIn K cd20 "_law_is_name" = true) (k20 : PySem.W.keepIn K (.ref f20) = true)
    (a21 : PySem.W.nsIn K mainGlobals "_law_are_parts" = some (some (.ref f21)))
    (l21 : K.lookup f21 = some ⟨oc21, od21, .func (PySem.W.fnOf "_law_are_parts" "_law_are_parts" (defArgs sLP) (defBody sLP) (defScope sLP) .none kV21 dc21 pm21 an21 cd21 ct21), sl21⟩)
    (c21 : PySem.W.codeIn K cd21 "_law_are_parts" = true) (k21 : PySem.W.keepIn K (.ref f21) = true)
    (a22 : PySem.W.nsIn K mainGlobals "_law_met" = some (some (.ref f22)))
    (l22 : K.lookup f22 = some ⟨oc22, od22, .func (PySem.W.fnOf "_law_met" "_law_met" (defArgs sMMet) (defBody sMMet) (defScope sMMet) .none kV22 dc22 pm22 an22 cd22 ct22), sl22⟩)
    (c22 : PySem.W.codeIn K cd22 "_law_met" = true) (k22 : PySem.W.keepIn K (.ref f22) = true)
    (a23 : PySem.W.nsIn K mainGlobals "_law_is_mail" = some (some (.ref f23)))
    (l23 : K.lookup f23 = some ⟨oc23, od23, .func (PySem.W.fnOf "_law_is_mail" "_law_is_mail" (defArgs sLMl) (defBody sLMl) (defScope sLMl) .none kV23 dc23 pm23 an23 cd23 ct23), sl23⟩)
    (c23 : PySem.W.codeIn K cd23 "_law_is_mail" = true) (k23 : PySem.W.keepIn K (.ref f23) = true)
    (a24 : PySem.W.nsIn K mainGlobals "_law_bent" = some (some (.ref f24)))
    (l24 : K.lookup f24 = some ⟨oc24, od24, .func (PySem.W.fnOf "_law_bent" "_law_bent" (defArgs sMBent) (defBody sMBent) (defScope sMBent) .none kV24 dc24 pm24 an24 cd24 ct24), sl24⟩)
    (c24 : PySem.W.codeIn K cd24 "_law_bent" = true) (k24 : PySem.W.keepIn K (.ref f24) = true)
    (a25 : PySem.W.nsIn K mainGlobals "_law_asked" = some (some (.ref f25)))
    (l25 : K.lookup f25 = some ⟨oc25, od25, .func (PySem.W.fnOf "_law_asked" "_law_asked" (defArgs sMAsk) (defBody sMAsk) (defScope sMAsk) .none kV25 dc25 pm25 an25 cd25 ct25), sl25⟩)
    (c25 : PySem.W.codeIn K cd25 "_law_asked" = true) (k25 : PySem.W.keepIn K (.ref f25) = true)
    (a26 : PySem.W.nsIn K mainGlobals "law" = some (some (.ref f26)))
    (l26 : K.lookup f26 = some ⟨oc26, od26, .func (PySem.W.fnOf "law" "law" (defArgs sLaw) (defBody sLaw) (defScope sLaw) .none kV26 dc26 pm26 an26 cd26 ct26), sl26⟩)
    (c26 : PySem.W.codeIn K cd26 "law" = true) (k26 : PySem.W.keepIn K (.ref f26) = true)
    (z1 : PySem.W.nsIn K mainGlobals "abs" = some none)
    (z2 : PySem.W.nsIn K mainGlobals "range" = some none)
    (z3 : PySem.W.nsIn K mainGlobals "len" = some none)
    (z4 : PySem.W.nsIn K mainGlobals "tuple" = some none)
    (z5 : PySem.W.nsIn K mainGlobals "list" = some none)
    (z6 : PySem.W.nsIn K mainGlobals "isinstance" = some none)
    (z7 : PySem.W.nsIn K mainGlobals "bool" = some none)
    (z8 : PySem.W.nsIn K mainGlobals "sum" = some none)
    (z9 : PySem.W.nsIn K mainGlobals "all" = some none)
    (z10 : PySem.W.nsIn K mainGlobals "set" = some none)
    (z11 : PySem.W.nsIn K mainGlobals "str" = some none)
    (z12 : PySem.W.nsIn K mainGlobals "sorted" = some none)
    {u1_0 u1_1 u1_2 u1_3 : Tok} {dd1 : Option Addr} {nn1 : Nat} {sl_1 : Array (Option Value)} (y1 : PySem.W.nsIn K mainGlobals "TAKEN_WORDS" = some (some (.ref t1)))
    (x1 : K.lookup t1 = some ⟨.type "tuple", dd1, .seq #[.str "in" u1_0, .str "out" u1_1, .str "open" u1_2, .str "new" u1_3] nn1, sl_1⟩)
    {tk1 : Tok} (r1 : PySem.W.nsIn K mainGlobals "LETTERS" = some (some (.str abc tk1)))
    {tk2 : Tok} (r2 : PySem.W.nsIn K mainGlobals "MOST_SIGNS" = some (some (.int 6 tk2)))
    {tk3 : Tok} (r3 : PySem.W.nsIn K mainGlobals "MOST_MAIL_PARTS" = some (some (.int 20 tk3)))
    {tk4 : Tok} (r4 : PySem.W.nsIn K mainGlobals "MOST_GETS" = some (some (.int 10 tk4)))
    {tk5 : Tok} (r5 : PySem.W.nsIn K mainGlobals "MOST_MAIL_DEEP" = some (some (.int 4 tk5)))
    {tk6 : Tok} (r6 : PySem.W.nsIn K mainGlobals "MOST_LETTERS" = some (some (.int 4 tk6)))
    {dS : Addr} {esS : Array DictEntry} {nS : Nat} {hh0 hh1 : Int} {uu0 qq0 uu1 qq1 : Tok}
    (sz0 : PySem.W.nsIn K mainGlobals "MAIL_SIZES" = some (some (.ref dS))) (sz1 : K.lookup dS = some ⟨.type "dict", none, .dict esS nS, #[]⟩)
    (sz2 : PySem.W.KeysLit w.params esS.toList) (sz3 : (dS == sysModules) = false)
    (sz4 : esS.toList = [⟨hh0, .str "send" uu0, .int 3 qq0⟩, ⟨hh1, .str "get" uu1, .int 4 qq1⟩])
    {occ2 : Value} {odc2 : Option Addr} {vs2 : Array Value} {slc2 : Array (Option Value)} (lc2 : K.lookup cc2 = some ⟨occ2, odc2, .fields vs2, slc2⟩) (hv2 : vs2[11]? = some (.ref T2)) (tN2 : K.lookup T2 = none)
    (tb2 : PySem.W.tabIn K "consists_of" = some (cc2, T2) → PySem.W.CodeHd h cc2 T2 ∧ h.get? T2 = some { cls := .none, data := .fields #[] })
    {occ4 : Value} {odc4 : Option Addr} {vs4 : Array Value} {slc4 : Array (Option Value)} (lc4 : K.lookup cc4 = some ⟨occ4, odc4, .fields vs4, slc4⟩) (hv4 : vs4[11]? = some (.ref T4)) (tN4 : K.lookup T4 = none)
    (tb4 : PySem.W.tabIn K "parts_within" = some (cc4, T4) → PySem.W.CodeHd h cc4 T4 ∧ h.get? T4 = some { cls := .none, data := .fields #[] })
    {occ7 : Value} {odc7 : Option Addr} {vs7 : Array Value} {slc7 : Array (Option Value)} (lc7 : K.lookup cc7 = some ⟨occ7, odc7, .fields vs7, slc7⟩) (hv7 : vs7[11]? = some (.ref T7)) (tN7 : K.lookup T7 = none)
    (tb7 : PySem.W.tabIn K "is_mail_part" = some (cc7, T7) → PySem.W.CodeHd h cc7 T7 ∧ h.get? T7 = some { cls := .none, data := .fields #[] })
    : LamX.LawAtS l w K CX0 11 63 "_law_script" mg fa h := by
  have e := hfa.symm.trans (PySem.W.mg_of X G a26)
  cases e
  have F1 := fun_mk (st := sIsName) l1 c1 k1
  have g1 := PySem.W.mg_of X G a1
  have b1 := F1.binds (ps := ["thing"]) fun _ _ _ _ _ _ us hl => match us, hl with | [_], _ => rfl
  have E2 := funC_mk (st := sCons) l2 c2 k2
  have F2 := E2.fn
  have g2 := PySem.W.mg_of X G a2
  have b2 := F2.binds (ps := ["text", "signs"]) fun _ _ _ _ _ _ us hl => match us, hl with | [_, _], _ => rfl
  have F3 := fun_mk (st := sBegins) l3 c3 k3
  have g3 := PySem.W.mg_of X G a3
  have b3 := F3.binds (ps := ["thing"]) fun _ _ _ _ _ _ us hl => match us, hl with | [_], _ => rfl
  have E4 := funC_mk (st := sWithin) l4 c4 k4
  have F4 := E4.fn
  have g4 := PySem.W.mg_of X G a4
  have b4 := F4.binds (ps := ["thing", "most_parts", "most_deep", "is_part", "rest"]) fun _ _ _ _ _ _ us hl => match us, hl with | [_, _, _, _, _], _ => rfl
  have F5 := fun_mk (st := sBinds) l5 c5 k5
  have g5 := PySem.W.mg_of X G a5
  have b5 := F5.binds (ps := ["free", "bound"]) fun _ _ _ _ _ _ us hl => match us, hl with | [_, _], _ => rfl
  have F6 := fun_mk (st := sMail) l6 c6 k6
  have g6 := PySem.W.mg_of X G a6
  have b6 := F6.binds (ps := ["thing"]) fun _ _ _ _ _ _ us hl => match us, hl with | [_], _ => rfl
  have E7 := funC_mk (st := sMPart) l7 c7 k7
  have F7 := E7.fn
  have g7 := PySem.W.mg_of X G a7
  have b7 := F7.binds (ps := ["thing"]) fun _ _ _ _ _ _ us hl => match us, hl with | [_], _ => rfl
  have F8 := fun_mk (st := sMName) l8 c8 k8
  have g8 := PySem.W.mg_of X G a8
  have b8 := F8.binds (ps := ["thing"]) fun _ _ _ _ _ _ us hl => match us, hl with | [_], _ => rfl
  have F9 := fun_mk (st := sMRest) l9 c9 k9
  have g9 := PySem.W.mg_of X G a9
  have b9 := F9.binds (ps := ["part"]) fun _ _ _ _ _ _ us hl => match us, hl with | [_], _ => rfl
  have F10 := fun_mk (st := sMNames) l10 c10 k10
  have g10 := PySem.W.mg_of X G a10
  have b10 := F10.binds (ps := ["mail"]) fun _ _ _ _ _ _ us hl => match us, hl with | [_], _ => rfl
  have F11 := fun_mk (st := sMCallings) l11 c11 k11
  have g11 := PySem.W.mg_of X G a11
  have b11 := F11.binds (ps := ["mail"]) fun _ _ _ _ _ _ us hl => match us, hl with | [_], _ => rfl
  have F12 := fun_mk (st := sMGather) l12 c12 k12
  have g12 := PySem.W.mg_of X G a12
  have b12 := F12.binds (ps := ["mail", "around", "free", "bound"]) fun _ _ _ _ _ _ us hl => match us, hl with | [_, _, _, _], _ => rfl
  have F13 := fun_mk (st := sLeft) l13 c13 k13
  have g13 := PySem.W.mg_of X G a13
  have b13 := F13.binds (ps := ["_law_cell"]) fun _ _ _ _ _ _ us hl => match us, hl with | [_], _ => rfl
  have F14 := fun_mk (st := sDigit) l14 c14 k14
  have g14 := PySem.W.mg_of X G a14
  have b14 := F14.binds (ps := ["_law_left_here", "_law_many"]) fun _ _ _ _ _ _ us hl => match us, hl with | [_, _], _ => rfl
  have F15 := fun_mk (st := sMNm) l15 c15 k15
  have g15 := PySem.W.mg_of X G a15
  have b15 := F15.binds (ps := ["_law_left_here", "_law_many"]) fun _ _ _ _ _ _ us hl => match us, hl with | [_, _], _ => rfl
  have F16 := fun_mk (st := sMDP) l16 c16 k16
  have g16 := PySem.W.mg_of X G a16
  have b16 := F16.binds (ps := ["_law_left_here", "_law_room", "_law_scope", "_law_spare"]) fun _ _ _ _ _ _ us hl => match us, hl with | [_, _, _, _], _ => rfl
  have F17 := fun_mk (st := sMDR) l17 c17 k17
  have g17 := PySem.W.mg_of X G a17
  have b17 := F17.binds (ps := ["_law_left_here", "_law_room", "_law_scope", "_law_spare"]) fun _ _ _ _ _ _ us hl => match us, hl with | [_, _, _, _], _ => rfl
  have F18 := fun_mk (st := sMSz) l18 c18 k18
  have g18 := PySem.W.mg_of X G a18
  have b18 := F18.binds (ps := ["_law_mail_here"]) fun _ _ _ _ _ _ us hl => match us, hl with | [_], _ => rfl
  have F19 := fun_mk (st := sMD) l19 c19 k19
  have g19 := PySem.W.mg_of X G a19
  have b19 := F19.binds (ps := ["_law_left_here", "_law_names"]) fun _ _ _ _ _ _ us hl => match us, hl with | [_, _], _ => rfl
  have F20 := fun_mk (st := sLMN) l20 c20 k20
  have g20 := PySem.W.mg_of X G a20
  have b20 := F20.binds (ps := ["_law_thing"]) fun _ _ _ _ _ _ us hl => match us, hl with | [_], _ => rfl
  have F21 := fun_mk (st := sLP) l21 c21 k21
  have g21 := PySem.W.mg_of X G a21
  have b21 := F21.binds (ps := ["_law_thing", "_law_room"]) fun _ _ _ _ _ _ us hl => match us, hl with | [_, _], _ => rfl
  have F22 := fun_mk (st := sMMet) l22 c22 k22
  have g22 := PySem.W.mg_of X G a22
  have b22 := F22.binds (ps := ["_law_mail_here", "_law_around"]) fun _ _ _ _ _ _ us hl => match us, hl with | [_, _], _ => rfl
  have F23 := fun_mk (st := sLMl) l23 c23 k23
  have g23 := PySem.W.mg_of X G a23
  have b23 := F23.binds (ps := ["_law_thing"]) fun _ _ _ _ _ _ us hl => match us, hl with | [_], _ => rfl
  have F24 := fun_mk (st := sMBent) l24 c24 k24
  have g24 := PySem.W.mg_of X G a24
  have b24 := F24.binds (ps := ["_law_mail_here", "_law_left_here", "_law_bound"]) fun _ _ _ _ _ _ us hl => match us, hl with | [_, _, _], _ => rfl
  have F25 := fun_mk (st := sMAsk) l25 c25 k25
  have g25 := PySem.W.mg_of X G a25
  have b25 := F25.binds (ps := ["_law_thing"]) fun _ _ _ _ _ _ us hl => match us, hl with | [_], _ => rfl
  have F26 := fun_mk (st := sLaw) l26 c26 k26
  have g26 := PySem.W.mg_of X G a26
  have n1 := PySem.W.mg_none_of X G z1
  have n2 := PySem.W.mg_none_of X G z2
  have n3 := PySem.W.mg_none_of X G z3
  have n4 := PySem.W.mg_none_of X G z4
  have n5 := PySem.W.mg_none_of X G z5
  have n6 := PySem.W.mg_none_of X G z6
  have n7 := PySem.W.mg_none_of X G z7
  have n8 := PySem.W.mg_none_of X G z8
  have n9 := PySem.W.mg_none_of X G z9
  have n10 := PySem.W.mg_none_of X G z10
  have n11 := PySem.W.mg_none_of X G z11
  have n12 := PySem.W.mg_none_of X G z12
  have v1 := PySem.W.mg_of X G y1
  have U1 : ∀ H, SqT K H t1 [.str "in", .str "out", .str "open", .str "new"] := fun H => .inr ⟨_, _, _, x1, rfl, rfl, (show 4 ≤ sizeLine by decide), (.cons ⟨_, rfl⟩ (.cons ⟨_, rfl⟩ (.cons ⟨_, rfl⟩ (.cons ⟨_, rfl⟩ .nil))))⟩
  have o1 := PySem.W.mg_of X G r1
  have o2 := PySem.W.mg_of X G r2
  have o3 := PySem.W.mg_of X G r3
  have o4 := PySem.W.mg_of X G r4
  have o5 := PySem.W.mg_of X G r5
  have o6 := PySem.W.mg_of X G r6
  obtain ⟨tC2, tT2⟩ := tb2 (tab_in a2 l2 rfl lc2 hv2)
  obtain ⟨tC4, tT4⟩ := tb4 (tab_in a4 l4 rfl lc4 hv4)
  obtain ⟨tC7, tT7⟩ := tb7 (tab_in a7 l7 rfl lc7 hv7)
  refine ⟨PySem.W.fnOf "law" "law" (defArgs sLaw) (defBody sLaw) (defScope sLaw) .none kV26 dc26 pm26 an26 cd26 ct26, [(cc2, T2), (cc4, T4), (cc7, T7)], spLaw K [T2, T4, T7], fun p hp => ?_, fun p hp => ?_, fun p hp => ?_, fun s u => .of_eq rfl, fun H a ns hl hb hH hS => ?_, fun base KB NB TB => ?_⟩
  · simp only [List.mem_cons, List.not_mem_nil, or_false] at hp
    rcases hp with hp | hp | hp
    · rw [hp]; exact tT2
    · rw [hp]; exact tT4
    · rw [hp]; exact tT7
  · simp only [List.mem_cons, List.not_mem_nil, or_false] at hp
    rcases hp with hp | hp | hp
    · rw [hp]; exact tN2
    · rw [hp]; exact tN4
    · rw [hp]; exact tN7
  · simp only [List.mem_cons, List.not_mem_nil, or_false] at hp
    rcases hp with hp | hp | hp
    · rw [hp]; exact tC2
    · rw [hp]; exact tC4
    · rw [hp]; exact tC7
  · refine ⟨a, ns, rfl, hS, hl, fun T h => ?_, fun _ => rfl⟩
    simp only [List.mem_cons, List.not_mem_nil, or_false] at h
    rcases h with h | h | h
    · rw [h]; exact ⟨#[], hH (cc2, T2) (by simp), True.intro⟩
    · rw [h]; exact ⟨#[], hH (cc4, T4) (by simp), True.intro⟩
    · rw [h]; exact ⟨#[], hH (cc7, T7) (by simp), True.intro⟩
  · have tb_2 := TB (cc2, T2) (by simp)
    have B2 : GxR.TabB base mg cc2 T2 := ⟨tb_2.code, tb_2.bm, tb_2.gP⟩
    have tb_4 := TB (cc4, T4) (by simp)
    have B4 : GxR.TabB base mg cc4 T4 := ⟨tb_4.code, tb_4.bm, tb_4.gP⟩
    have tb_7 := TB (cc7, T7) (by simp)
    have B7 : GxR.TabB base mg cc7 T7 := ⟨tb_7.code, tb_7.bm, tb_7.gP⟩
    have mSz := PySem.W.mg_of X G sz0
    have hSz : MSizesG K w dS := msizesG_of sz1 sz2 sz3 sz4
    have m2 : T2 ∈ [T2, T4, T7] := by simp
    have m4 : T4 ∈ [T2, T4, T7] := by simp
    have m7 : T7 ∈ [T2, T4, T7] := by simp
    have G2 := ok_cons (P := l.prog) (w := w) (k := 0) l2 c2 B2 m2 n3 n9 o2
    have G1 := ok_name (P := l.prog) (w := w) F1 G2 b2 k2 g2 n6 n11 v1 U1 o1
    have G3 := ok_begins (P := l.prog) (w := w) (base := base) (k := 0) F3 n6 n4 n11 n3
    have G8 := ok_mname (P := l.prog) (w := w) F8 n3 o6 G1 b1 k1 g1
    have G9 := ok_mrest (P := l.prog) (w := w) (mg := mg) (base := base) (k := 0) F9
    have G7 := ok_mpart (P := l.prog) (w := w) E7 B7 m7 n3 n9 mSz hSz G3 b3 k3 g3 G8 b8 k8 g8
    have G4 := ok_withinQ (P := l.prog) (w := w) (mp := 20) (md := 4) (by decide) (by decide) (fun t h g => okT.rstM h g) E4 B4 m4 G7 b7 k7 G9 b9 k9 n6 n4 n3 n9 n8 n2
    have G5 := ok_binds (P := l.prog) (w := w) (base := base) (Ts := [T2, T4, T7]) (k := 0) F5 n3 n10
    have G12 := mgather_ok (P := l.prog) (w := w) (base := base) F12 b12 g12 5
    have G11 := ok_mcallings (P := l.prog) (w := w) F11 G12 b12 k12 g12
    have G10 := ok_mnames (P := l.prog) (w := w) F10 n10 n12 G11 b11 k11 g11
    have G6 := ok_ismail (P := l.prog) (w := w) F6 o5 o3 o4 n3 g7 g9 G4 b4 k4 g4 G5 b5 k5 g5 G11 b11 k11 g11
    have G13 := ok_left (P := l.prog) (w := w) (base := base) (k := 0) F13 n1 n2
    have G14 := ok_digit (P := l.prog) (w := w) (mg := mg) (base := base) (k := 0) F14
    have G15 := ok_mnm (P := l.prog) (w := w) F15 G14 b14 k14 g14 n2
    have G17 := mrows_ok (P := l.prog) (w := w) F16 F17 G14 b14 k14 g14 n3 n4 n2 b17 g17 b16 g16 4
    have G18 := msz_ok (P := l.prog) (w := w) (base := base) F18 b18 g18 5
    have G19 := ok_md (P := l.prog) (w := w) F19 G14 b14 k14 g14 n2 G17 b17 k17 g17 G18 b18 k18 g18
    have G20 := ok_lmname (P := l.prog) (w := w) (base := base) (k := 0) F20 n6 n11 n3
    have G21 := lparts_ok (P := l.prog) (w := w) F21 G20 b20 k20 g20 b21 g21 n6 n4 n3 5
    have G22 := mmet_ok (P := l.prog) (w := w) (base := base) F22 b22 g22 5
    have G23 := ok_lmail (P := l.prog) (w := w) F23 n3 n10 G21 b21 k21 g21 G18 b18 k18 g18 G22 b22 k22 g22
    have G24 := mbent_ok (P := l.prog) (w := w) F24 G14 b14 k14 g14 n3 n5 b24 g24 5
    have G25 := ok_masked (P := l.prog) (w := w) F25 n6 n7 n5 n10 n12 n2 G6 b6 k6 g6 G23 b23 k23 g23 G22 b22 k22 g22 G10 b10 k10 g10
    exact ok_law (P := l.prog) (w := w) F26 G13 b13 k13 g13 G15 b15 k15 g15 G19 b19 k19 g19 G22 b22 k22 g22 G6 b6 k6 g6 G25 b25 k25 g25 G24 b24 k24 g24 n2 n4
end K54
open PySem PySem.W PyProof.Rows
set_option maxRecDepth 100000 in
set_option maxHeartbeats 0 in
theorem PySem.Challenge.cw_walkrooms_k54_what_is_mail_holds : PySem.Challenge.rw_walkrooms_k54_what_is_mail.Holds := by
  w_on; o_law; k_head; (case hw => w_witness2)
  k_fill
  refine Wk.walk_tab (l := PySem.Challenge.rw_walkrooms_k54_what_is_mail) (n := 63) (k := 11) (x := "_law_script") rfl (by decide) rfl ⟨rfl, by decide, by decide⟩ (fun w h Y => PySem.W.kIn_of Y) ?F
  case F =>
    intro w mg fa h KX G hmg tabs
    refine' K54.all_mk KX G hmg ?a1 ?l1 ?c1 ?k1 ?a2 ?l2 ?c2 ?k2 ?a3 ?l3 ?c3 ?k3 ?a4 ?l4 ?c4 ?k4 ?a5 ?l5 ?c5 ?k5 ?a6 ?l6 ?c6 ?k6 ?a7 ?l7 ?c7 ?k7 ?a8 ?l8 ?c8 ?k8 ?a9 ?l9 ?c9 ?k9 ?a10 ?l10 ?c10 ?k10 ?a11 ?l11 ?c11 ?k11 ?a12 ?l12 ?c12 ?k12 ?a13 ?l13 ?c13 ?k13 ?a14 ?l14 ?c14 ?k14 ?a15 ?l15 ?c15 ?k15 ?a16 ?l16 ?c16 ?k16 ?a17 ?l17 ?c17 ?k17 ?a18 ?l18 ?c18 ?k18 ?a19 ?l19 ?c19 ?k19 ?a20 ?l20 ?c20 ?k20 ?a21 ?l21 ?c21 ?k21 ?a22 ?l22 ?c22 ?k22 ?a23 ?l23 ?c23 ?k23 ?a24 ?l24 ?c24 ?k24 ?a25 ?l25 ?c25 ?k25 ?a26 ?l26 ?c26 ?k26 ?z1 ?z2 ?z3 ?z4 ?z5 ?z6 ?z7 ?z8 ?z9 ?z10 ?z11 ?z12 ?y1 ?x1 ?r1 ?r2 ?r3 ?r4 ?r5 ?r6 ?sz0 ?sz1 ?sz2 ?sz3 ?sz4 ?lc2 ?hv2 ?tN2 (fun ht => tabs "consists_of" _ _ _ rfl ht) ?lc4 ?hv4 ?tN4 (fun ht => tabs "parts_within" _ _ _ rfl ht) ?lc7 ?hv7 ?tN7 (fun ht => tabs "is_mail_part" _ _ _ rfl ht)
    (case a1 => k_is)
    (case l1 => k_is)
    (case c1 => k_is)
    (case k1 => k_is)
    (case a2 => k_is)
    (case l2 => k_is)
    (case c2 => k_is)
    (case k2 => k_is)
    (case a3 => k_is)
    (case l3 => k_is)
    (case c3 => k_is)
    (case k3 => k_is)
    (case a4 => k_is)
    (case l4 => k_is)
    (case c4 => k_is)
    (case k4 => k_is)
    (case a5 => k_is)
    (case l5 => k_is)
    (case c5 => k_is)
    (case k5 => k_is)
    (case a6 => k_is)
    (case l6 => k_is)
    (case c6 => k_is)
    (case k6 => k_is)
    (case a7 => k_is)
    (case l7 => k_is)
    (case c7 => k_is)
    (case k7 => k_is)
    (case a8 => k_is)
    (case l8 => k_is)
    (case c8 => k_is)
    (case k8 => k_is)
    (case a9 => k_is)
    (case l9 => k_is)
    (case c9 => k_is)
    (case k9 => k_is)
    (case a10 => k_is)
    (case l10 => k_is)
    (case c10 => k_is)
    (case k10 => k_is)
    (case a11 => k_is)
    (case l11 => k_is)
    (case c11 => k_is)
    (case k11 => k_is)
    (case a12 => k_is)
    (case l12 => k_is)
    (case c12 => k_is)
    (case k12 => k_is)
    (case a13 => k_is)
    (case l13 => k_is)
    (case c13 => k_is)
    (case k13 => k_is)
    (case a14 => k_is)
    (case l14 => k_is)
    (case c14 => k_is)
    (case k14 => k_is)
    (case a15 => k_is)
    (case l15 => k_is)
    (case c15 => k_is)
    (case k15 => k_is)
    (case a16 => k_is)
    (case l16 => k_is)
    (case c16 => k_is)
    (case k16 => k_is)
    (case a17 => k_is)
    (case l17 => k_is)
    (case c17 => k_is)
    (case k17 => k_is)
    (case a18 => k_is)
    (case l18 => k_is)
    (case c18 => k_is)
    (case k18 => k_is)
    (case a19 => k_is)
    (case l19 => k_is)
    (case c19 => k_is)
    (case k19 => k_is)
    (case a20 => k_is)
    (case l20 => k_is)
    (case c20 => k_is)
    (case k20 => k_is)
    (case a21 => k_is)
    (case l21 => k_is)
    (case c21 => k_is)
    (case k21 => k_is)
    (case a22 => k_is)
    (case l22 => k_is)
    (case c22 => k_is)
    (case k22 => k_is)
    (case a23 => k_is)
    (case l23 => k_is)
    (case c23 => k_is)
    (case k23 => k_is)
    (case a24 => k_is)
    (case l24 => k_is)
    (case c24 => k_is)
    (case k24 => k_is)
    (case a25 => k_is)
    (case l25 => k_is)
    (case c25 => k_is)
    (case k25 => k_is)
    (case a26 => k_is)
    (case l26 => k_is)
    (case c26 => k_is)
    (case k26 => k_is)
    (case z1 => k_is)
    (case z2 => k_is)
    (case z3 => k_is)
    (case z4 => k_is)
    (case z5 => k_is)
    (case z6 => k_is)
    (case z7 => k_is)
    (case z8 => k_is)
    (case z9 => k_is)
    (case z10 => k_is)
    (case z11 => k_is)
    (case z12 => k_is)
    (case y1 => k_is)
    (case x1 => k_is)
    (case r1 => k_is)
    (case r2 => k_is)
    (case r3 => k_is)
    (case r4 => k_is)
    (case r5 => k_is)
    (case r6 => k_is)
    (case sz0 => k_is)
    (case sz1 => k_is)
    (case sz2 => exact ⟨⟨_, _, rfl, rfl⟩, ⟨_, _, rfl, rfl⟩, trivial⟩)
    (case sz3 => rfl)
    (case sz4 => rfl)
    (case lc2 => k_is)
    (case hv2 => rfl)
    (case tN2 => rfl)
    (case lc4 => k_is)
    (case hv4 => rfl)
    (case tN4 => rfl)
    (case lc7 => k_is)
    (case hv7 => rfl)
    (case tN7 => rfl)
