import PyProof.Rows.All
import Wide.All
import OpenK.AllK
import Wide.FinOn
import HandS.ForMost
import HandS.StrMore
import HandS.IsInst
import HandS.Wide
import HandS.TupMul
import HandS.Walk
import KE.SortData
import KE.IntTextLaws
import PyProof.StrBlock2
import PySem.Challenge.RW_stillread_k07_whole_windows_found
set_option Elab.async false
set_option maxRecDepth 100000
set_option maxHeartbeats 4000000
namespace My
open PySem L2
/-! ### heaps -/
theorem Same.new {H : Hp} {p : Addr} {o : HO} (h : H p = none) : Same H (upd H p o) := fun b u e => by
  rw [upd_ne (ne_of_none e h)]
  exact e
/-- tuples stand as they stood -/
def Kt (H H' : Hp) : Prop := ∀ a xs, Rd H a (.tup xs) → Rd H' a (.tup xs)
theorem Kt.refl (H : Hp) : Kt H H := fun _ _ h => h
theorem Kt.trans {H H1 H2 : Hp} (a : Kt H H1) (b : Kt H1 H2) : Kt H H2 := fun x xs h => b x xs (a x xs h)
theorem Kt.of {H H' : Hp} (s : Same H H') : Kt H H' := fun a xs h => by
  rcases h with h | ⟨o, h⟩
  · exact .inl (s _ _ h)
  · exact .inr ⟨o, s _ _ h⟩
/-- a list (or nothing) at p may change -/
theorem Kt.lst {H : Hp} {p : Addr} {o : HO} (h : H p = none ∨ ∃ xs, H p = some (.lst xs)) : Kt H (upd H p o) := fun a xs r => by
  have ne : a ≠ p := by
    intro e
    subst e
    rcases h with h | ⟨ys, h⟩ <;> rcases r with r | ⟨_, r⟩ <;> rw [h] at r <;> cases r
  rcases r with r | ⟨ob, r⟩
  · exact .inl (by rw [upd_ne ne]; exact r)
  · exact .inr ⟨ob, by rw [upd_ne ne]; exact r⟩
theorem kt_t {K : PySem.W.Frag} {H H' : Hp} {a : Addr} {xs : List V} (k : Kt H H') (h : SqT K H a xs) : SqT K H' a xs := by
  rcases h with h | h
  · exact .inl (k _ _ h)
  · exact .inr h
/-- all but t as it was -/
def But (t : Addr) (H H' : Hp) : Prop := ∀ b o, b ≠ t → H b = some o → H' b = some o
theorem But.refl (t : Addr) (H : Hp) : But t H H := fun _ _ _ h => h
theorem But.trans {t : Addr} {H H1 H2 : Hp} (a : But t H H1) (b : But t H1 H2) : But t H H2 := fun c o n h => b c o n (a c o n h)
theorem But.of {t : Addr} {H H' : Hp} (s : Same H H') : But t H H' := fun b o _ h => s b o h
theorem But.upd {t : Addr} {H : Hp} {o : HO} : But t H (upd H t o) := fun b u n h => by
  rw [upd_ne n]; exact h
/-! ### data that never changes -/
mutual
inductive Tp (K : PySem.W.Frag) (H : Hp) : V → PyData → Prop
  | non : Tp K H .non .none
  | bl (b : Bool) : Tp K H (.bl b) (.bool b)
  | int (i : Int) : Tp K H (.int i) (.int i)
  | str (x : Str) : Tp K H (.str x) (.str x)
  | tup {a : Addr} {xs : List V} {ds : List PyData} : SqT K H a xs → TpAll K H xs ds → Tp K H (.ref a) (.tuple ds)
inductive TpAll (K : PySem.W.Frag) (H : Hp) : List V → List PyData → Prop
  | nil : TpAll K H [] []
  | cons {v : V} {vs : List V} {d : PyData} {ds : List PyData} : Tp K H v d → TpAll K H vs ds → TpAll K H (v :: vs) (d :: ds)
end
section
variable {K : PySem.W.Frag} {H H' : Hp}
mutual
theorem Tp.keep (k : Kt H H') : ∀ {d : PyData} {v : V}, Tp K H v d → Tp K H' v d
  | _, _, .non => .non
  | _, _, .bl b => .bl b
  | _, _, .int i => .int i
  | _, _, .str x => .str x
  | _, _, .tup h t => .tup (kt_t k h) (TpAll.keep k t)
theorem TpAll.keep (k : Kt H H') : ∀ {ds : List PyData} {vs : List V}, TpAll K H vs ds → TpAll K H' vs ds
  | _, _, .nil => .nil
  | _, _, .cons h t => .cons (Tp.keep k h) (TpAll.keep k t)
end
mutual
theorem Tp.dp : ∀ {d : PyData} {v : V}, Tp K H v d → Dp K H v d
  | _, _, .non => .non
  | _, _, .bl b => .bl b
  | _, _, .int i => .int i
  | _, _, .str x => .str x
  | _, _, .tup h t => .tup h (TpAll.dp t)
theorem TpAll.dp : ∀ {ds : List PyData} {vs : List V}, TpAll K H vs ds → DpAll K H vs ds
  | _, _, .nil => .nil
  | _, _, .cons h t => .cons (Tp.dp h) (TpAll.dp t)
end
theorem TpAll.snoc : ∀ {ds : List PyData} {vs : List V} {d : PyData} {v : V}, TpAll K H vs ds → Tp K H v d → TpAll K H (vs ++ [v]) (ds ++ [d])
  | _, _, _, _, .nil, h => .cons h .nil
  | _, _, _, _, .cons a t, h => .cons a (TpAll.snoc t h)
theorem TpAll.append : ∀ {ds es : List PyData} {vs us : List V}, TpAll K H vs ds → TpAll K H us es → TpAll K H (vs ++ us) (ds ++ es)
  | _, _, _, _, .nil, h => h
  | _, _, _, _, .cons a t, h => .cons a (TpAll.append t h)
theorem TpAll.length : ∀ {ds : List PyData} {vs : List V}, TpAll K H vs ds → vs.length = ds.length
  | _, _, .nil => rfl
  | _, _, .cons _ t => by simp [TpAll.length t]
theorem TpAll.ints : ∀ ns : List Int, TpAll K H (ns.map V.int) (ns.map PyData.int)
  | [] => .nil
  | n :: r => .cons (.int n) (TpAll.ints r)
theorem TpAll.get : ∀ {ds : List PyData} {vs : List V} {i : Nat} {v : V}, TpAll K H vs ds → vs[i]? = some v → ∃ d, ds[i]? = some d ∧ Tp K H v d
  | _, _, _, _, .nil, e => by simp at e
  | _, _, 0, _, .cons h _, e => by simp at e; subst e; exact ⟨_, rfl, h⟩
  | _, _, i + 1, _, .cons _ t, e => by
    obtain ⟨d, h1, h2⟩ := TpAll.get (i := i) t (by simpa using e)
    exact ⟨d, by simpa using h1, h2⟩
/-- a tuple of ints that is told by data -/
theorem TpAll.ints_of : ∀ {ns : List Int} {vs : List V}, TpAll K H vs (ns.map PyData.int) → vs = ns.map V.int
  | [], _, h => by cases h; rfl
  | n :: r, _, h => by
    cases h with
    | cons a t =>
      cases a
      rw [TpAll.ints_of t]
      rfl
theorem tp_ints {a : Addr} {ns : List Int} (h : SqT K H a (ns.map V.int)) : Tp K H (.ref a) (.tuple (ns.map PyData.int)) := .tup h (TpAll.ints ns)
theorem tp_new {p : Addr} {xs : List V} {ds : List PyData} (h : H p = none) (t : TpAll K H xs ds) : Tp K (upd H p (.tup xs)) (.ref p) (.tuple ds) :=
  .tup (SqT.of upd_same) (t.keep (Kt.of (Same.new h)))
theorem dp_lst {l : Addr} {xs : List V} {ds : List PyData} (h : H l = some (.lst xs)) (t : TpAll K H xs ds) : Dp K H (.ref l) (.list ds) := .lst (SqL.of h) t.dp
end
/-! ### data that can be compared -/
mutual
/-- no dict within, and at most n deep -/
def flatD : Nat → PyData → Bool
  | _, .none => true
  | _, .bool _ => true
  | _, .int _ => true
  | _, .str x => PyData.strOk x
  | n + 1, .list ds => flatAll n ds
  | n + 1, .tuple ds => flatAll n ds
  | _, _ => false
def flatAll : Nat → List PyData → Bool
  | _, [] => true
  | n, d :: ds => flatD n d && flatAll n ds
end
mutual
theorem flat_lay : ∀ (n : Nat) (d : PyData), flatD n d = true → d.canLay0 = true ∧ d.depth ≤ n
  | n, .none, _ => ⟨by simp [PyData.canLay0], by simp [PyData.depth]⟩
  | n, .bool _, _ => ⟨by simp [PyData.canLay0], by simp [PyData.depth]⟩
  | n, .int _, _ => ⟨by simp [PyData.canLay0], by simp [PyData.depth]⟩
  | n, .str _, h => ⟨by simpa [PyData.canLay0, flatD] using h, by simp [PyData.depth]⟩
  | n + 1, .list ds, h => by
    have h' : flatAll n ds = true := by simpa [flatD] using h
    have q := flatAll_lay n ds h'
    exact ⟨by simpa [PyData.canLay0] using q.1, by simp only [PyData.depth]; omega⟩
  | n + 1, .tuple ds, h => by
    have h' : flatAll n ds = true := by simpa [flatD] using h
    have q := flatAll_lay n ds h'
    exact ⟨by simpa [PyData.canLay0] using q.1, by simp only [PyData.depth]; omega⟩
  | 0, .list _, h => by simp [flatD] at h
  | 0, .tuple _, h => by simp [flatD] at h
  | 0, .dict _, h => by simp [flatD] at h
  | _ + 1, .dict _, h => by simp [flatD] at h
theorem flatAll_lay : ∀ (n : Nat) (ds : List PyData), flatAll n ds = true → PyData.canLayAll0 ds = true ∧ PyData.depthAll ds ≤ n
  | n, [], _ => ⟨by simp [PyData.canLayAll0], by simp [PyData.depthAll]⟩
  | n, d :: ds, h => by
    have h' : flatD n d = true ∧ flatAll n ds = true := by simpa [flatAll] using h
    have a := flat_lay n d h'.1
    have b := flatAll_lay n ds h'.2
    exact ⟨by simp [PyData.canLayAll0, a.1, b.1], by simp only [PyData.depthAll]; omega⟩
end
theorem flat_shaped {n : Nat} {d : PyData} (h : flatD n d = true) (hn : n ≤ 64) : SeqAt.shaped d = true := by
  have q := flat_lay n d h
  unfold SeqAt.shaped
  rw [q.1, decide_eq_true (Nat.le_trans q.2 hn)]
  rfl
theorem flatAll_iff {n : Nat} : ∀ {ds : List PyData}, flatAll n ds = true ↔ ∀ d ∈ ds, flatD n d = true
  | [] => by simp [flatAll]
  | d :: ds => by
    rw [flatAll, Bool.and_eq_true, flatAll_iff (n := n) (ds := ds)]
    simp
theorem flat_ints {n : Nat} (ns : List Int) : flatAll n (ns.map PyData.int) = true := flatAll_iff.mpr fun d hd => by
  obtain ⟨i, _, rfl⟩ := List.mem_map.mp hd
  cases n <;> rfl
theorem shaped_eqv {d : PyData} (h : SeqAt.shaped d = true) : PyData.eqv d d = true := SeqAt.eqv_refl d (SeqAt.canLay_of_shaped h)
/-! ### tests -/
theorem iteB {b : Bool} {A B : Prop} (h1 : b = true → A) (h2 : b = false → B) : if b = true then A else B := by
  cases b with
  | true => exact iteT (h1 rfl)
  | false => exact iteF (h2 rfl)
theorem sz {n : Nat} (h : n ≤ 1000000) : n ≤ sizeLine := Nat.le_trans h (by decide)
theorem szl {n : Nat} (h : n ≤ 1000000) : n < sizeLine := Nat.lt_of_le_of_lt h (by decide)
/-- a power of any size -/
theorem op_powW {X : Cx} : OpR X (binaryOp .Pow) (rI (fun i j => 0 ≤ j ∧ (Builtin.Int.intBits i : Int) * j ≤ 2 ^ 27) fun i j => .int (i ^ j.toNat)) := opI fun _ _ _ _ _ _ _ hc q => PyProof.Rows.pow_int hc.1 hc.2 q
/-! ### a while's test hands on whatever is wanted -/
def MonoE (t : TE) : Prop := ∀ σ H (Q Q' : VK), (∀ v H1, Q v H1 → Q' v H1) → t σ H Q → t σ H Q'
def MonoT (t : TT) : Prop := ∀ σ H (Q Q' : Bool → Hp → Prop), (∀ b H1, Q b H1 → Q' b H1) → t σ H Q → t σ H Q'
def MonoR (r : R2) : Prop := ∀ x y H (Q Q' : VK), (∀ v H1, Q v H1 → Q' v H1) → r x y H Q → r x y H Q'
theorem me_var {i : Nat} : MonoE (tVar i) := fun _ _ _ _ m ⟨v, e, h⟩ => ⟨v, e, m _ _ h⟩
theorem me_c {v : V} : MonoE (tC v) := fun _ _ _ _ m h => m _ _ h
theorem mr_I0 {g : Int → Int → V} : MonoR (rI0 g) := fun _ _ _ _ _ m ⟨i, j, a, b, h⟩ => ⟨i, j, a, b, m _ _ h⟩
theorem mr_I {C : Int → Int → Prop} {g : Int → Int → V} : MonoR (rI C g) := fun _ _ _ _ _ m ⟨i, j, a, b, c, h⟩ => ⟨i, j, a, b, c, m _ _ h⟩
theorem mr_eq : MonoR rEq := fun _ _ _ _ _ m ⟨a, h⟩ => ⟨a, m _ _ h⟩
theorem mr_ne : MonoR rNe := fun _ _ _ _ _ m ⟨a, h⟩ => ⟨a, m _ _ h⟩
theorem mr_ixL {K : PySem.W.Frag} : MonoR (rIxL K) := fun _ _ _ _ _ m ⟨p, xs, i, v, a, b, c, d, h⟩ => ⟨p, xs, i, v, a, b, c, d, m _ _ h⟩
theorem mr_neD {K : PySem.W.Frag} : MonoR (rNeD K) := fun _ _ _ _ _ m ⟨p, q, a, b, c, d, h⟩ => ⟨p, q, a, b, c, d, m _ _ h⟩
theorem me_op {r : R2} {ta tb : TE} (hr : MonoR r) (ha : MonoE ta) (hb : MonoE tb) : MonoE (tOp r ta tb) := fun σ H Q Q' m h =>
  ha σ H _ _ (fun x H1 h1 => hb σ H1 _ _ (fun y H2 h2 => hr x y H2 _ _ m h2) h1) h
theorem me_chain {r r' : R2} {ta tb tc : TE} (hr : MonoR r) (hr' : MonoR r') (ha : MonoE ta) (hb : MonoE tb) (hc : MonoE tc) : MonoE (tChain r r' ta tb tc) := fun σ H Q Q' m h =>
  ha σ H _ _ (fun x H1 h1 => hb σ H1 _ _ (fun y H2 h2 => hr x y H2 _ _ (fun z H3 ⟨k, e, h3⟩ => ⟨k, e, by
    cases k with
    | true => exact iteT (hc σ H3 _ _ (fun w H4 h4 => hr' y w H4 _ _ m h4) (by simpa using h3))
    | false => exact iteF (m _ _ (by simpa using h3))⟩) h2) h1) h
theorem mt_test {t : TE} (h : MonoE t) : MonoT (tTest t) := fun σ H _ _ m g => h σ H _ _ (fun _ _ ⟨k, e, q⟩ => ⟨k, e, m _ _ q⟩) g
theorem mt_B {t : TE} (h : MonoE t) : MonoT (tB t) := fun σ H _ _ m g => h σ H _ _ (fun _ _ ⟨k, e, q⟩ => ⟨k, e, m _ _ q⟩) g
theorem mt_and {t u : TT} (h : MonoT t) (g : MonoT u) : MonoT (tAnd t u) := fun σ H Q Q' m p => h σ H _ _ (fun b H1 q => by
  cases b with
  | true => exact iteT (g σ H1 _ _ m (by simpa using q))
  | false => exact iteF (m _ _ (by simpa using q))) p
theorem mt_or {t u : TT} (h : MonoT t) (g : MonoT u) : MonoT (tOr t u) := fun σ H Q Q' m p => h σ H _ _ (fun b H1 q => by
  cases b with
  | true => exact iteT (m _ _ (by simpa using q))
  | false => exact iteF (g σ H1 _ _ m (by simpa using q))) p
theorem mt_not {t : TT} (h : MonoT t) : MonoT (tNot t) := fun σ H _ _ m p => h σ H _ _ (fun _ _ q => m _ _ q) p
/-! ### sorted(xs), data of any kind -/
def sortD (bs : List (V × PyData)) : List V := (bs.mergeSort (PySem.W.dataLe false Prod.snd)).map Prod.fst
def rSortedD (K : PySem.W.Frag) : List V → Hp → VK → Prop := fun vs H Q => ∃ (a : Addr) (bs : List (V × PyData)), vs = [V.ref a] ∧ SqL K H a (bs.map Prod.fst) ∧ (∀ b ∈ bs, Dp K H b.1 b.2) ∧ PySem.W.AllAlike (bs.map Prod.snd) ∧ PySem.W.Sortable (bs.map Prod.snd) ∧
  (∀ b ∈ bs, b.2.depth ≤ 60) ∧ ∀ p, H p = none → Q (.ref p) (upd H p (.lst (sortD bs)))
theorem each_vals : ∀ {bs : List (V × PyData)} {its : List Value}, Vals (bs.map Prod.fst) its → PySem.W.EachIs (fun v (b : V × PyData) => RelV b.1 v) its bs
  | [], _, h => by cases h; exact .nil
  | b :: r, _, h => by
    cases h with
    | cons h1 h2 => exact .cons h1 (each_vals h2)
theorem vals_each : ∀ {bs : List (V × PyData)} {its : List Value}, PySem.W.EachIs (fun v (b : V × PyData) => RelV b.1 v) its bs → Vals (bs.map Prod.fst) its
  | _, _, .nil => .nil
  | _, _, .cons h t => .cons h (vals_each t)
theorem call_sortedD {X : Cx} (hu : X.A.units + 64 < cLine) : CallR X (.builtin "sorted") (rSortedD X.K) := by
  intro pins s σ H vs us Q I r h
  obtain ⟨a, bs, rfl, hs, hd, hal, hk, hdep, q⟩ := h
  obtain ⟨its, rv, hl, hz⟩ := I.list hs
  rw [Vals.ref1 r]
  have e1 := each_vals rv
  have e2 : ∀ {cs : List (V × PyData)} {jts : List Value}, (∀ b ∈ cs, Dp X.K H b.1 b.2) → PySem.W.EachIs (fun v (b : V × PyData) => RelV b.1 v) jts cs → PySem.W.EachIs (fun v (b : V × PyData) => ∃ as, PySem.Reads s.heap v b.2 as) jts cs := by
    intro cs jts hc e
    induction e with
    | nil => exact .nil
    | @cons v b as bs' h1 t ih => exact .cons (Dp.reads I b.2 b.1 v (hc b (by simp)) h1) (ih fun b hb => hc b (List.mem_cons_of_mem _ hb))
  have hlen : bs.length ≤ sizeLine := by rw [List.length_map] at hz; exact hz
  refine PySem.W.sorted_data hl.isList e1 (e2 hd e1) hal hk hlen (fun b hb => by have := hdep b hb; omega) fun out h1 h2 => ?_
  obtain ⟨ep, he'⟩ := PyProof.Rows.sortedAll_at s.heap its out.toArray
  have hv := vals_each h2
  have hlen' : (sortD bs).length ≤ sizeLine := by
    unfold sortD
    rw [List.length_map, List.length_mergeSort]
    exact hlen
  exact ⟨.ref _, upd H (s.heap.objs.size + 1) (.lst (sortD bs)), I.laid (t' := s.toks) (fun _ _ => PyProof.Rows.sortedAll_old) (Nat.le_succ _) ⟨hlen', out, ep, hv, he'⟩, rfl, q _ (I.hok.fresh (Nat.le_succ _))⟩
theorem sortD_same {bs : List (V × PyData)} (h : bs.Pairwise fun x y => PySem.W.dataLe false Prod.snd x y = true) : sortD bs = bs.map Prod.fst := by
  unfold sortD
  rw [List.mergeSort_of_pairwise h]
end My

set_option autoImplicit false
set_option maxHeartbeats 1000000
namespace My
def dg (c : Nat) : Bool := decide (48 ≤ c) && decide (c ≤ 57)
def digv (l : List Nat) : Nat := l.foldl (fun t c => t * 10 + (c - 48)) 0
def ck (l : List Nat) (i : Nat) : List Nat := (l.drop (3 * i)).take 3
def okc (t : List Nat) : Bool := decide (t.length = 3) && (t.all dg && decide (digv t ≤ 996))
def nck (l : List Nat) : Nat := (l.length + 2) / 3
def vals (l : List Nat) (n : Nat) : List Int := (List.range n).map fun i => ((digv (ck l i) : Nat) : Int)
def oks (l : List Nat) (n : Nat) : Bool := (List.range n).all fun i => okc (ck l i)
def toldL (l : List Nat) : Option (List Int) := if oks l (nck l) = true then some (vals l (nck l)) else none
def winAt (s : List Nat) (p : Nat) : Option (List Int) := if s[p]? = some 35 ∧ s[p + 121]? = some 59 then toldL ((s.drop (p + 1)).take 120) else none
def wf (s : List Nat) (p : Nat) : Option (Nat × List Int) := (winAt s p).map fun c => (p, c)
def wl (s : List Nat) (b e : Nat) : List (Nat × List Int) := (List.range' b (e - b)).filterMap (wf s)

theorem oks_iff {l : List Nat} {n : Nat} : oks l n = true ↔ ∀ i, i < n → okc (ck l i) = true := by
  unfold oks
  rw [List.all_eq_true]
  exact ⟨fun h i hi => h i (List.mem_range.mpr hi), fun h i hi => h i (List.mem_range.mp hi)⟩
theorem oks_succ {l : List Nat} {n : Nat} : oks l (n + 1) = (oks l n && okc (ck l n)) := by
  unfold oks
  rw [List.range_succ, List.all_append]
  simp
theorem vals_succ {l : List Nat} {n : Nat} : vals l (n + 1) = vals l n ++ [((digv (ck l n) : Nat) : Int)] := by
  unfold vals
  rw [List.range_succ, List.map_append]
  rfl
theorem vals_length {l : List Nat} {n : Nat} : (vals l n).length = n := by simp [vals]
/-- all digits where it is told -/
theorem told_dg {l : List Nat} {cs : List Int} (h : toldL l = some cs) : ∀ (j c : Nat), l[j]? = some c → dg c = true := by
  intro j c hj
  unfold toldL at h
  by_cases ho : oks l (nck l) = true
  · have hlt : j < l.length := (List.getElem?_eq_some_iff.mp hj).1
    have hi : j / 3 < nck l := by unfold nck; omega
    have hk := oks_iff.mp ho (j / 3) hi
    unfold okc at hk
    simp only [Bool.and_eq_true, List.all_eq_true] at hk
    refine hk.2.1 c ?_
    unfold ck
    refine List.mem_of_getElem? (i := j % 3) ?_
    rw [List.getElem?_take_of_lt (by omega), List.getElem?_drop]
    have : 3 * (j / 3) + j % 3 = j := by omega
    rw [this]
    exact hj
  · rw [if_neg ho] at h
    cases h
theorem fm_congr {α β : Type} {f g : α → Option β} : ∀ {l : List α}, (∀ x ∈ l, f x = g x) → l.filterMap f = l.filterMap g
  | [], _ => rfl
  | x :: l, h => by
    rw [List.filterMap_cons, List.filterMap_cons, h x (by simp), fm_congr fun y hy => h y (List.mem_cons_of_mem _ hy)]
theorem wl_nil {s : List Nat} {b e : Nat} (h : e ≤ b) : wl s b e = [] := by
  unfold wl
  have : e - b = 0 := by omega
  rw [this]
  rfl
theorem wl_append {s : List Nat} {a b c : Nat} (h1 : a ≤ b) (h2 : b ≤ c) : wl s a c = wl s a b ++ wl s b c := by
  unfold wl
  rw [← List.filterMap_append]
  have e : c - a = (b - a) + (c - b) := by omega
  rw [e, ← List.range'_append_1]
  have e2 : a + (b - a) = b := by omega
  rw [e2]
theorem wl_succ {s : List Nat} {a b : Nat} (h : a ≤ b) : wl s a (b + 1) = wl s a b ++ (wf s b).toList := by
  rw [wl_append h (Nat.le_succ b)]
  congr 1
  unfold wl
  have : b + 1 - b = 1 := by omega
  rw [this]
  simp [List.range'_one, List.filterMap]
  cases wf s b <;> rfl
theorem mem_wl {s : List Nat} {b e : Nat} {x : Nat × List Int} : x ∈ wl s b e ↔ b ≤ x.1 ∧ x.1 < e ∧ winAt s x.1 = some x.2 := by
  obtain ⟨p, c⟩ := x
  unfold wl wf
  rw [List.mem_filterMap]
  constructor
  · rintro ⟨q, hq, e1⟩
    rw [List.mem_range'_1] at hq
    cases hw : winAt s q with
    | none => rw [hw] at e1; cases e1
    | some d =>
      rw [hw] at e1
      cases e1
      exact ⟨hq.1, by omega, hw⟩
  · rintro ⟨h1, h2, h3⟩
    refine ⟨p, List.mem_range'_1.mpr ⟨h1, by show p < b + (e - b); have : b ≤ p := h1; have : p < e := h2; omega⟩, ?_⟩
    have h3' : winAt s p = some c := h3
    rw [h3']
    rfl
theorem win_lt {s : List Nat} {p : Nat} {c : List Int} (h : winAt s p = some c) : s[p]? = some 35 ∧ s[p + 121]? = some 59 ∧ p + 121 < s.length ∧ toldL ((s.drop (p + 1)).take 120) = some c := by
  unfold winAt at h
  by_cases g : s[p]? = some 35 ∧ s[p + 121]? = some 59
  · rw [if_pos g] at h
    exact ⟨g.1, g.2, (List.getElem?_eq_some_iff.mp g.2).1, h⟩
  · rw [if_neg g] at h
    cases h
theorem win_apart {s : List Nat} {p q : Nat} {c d : List Int} (h : winAt s p = some c) (g : winAt s q = some d) (hpq : p < q) : p + 122 ≤ q := by
  obtain ⟨_, h2, h3, h4⟩ := win_lt h
  obtain ⟨g1, _, _, _⟩ := win_lt g
  by_cases hlt : p + 122 ≤ q
  · exact hlt
  · by_cases he : q = p + 121
    · rw [he, h2] at g1
      exact absurd (Option.some.inj g1) (by decide)
    · have hk := told_dg h4 (q - p - 1) 35 (by
        rw [List.getElem?_take_of_lt (by omega), List.getElem?_drop]
        have : p + 1 + (q - p - 1) = q := by omega
        rw [this]; exact g1)
      exact absurd hk (by decide)
theorem wl_apart {s : List Nat} {b : Nat} : ∀ e, (wl s b e).Pairwise (fun x y => x.1 + 122 ≤ y.1)
  | 0 => by rw [wl_nil (Nat.zero_le _)]; exact .nil
  | e + 1 => by
    by_cases h : b ≤ e
    · rw [wl_succ h, List.pairwise_append]
      refine ⟨wl_apart e, ?_, fun x hx y hy => ?_⟩
      · cases wf s e <;> simp
      · have hx' := mem_wl.mp hx
        unfold wf at hy
        cases hw : winAt s e with
        | none => rw [hw] at hy; simp at hy
        | some d =>
          rw [hw] at hy
          simp at hy
          subst hy
          exact win_apart hx'.2.2 hw hx'.2.1
    · rw [wl_nil (by omega)]; exact .nil
theorem len1 {α : Type} {R : α → α → Prop} : ∀ {l : List α}, l.Pairwise R → (∀ x ∈ l, ∀ y ∈ l, ¬ R x y) → l.length ≤ 1
  | [], _, _ => by simp
  | [_], _, _ => by simp
  | x :: y :: r, h, g => by
    have := (List.pairwise_cons.mp h).1 y (by simp)
    exact absurd this (g x (by simp) y (by simp))
theorem winAt_left {s t : List Nat} {p : Nat} (h : p + 122 ≤ s.length) : winAt (s ++ t) p = winAt s p := by
  unfold winAt
  rw [List.getElem?_append_left (by omega), List.getElem?_append_left (by omega)]
  have e : ((s ++ t).drop (p + 1)).take 120 = (s.drop (p + 1)).take 120 := by
    rw [List.drop_append_of_le_length (by omega), List.take_append_of_le_length (by rw [List.length_drop]; omega)]
  rw [e]
theorem winAt_right {s t : List Nat} {p : Nat} : winAt (s ++ t) (s.length + p) = winAt t p := by
  unfold winAt
  rw [List.getElem?_append_right (by omega), List.getElem?_append_right (by omega)]
  have e1 : s.length + p - s.length = p := by omega
  have e2 : s.length + p + 121 - s.length = p + 121 := by omega
  have e : ((s ++ t).drop (s.length + p + 1)) = t.drop (p + 1) := by
    rw [Nat.add_assoc, ← List.drop_drop]
    simp
  rw [e1, e2, e]
theorem wl_left {s t : List Nat} {a b : Nat} (h : b + 121 ≤ s.length ∨ b ≤ a) : wl (s ++ t) a b = wl s a b := by
  rcases h with h | h
  · unfold wl
    refine fm_congr fun p hp => ?_
    rw [List.mem_range'_1] at hp
    unfold wf
    rw [winAt_left (by omega)]
  · rw [wl_nil h, wl_nil h]
theorem wl_right {s t : List Nat} : ∀ b, (wl t 0 b).map (fun x => (x.1 + s.length, x.2)) = wl (s ++ t) s.length (s.length + b)
  | 0 => by rw [wl_nil (Nat.zero_le _), wl_nil (by omega)]; rfl
  | b + 1 => by
    rw [wl_succ (Nat.zero_le _), List.map_append, wl_right b, ← Nat.add_assoc, wl_succ (by omega)]
    congr 1
    unfold wf
    rw [winAt_right]
    cases winAt t b with
    | none => rfl
    | some c =>
      show [(b + s.length, c)] = [(s.length + b, c)]
      rw [Nat.add_comm]
theorem filter_wl {s : List Nat} {n lo hi : Nat} (P : Nat × List Int → Bool) (hP : ∀ x, P x = true ↔ lo ≤ x.1 ∧ x.1 < hi) : (wl s 0 n).filter P = wl s lo (min hi n) := by
  have all_in : ∀ a b, (∀ p, a ≤ p → p < b → lo ≤ p ∧ p < hi) → (wl s a b).filter P = wl s a b := fun a b h => by
    rw [List.filter_eq_self]
    intro x hx
    have := mem_wl.mp hx
    exact (hP x).mpr (h x.1 this.1 this.2.1)
  have none_in : ∀ a b, (∀ p, a ≤ p → p < b → ¬ (lo ≤ p ∧ p < hi)) → (wl s a b).filter P = [] := fun a b h => by
    rw [List.filter_eq_nil_iff]
    intro x hx hp
    have := mem_wl.mp hx
    exact h x.1 this.1 this.2.1 ((hP x).mp hp)
  by_cases h : lo ≤ min hi n
  · rw [wl_append (s := s) (a := 0) (b := min hi n) (c := n) (Nat.zero_le _) (Nat.min_le_right _ _), wl_append (s := s) (a := 0) (b := lo) (Nat.zero_le _) h]
    rw [List.filter_append, List.filter_append, none_in 0 lo (fun p _ h2 => by omega), all_in lo _ (fun p h1 h2 => by omega), none_in (min hi n) n (fun p h1 h2 => by omega)]
    simp
  · rw [none_in 0 n (fun p h1 h2 => by omega), wl_nil (by omega)]
/-- the joint of two texts -/
theorem wl_joint (s t : List Nat) :
    wl s 0 (s.length - 121) ++ wl (s ++ t) (s.length - 121) (min s.length (s.length + t.length - 121)) ++ (wl t 0 (t.length - 121)).map (fun x => (x.1 + s.length, x.2)) = wl (s ++ t) 0 (s.length + t.length - 121) := by
  rw [← wl_left (s := s) (t := t) (a := 0) (b := s.length - 121) (by omega), wl_right]
  by_cases h : 121 ≤ t.length
  · have e1 : min s.length (s.length + t.length - 121) = s.length := by omega
    have e2 : s.length + (t.length - 121) = s.length + t.length - 121 := by omega
    rw [e1, e2, ← wl_append (by omega) (by omega), ← wl_append (by omega) (by omega)]
  · have e2 : s.length + (t.length - 121) = s.length := by omega
    rw [e2, wl_nil (Nat.le_refl _), List.append_nil]
    have e1 : min s.length (s.length + t.length - 121) = s.length + t.length - 121 := by omega
    rw [e1]
    by_cases g : s.length - 121 ≤ s.length + t.length - 121
    · rw [← wl_append (by omega) g]
    · omega
end My
namespace My
theorem nck_of {l : List Nat} (h : l.length % 3 = 0) : nck l = l.length / 3 := by unfold nck; omega
theorem told_mod {l : List Nat} (h : l.length % 3 ≠ 0) : toldL l = none := by
  unfold toldL
  rw [if_neg]
  intro ho
  have hk := oks_iff.mp ho (l.length / 3) (by unfold nck; omega)
  unfold okc ck at hk
  simp only [Bool.and_eq_true, decide_eq_true_eq, List.length_take, List.length_drop] at hk
  omega
theorem told_nd {l : List Nat} (h : l.all dg = false) : toldL l = none := by
  cases e : toldL l with
  | none => rfl
  | some cs =>
    have : l.all dg = true := List.all_eq_true.mpr fun c hc => by
      obtain ⟨j, hj⟩ := List.getElem?_of_mem hc
      exact told_dg e j c hj
    rw [h] at this
    cases this
theorem ck_len {l : List Nat} {i : Nat} (h : l.length % 3 = 0) (hi : i < nck l) : (ck l i).length = 3 := by
  rw [nck_of h] at hi
  unfold ck
  rw [List.length_take, List.length_drop]
  omega
theorem ck_dg {l : List Nat} {i : Nat} (h : l.all dg = true) : (ck l i).all dg = true := List.all_eq_true.mpr fun c hc =>
  List.all_eq_true.mp h c (List.mem_of_mem_drop (List.mem_of_mem_take hc))
theorem told_ok {l : List Nat} (h : l.length % 3 = 0) (hd : l.all dg = true) (m : Int) (hm : ∀ y ∈ vals l (nck l), y ≤ m) (hin : m ∈ vals l (nck l)) :
    toldL l = if m ≤ 996 then some (vals l (nck l)) else none := by
  unfold toldL
  have e : oks l (nck l) = decide (m ≤ 996) := by
    rw [Bool.eq_iff_iff, oks_iff, decide_eq_true_eq]
    constructor
    · intro g
      unfold vals at hin
      obtain ⟨i, hi, e⟩ := List.mem_map.mp hin
      have := g i (List.mem_range.mp hi)
      unfold okc at this
      simp only [Bool.and_eq_true, decide_eq_true_eq] at this
      omega
    · intro g i hi
      unfold okc
      rw [ck_len h hi, ck_dg hd]
      have := hm ((digv (ck l i) : Nat) : Int) (by unfold vals; exact List.mem_map.mpr ⟨i, List.mem_range.mpr hi, rfl⟩)
      simp
      omega
  rw [e]
  by_cases c : m ≤ 996
  · rw [if_pos c, if_pos (decide_eq_true c)]
  · rw [if_neg c, if_neg (by simp [c])]
end My
namespace My
theorem wl_length {s : List Nat} {b e : Nat} : (wl s b e).length ≤ e - b := by
  unfold wl
  refine Nat.le_trans (List.length_filterMap_le _ _) ?_
  rw [List.length_range']
  exact Nat.le_refl _
end My
namespace My
theorem told_bad {l : List Nat} {i : Nat} (hi : i < nck l) (h : okc (ck l i) = false) : toldL l = none := by
  unfold toldL
  rw [if_neg]
  intro ho
  rw [oks_iff.mp ho i hi] at h
  cases h
theorem told_all {l : List Nat} (h : oks l (nck l) = true) : toldL l = some (vals l (nck l)) := by
  unfold toldL
  rw [if_pos h]
theorem take_snoc {α : Type} {l : List α} {i : Nat} {x : α} (h : l[i]? = some x) : l.take (i + 1) = l.take i ++ [x] := by
  rw [List.take_add_one, h]; rfl
end My

set_option Elab.async false
set_option maxRecDepth 100000
set_option maxHeartbeats 4000000
namespace My
open PySem L2 TL
open PySem.StrLaws (At occBody occ_eq subAt_one)
open PySem.NumText (digitsVal AllDigits)
/-! ### texts -/
/-- all signs are printable ascii -/
def pr (z : Str) : Prop := ∀ c ∈ tl z, 32 ≤ c ∧ c ≤ 126
theorem pr_app {x y : Str} (h : pr x) (g : pr y) : pr (x ++ y) := fun c hc => by
  rw [tl_append] at hc
  rcases List.mem_append.mp hc with q | q
  · exact h c q
  · exact g c q
theorem pr_cut {z : Str} (h : pr z) (lo hi : Option Int) : pr (cutS z lo hi) := fun c hc => h c (by
  have hc' : c ∈ ((tl z).drop (HT.sIx z.length 0 lo)).take (HT.sIx z.length z.length hi - HT.sIx z.length 0 lo) := hc
  exact List.mem_of_mem_drop (List.mem_of_mem_take hc'))
theorem tl_cut (z : Str) (lo hi : Option Int) : tl (cutS z lo hi) = ((tl z).drop (HT.sIx z.length 0 lo)).take (HT.sIx z.length z.length hi - HT.sIx z.length 0 lo) := rfl
theorem cut_nat (z : Str) (i j : Nat) : tl (cutS z (some (i : Int)) (some (j : Int))) = ((tl z).drop i).take (j - i) := by
  rw [tl_cut, HT.sIx_nat, HT.sIx_nat, len_tl]
  by_cases h1 : i ≤ (tl z).length
  · rw [Nat.min_eq_left h1]
    by_cases h2 : j ≤ (tl z).length
    · rw [Nat.min_eq_left h2]
    · rw [Nat.min_eq_right (by omega), List.take_of_length_le (by rw [List.length_drop]; omega), List.take_of_length_le (by rw [List.length_drop]; omega)]
  · rw [show min i (tl z).length = (tl z).length by omega, List.drop_of_length_le (Nat.le_refl _), List.drop_of_length_le (by omega)]
    simp
theorem cut_lo (z : Str) (i : Nat) : tl (cutS z (some (i : Int)) none) = (tl z).drop i := by
  rw [tl_cut, HT.sIx_nat, HT.sIx_none, len_tl]
  by_cases h1 : i ≤ (tl z).length
  · rw [Nat.min_eq_left h1, List.take_of_length_le (by rw [List.length_drop]; omega)]
  · rw [Nat.min_eq_right (by omega), List.drop_of_length_le (Nat.le_refl _), List.drop_of_length_le (by omega)]
    simp
theorem cut_hi (z : Str) (j : Nat) : tl (cutS z none (some (j : Int))) = (tl z).take j := by
  rw [tl_cut, HT.sIx_nat, HT.sIx_none, len_tl]
  by_cases h1 : j ≤ (tl z).length
  · rw [Nat.min_eq_left h1]; simp
  · rw [Nat.min_eq_right (by omega), List.drop_zero, Nat.sub_zero, List.take_of_length_le (Nat.le_refl _), List.take_of_length_le (by omega)]
def txtM (z : Str) : Bool := decide ((z.length : Int) ≤ 60000) && (Txt.isascii z && Txt.isprintable z)
theorem print127 : ∀ c, c < 127 → 32 ≤ c → Unicode.isPrintable c = true := by decide +kernel
theorem digit127 : ∀ c, c < 127 → Unicode.isDigit c = dg c := by decide +kernel
theorem txtM_ok {z : Str} (h : pr z) (hl : z.length ≤ 60000) : txtM z = true := by
  unfold txtM
  rw [decide_eq_true (by omega)]
  have a : Txt.isascii z = true := by
    unfold Txt.isascii
    rw [Array.all_eq_true_iff_forall_mem]
    intro c hc
    have := h c (Array.mem_toList_iff.mpr hc)
    exact decide_eq_true (by omega)
  have b : Txt.isprintable z = true := by
    unfold Txt.isprintable
    rw [Array.all_eq_true_iff_forall_mem]
    intro c hc
    have := h c (Array.mem_toList_iff.mpr hc)
    exact print127 c (by omega) this.1
  rw [a, b]
  rfl
theorem isdigit_pr {z : Str} (h : pr z) : Txt.isdigit z = (decide (0 < z.length) && (tl z).all dg) := by
  unfold Txt.isdigit
  have e : z.cps.all Unicode.isDigit = (tl z).all dg := by
    rw [Bool.eq_iff_iff, Array.all_eq_true_iff_forall_mem, List.all_eq_true]
    constructor
    · intro g c hc
      have := h c hc
      rw [← digit127 c (by omega)]
      exact g c (Array.mem_toList_iff.mp hc)
    · intro g c hc
      have hm := Array.mem_toList_iff.mpr hc
      have := h c hm
      rw [digit127 c (by omega)]
      exact g c hm
  rw [e]
/-! ### find -/
theorem occ_full (s sub : Str) (hi : Nat) : ∀ (l : List Nat) (st : Array Nat × Nat), st.fst.size = 1 → (forIn l st (occBody s sub hi 1)).run.fst = st.fst
  | [], st, _ => rfl
  | a :: l, st, h => by
    rw [List.forIn_cons]
    unfold occBody
    have c2 : ¬ (((st.fst.size < 1 ∧ st.snd ≤ a) ∧ a + sub.length ≤ hi) ∧ Builtin.Str.subAt s sub a = true) := fun q => by omega
    rw [if_neg c2]
    exact occ_full s sub hi l st h
theorem occ_first (s sub : Str) (hi : Nat) : ∀ (m cur free : Nat), free ≤ cur →
    ((forIn (List.range' cur m) ((#[] : Array Nat), free) (occBody s sub hi 1)).run.fst = #[] ∧ ∀ i, cur ≤ i → i < cur + m → ¬ At s sub hi i) ∨
    ∃ p, (forIn (List.range' cur m) ((#[] : Array Nat), free) (occBody s sub hi 1)).run.fst = #[p] ∧ cur ≤ p ∧ p < cur + m ∧ At s sub hi p ∧ ∀ i, cur ≤ i → i < p → ¬ At s sub hi i
  | 0, cur, free, _ => .inl ⟨rfl, fun i h1 h2 => by omega⟩
  | m + 1, cur, free, hf => by
    rw [List.range'_succ, List.forIn_cons]
    unfold occBody
    by_cases hc : At s sub hi cur
    · have c1 : ((((#[] : Array Nat), free).fst.size < 1 ∧ ((#[] : Array Nat), free).snd ≤ cur) ∧ cur + sub.length ≤ hi) ∧ Builtin.Str.subAt s sub cur = true := ⟨⟨⟨by simp, hf⟩, hc.1⟩, hc.2⟩
      rw [if_pos c1]
      refine .inr ⟨cur, ?_, Nat.le_refl _, by omega, hc, fun i h1 h2 => by omega⟩
      exact occ_full s sub hi _ _ (by simp)
    · have c2 : ¬ (((((#[] : Array Nat), free).fst.size < 1 ∧ ((#[] : Array Nat), free).snd ≤ cur) ∧ cur + sub.length ≤ hi) ∧ Builtin.Str.subAt s sub cur = true) := fun q => hc ⟨q.1.2, q.2⟩
      rw [if_neg c2]
      rcases occ_first s sub hi m (cur + 1) free (by omega) with ⟨h1, h2⟩ | ⟨p, h1, h2, h3, h4, h5⟩
      · refine .inl ⟨h1, fun i g1 g2 => ?_⟩
        by_cases e : i = cur
        · rw [e]; exact hc
        · exact h2 i (by omega) (by omega)
      · refine .inr ⟨p, h1, by omega, by omega, h4, fun i g1 g2 => ?_⟩
        by_cases e : i = cur
        · rw [e]; exact hc
        · exact h5 i (by omega) g2
theorem find3_sign (z : Str) (c b : Nat) (hb : b ≤ z.length) :
    (Txt.find3 z ⟨#[c]⟩ (b : Int) = -1 ∧ ∀ q : Nat, b ≤ q → (tl z)[q]? ≠ some c) ∨
    ∃ p : Nat, Txt.find3 z ⟨#[c]⟩ (b : Int) = (p : Int) ∧ b ≤ p ∧ (tl z)[p]? = some c ∧ ∀ q : Nat, b ≤ q → q < p → (tl z)[q]? ≠ some c := by
  have ef : fromIndex z.length (b : Int) = b := by
    unfold fromIndex
    rw [if_neg (by omega)]
    omega
  unfold Txt.find3
  rw [ef, occ_eq]
  rcases occ_first z ⟨#[c]⟩ z.length (z.length + 1 - b) b b (Nat.le_refl _) with ⟨h1, h2⟩ | ⟨p, h1, h2, h3, h4, h5⟩
  · refine .inl ⟨by rw [h1], fun q hq e => ?_⟩
    have hlt : q < (tl z).length := (List.getElem?_eq_some_iff.mp e).1
    rw [← len_tl] at hlt
    exact h2 q hq (by omega) ((subAt_one z c q).mpr e)
  · refine .inr ⟨p, by rw [h1], h2, (subAt_one z c p).mp h4, fun q g1 g2 e => h5 q g1 g2 ((subAt_one z c q).mpr e)⟩
/-- no window where no # stands -/
theorem wf_none {s : List Nat} {p : Nat} (h : s[p]? ≠ some 35) : wf s p = none := by
  unfold wf winAt
  rw [if_neg fun q => h q.1]
  rfl
theorem wl_gap {s : List Nat} {a b : Nat} (h : ∀ q, a ≤ q → q < b → s[q]? ≠ some 35) : wl s a b = [] := by
  unfold wl
  rw [List.filterMap_eq_nil_iff]
  intro q hq
  rw [List.mem_range'_1] at hq
  exact wf_none (h q hq.1 (by omega))
theorem int_ck {l : List Nat} (h : l.all dg = true) (hne : l ≠ []) (hl : l.length ≤ 640) : PySem.intText? ⟨l.toArray⟩ = some ((digv l : Nat) : Int) :=
  PySem.intText_digits (x := ⟨l.toArray⟩) (fun c hc => by
    have := List.all_eq_true.mp h c hc
    unfold dg at this
    simpa using this) hne (by show l.toArray.size ≤ 4300; simp; omega)
theorem fits_ {i : Int} (h1 : -(2 ^ 63) ≤ i) (h2 : i < 2 ^ 63) : Builtin.Range.rangeFitsLong i = true := by
  unfold Builtin.Range.rangeFitsLong
  rw [decide_eq_true h1, decide_eq_true h2]
  rfl
theorem rg3 (n : Nat) (h : n ≤ 1000000) : RgC 0 (n : Int) 3 ((n + 2) / 3) := by
  have e : Builtin.Range.rangeSize 0 (n : Int) 3 = (((n + 2) / 3 : Nat) : Int) := by
    unfold Builtin.Range.rangeSize
    rw [if_pos (by decide)]
    split <;> omega
  refine ⟨by decide, by decide, ?_, e⟩
  unfold Builtin.Range.small
  rw [e, if_pos (by decide), fits_ (by decide) (by decide), fits_ (by omega) (by omega), fits_ (by decide) (by decide), fits_ (by omega) (by omega), fits_ (by omega) (by omega)]
  simp
theorem cut_ck (z : Str) (i : Nat) : cutS z (some ((0 : Int) + (i : Nat) * 3)) (some ((0 : Int) + (i : Nat) * 3 + 3)) = ⟨(ck (tl z) i).toArray⟩ := by
  refine ext_tl ?_
  have e := cut_nat z (3 * i) (3 * i + 3)
  have e1 : ((0 : Int) + (i : Nat) * 3) = ((3 * i : Nat) : Int) := by omega
  rw [e1, show (((3 * i : Nat) : Int) + 3) = ((3 * i + 3 : Nat) : Int) by omega, e]
  unfold ck
  rw [show 3 * i + 3 - 3 * i = 3 by omega]
end My

set_option maxRecDepth 100000
set_option maxHeartbeats 1000000
namespace My
open PySem L2 TL
/-! ### text times number; a part's windows; the pieces of a text -/
def rRepS : R2 := fun x y H Q => ∃ z k, x = .str z ∧ y = .int k ∧ MulOk z k ∧ Q (.str (Txt.mul z k)) H
theorem op_repS {X : Cx} : OpR X (binaryOp .Mult) rRepS := by
  intro pins s σ H x y v u Q I rx ry h
  obtain ⟨z, k, rfl, rfl, hz, q⟩ := h
  obtain ⟨t, rfl⟩ := rx
  obtain ⟨t', rfl⟩ := ry
  exact SB.mul hz (fun t' tk => ⟨.str (Txt.mul z k), H, I.tok _, ⟨_, rfl⟩, q⟩)
theorem wl_part {s : List Nat} {b e : Nat} (hb : b ≤ e) (he : e ≤ s.length) :
    (wl ((s.drop b).take (e - b)) 0 (e - b - 121)).map (fun x => (x.1 + b, x.2)) = wl s b (e - 121) := by
  have hl : ((s.drop b).take (e - b)).length = e - b := by rw [List.length_take, List.length_drop]; omega
  have ht : (s.take b).length = b := by rw [List.length_take]; omega
  have e1 : wl (s.drop b) 0 (e - b - 121) = wl ((s.drop b).take (e - b)) 0 (e - b - 121) := by
    have := wl_left (s := (s.drop b).take (e - b)) (t := (s.drop b).drop (e - b)) (a := 0) (b := e - b - 121) (by omega)
    rw [List.take_append_drop] at this
    exact this
  rw [← e1]
  have e2 := wl_right (s := s.take b) (t := s.drop b) (e - b - 121)
  rw [List.take_append_drop, ht] at e2
  rw [e2]
  by_cases h : 121 ≤ e - b
  · rw [show b + (e - b - 121) = e - 121 by omega]
  · rw [wl_nil (by omega), wl_nil (by omega)]
theorem wl_inside {s : List Nat} {b e : Nat} (he : e ≤ s.length) :
    (wl s 0 (s.length - 121)).filter (fun x => decide (b ≤ x.1) && decide (x.1 + 122 ≤ e)) = wl s b (e - 121) := by
  rw [filter_wl (lo := b) (hi := e - 121) _ (fun x => by simp; omega), show min (e - 121) (s.length - 121) = e - 121 by omega]
def pO (a b : Int) : PyData := .tuple [.str "other", .int a, .int b]
def pW (a b : Int) : PyData := .tuple [.str "window", .int a, .int b]
def pstep (r : List PyData × Int) (w : Nat × List Int) : List PyData × Int :=
  (r.1 ++ (if r.2 < w.1 then [pO r.2 w.1] else []) ++ [pW w.1 (w.1 + 122)], w.1 + 122)
def pfold (ws : List (Nat × List Int)) : List PyData × Int := ws.foldl pstep ([], 0)
def pcs (n : Nat) (ws : List (Nat × List Int)) : List PyData := (pfold ws).1 ++ (if (pfold ws).2 < n then [pO (pfold ws).2 n] else [])
theorem pfold_snoc {ws : List (Nat × List Int)} {w : Nat × List Int} : pfold (ws ++ [w]) = pstep (pfold ws) w := by
  unfold pfold
  rw [List.foldl_append]
  rfl
theorem pfold_len_aux : ∀ (ws : List (Nat × List Int)) (r : List PyData × Int), (ws.foldl pstep r).1.length ≤ r.1.length + 2 * ws.length
  | [], r => by simp
  | w :: ws, r => by
    have h := pfold_len_aux ws (pstep r w)
    have : (pstep r w).1.length ≤ r.1.length + 2 := by
      unfold pstep
      simp only [List.length_append]
      split <;> simp
    simp only [List.foldl_cons, List.length_cons]
    omega
theorem pfold_len (ws : List (Nat × List Int)) : (pfold ws).1.length ≤ 2 * ws.length := by
  have := pfold_len_aux ws ([], 0)
  simpa [pfold] using this
theorem flat_po (a b : Int) : flatD 2 (pO a b) = true := by simp [pO, flatD, flatAll, PyData.strOk]; decide
theorem flat_pw (a b : Int) : flatD 2 (pW a b) = true := by simp [pW, flatD, flatAll, PyData.strOk]; decide
theorem flat_pfold_aux : ∀ (ws : List (Nat × List Int)) (r : List PyData × Int), flatAll 2 r.1 = true → flatAll 2 (ws.foldl pstep r).1 = true
  | [], r, h => h
  | w :: ws, r, h => by
    refine flat_pfold_aux ws (pstep r w) (flatAll_iff.mpr fun d hd => ?_)
    unfold pstep at hd
    simp only [List.mem_append, List.mem_singleton] at hd
    rcases hd with (hd | hd) | rfl
    · exact flatAll_iff.mp h d hd
    · split at hd
      · rw [List.mem_singleton.mp hd]; exact flat_po _ _
      · simp at hd
    · exact flat_pw _ _
theorem flat_pcs (n : Nat) (ws : List (Nat × List Int)) : flatAll 2 (pcs n ws) = true := flatAll_iff.mpr fun d hd => by
  unfold pcs at hd
  rcases List.mem_append.mp hd with hd | hd
  · exact flatAll_iff.mp (flat_pfold_aux ws ([], 0) rfl) d hd
  · split at hd
    · rw [List.mem_singleton.mp hd]; exact flat_po _ _
    · simp at hd
theorem shaped_pcs {n : Nat} {ws : List (Nat × List Int)} : SeqAt.shaped (.list (pcs n ws)) = true := flat_shaped (n := 3) (flat_pcs n ws) (by decide)
theorem tp_piece {K : PySem.W.Frag} {H : Hp} {p : Addr} {n : Str} {a b : Int} (h : SqT K H p [.str n, .int a, .int b]) : Tp K H (.ref p) (.tuple [.str n, .int a, .int b]) :=
  .tup h (.cons (.str _) (.cons (.int _) (.cons (.int _) .nil)))
end My

set_option Elab.async false
set_option maxRecDepth 100000
set_option maxHeartbeats 4000000
namespace My
open PySem L2 TL
def top (i : Nat) : Stmt := PySem.Challenge.pw_stillread_k07_whole_windows_found.main.body.getD i (.Pass ⟨0, 0, 0, 0⟩)
abbrev s_is_number : Stmt := top 6
abbrev n_is_number : List Str := ["value", "least", "most"]
theorem sc_is_number : FnScope n_is_number ["value", "least", "most"] (defScope s_is_number) := ⟨rfl, rfl, rfl, by decide +kernel, rfl, by decide +kernel, by decide +kernel⟩
abbrev s_check_number : Stmt := top 7
abbrev n_check_number : List Str := ["given", "least", "most"]
theorem sc_check_number : FnScope n_check_number ["given", "least", "most"] (defScope s_check_number) := ⟨rfl, rfl, rfl, by decide +kernel, rfl, by decide +kernel, by decide +kernel⟩
abbrev s_is_text : Stmt := top 13
abbrev n_is_text : List Str := ["value"]
theorem sc_is_text : FnScope n_is_text ["value"] (defScope s_is_text) := ⟨rfl, rfl, rfl, by decide +kernel, rfl, by decide +kernel, by decide +kernel⟩
abbrev s_check_text : Stmt := top 14
abbrev n_check_text : List Str := ["text"]
theorem sc_check_text : FnScope n_check_text ["text"] (defScope s_check_text) := ⟨rfl, rfl, rfl, by decide +kernel, rfl, by decide +kernel, by decide +kernel⟩
abbrev s_digits_cells : Stmt := top 15
abbrev n_digits_cells : List Str := ["signs", "cells", "at"]
theorem sc_digits_cells : FnScope n_digits_cells ["signs"] (defScope s_digits_cells) := ⟨rfl, rfl, rfl, by decide +kernel, rfl, by decide +kernel, by decide +kernel⟩
abbrev s_cells_from : Stmt := top 16
abbrev n_cells_from : List Str := ["text", "place", "last"]
theorem sc_cells_from : FnScope n_cells_from ["text", "place"] (defScope s_cells_from) := ⟨rfl, rfl, rfl, by decide +kernel, rfl, by decide +kernel, by decide +kernel⟩
abbrev s_windows : Stmt := top 17
abbrev n_windows : List Str := ["text"]
theorem sc_windows : FnScope n_windows ["text"] (defScope s_windows) := ⟨rfl, rfl, rfl, by decide +kernel, rfl, by decide +kernel, by decide +kernel⟩
abbrev s_standing : Stmt := top 18
abbrev n_standing : List Str := ["text", "begin", "end", "found", "place", "cells"]
theorem sc_standing : FnScope n_standing ["text", "begin", "end"] (defScope s_standing) := ⟨rfl, rfl, rfl, by decide +kernel, rfl, by decide +kernel, by decide +kernel⟩
abbrev s_pieces : Stmt := top 19
abbrev n_pieces : List Str := ["text", "parts", "last", "place", "cells"]
theorem sc_pieces : FnScope n_pieces ["text"] (defScope s_pieces) := ⟨rfl, rfl, rfl, by decide +kernel, rfl, by decide +kernel, by decide +kernel⟩
abbrev s_windows_in : Stmt := top 20
abbrev n_windows_in : List Str := ["text", "begin", "end"]
theorem sc_windows_in : FnScope n_windows_in ["text", "begin", "end"] (defScope s_windows_in) := ⟨rfl, rfl, rfl, by decide +kernel, rfl, by decide +kernel, by decide +kernel⟩
abbrev s_law_tray : Stmt := top 22
abbrev n_law_tray : List Str := ["script", "spot", "cell", "great"]
theorem sc_law_tray : FnScope n_law_tray ["script", "spot"] (defScope s_law_tray) := ⟨rfl, rfl, rfl, by decide +kernel, rfl, by decide +kernel, by decide +kernel⟩
abbrev s_law_pluck : Stmt := top 23
abbrev n_law_pluck : List Str := ["tray", "total", "found", "one", "two"]
theorem sc_law_pluck : FnScope n_law_pluck ["tray", "total"] (defScope s_law_pluck) := ⟨rfl, rfl, rfl, by decide +kernel, rfl, by decide +kernel, by decide +kernel⟩
abbrev s_law_some : Stmt := top 24
abbrev n_law_some : List Str := ["tray", "items"]
theorem sc_law_some : FnScope n_law_some ["tray", "items"] (defScope s_law_some) := ⟨rfl, rfl, rfl, by decide +kernel, rfl, by decide +kernel, by decide +kernel⟩
abbrev s_law_three : Stmt := top 25
abbrev n_law_three : List Str := ["cell"]
theorem sc_law_three : FnScope n_law_three ["cell"] (defScope s_law_three) := ⟨rfl, rfl, rfl, by decide +kernel, rfl, by decide +kernel, by decide +kernel⟩
abbrev s_law_told : Stmt := top 26
abbrev n_law_told : List Str := ["digits", "found", "at", "three", "sign"]
theorem sc_law_told : FnScope n_law_told ["digits"] (defScope s_law_told) := ⟨rfl, rfl, rfl, by decide +kernel, rfl, by decide +kernel, by decide +kernel⟩
abbrev s_law_window : Stmt := top 27
abbrev n_law_window : List Str := ["cells", "cell"]
theorem sc_law_window : FnScope n_law_window ["cells"] (defScope s_law_window) := ⟨rfl, rfl, rfl, by decide +kernel, rfl, by decide +kernel, by decide +kernel⟩
abbrev s_law_windows : Stmt := top 28
abbrev n_law_windows : List Str := ["text", "found", "place", "cells"]
theorem sc_law_windows : FnScope n_law_windows ["text"] (defScope s_law_windows) := ⟨rfl, rfl, rfl, by decide +kernel, rfl, by decide +kernel, by decide +kernel⟩
abbrev s_law_cells : Stmt := top 29
abbrev n_law_cells : List Str := ["tray", "way", "found", "turn"]
theorem sc_law_cells : FnScope n_law_cells ["tray"] (defScope s_law_cells) := ⟨rfl, rfl, rfl, by decide +kernel, rfl, by decide +kernel, by decide +kernel⟩
abbrev s_law_bit : Stmt := top 30
abbrev n_law_bit : List Str := ["tray", "window", "way", "at"]
theorem sc_law_bit : FnScope n_law_bit ["tray"] (defScope s_law_bit) := ⟨rfl, rfl, rfl, by decide +kernel, rfl, by decide +kernel, by decide +kernel⟩
abbrev s_law_drawn : Stmt := top 31
abbrev n_law_drawn : List Str := ["tray", "many", "turn"]
theorem sc_law_drawn : FnScope n_law_drawn ["tray", "many"] (defScope s_law_drawn) := ⟨rfl, rfl, rfl, by decide +kernel, rfl, by decide +kernel, by decide +kernel⟩
abbrev s_law_pieces : Stmt := top 32
abbrev n_law_pieces : List Str := ["text", "found", "here", "place", "cells"]
theorem sc_law_pieces : FnScope n_law_pieces ["text"] (defScope s_law_pieces) := ⟨rfl, rfl, rfl, by decide +kernel, rfl, by decide +kernel, by decide +kernel⟩
abbrev s_law_right : Stmt := top 33
abbrev n_law_right : List Str := ["tray", "text", "due", "turn", "begin", "end", "inside", "place", "cells"]
theorem sc_law_right : FnScope n_law_right ["tray"] (defScope s_law_right) := ⟨rfl, rfl, rfl, by decide +kernel, rfl, by decide +kernel, by decide +kernel⟩
abbrev s_law : Stmt := top 34
abbrev n_law : List Str := ["script", "spot", "tray", "turn", "seven", "nine", "told", "place", "cells"]
theorem sc_law : FnScope n_law ["script"] (defScope s_law) := ⟨rfl, rfl, rfl, by decide +kernel, rfl, by decide +kernel, by decide +kernel⟩
structure Ad where
  is_number : Addr
  check_number : Addr
  is_text : Addr
  check_text : Addr
  digits_cells : Addr
  cells_from : Addr
  windows : Addr
  standing : Addr
  pieces : Addr
  windows_in : Addr
  law_tray : Addr
  law_pluck : Addr
  law_some : Addr
  law_three : Addr
  law_told : Addr
  law_window : Addr
  law_windows : Addr
  law_cells : Addr
  law_bit : Addr
  law_drawn : Addr
  law_pieces : Addr
  law_right : Addr
  law : Addr
structure Fd where
  is_number : FuncData
  check_number : FuncData
  is_text : FuncData
  check_text : FuncData
  digits_cells : FuncData
  cells_from : FuncData
  windows : FuncData
  standing : FuncData
  pieces : FuncData
  windows_in : FuncData
  law_tray : FuncData
  law_pluck : FuncData
  law_some : FuncData
  law_three : FuncData
  law_told : FuncData
  law_window : FuncData
  law_windows : FuncData
  law_cells : FuncData
  law_bit : FuncData
  law_drawn : FuncData
  law_pieces : FuncData
  law_right : FuncData
  law : FuncData
structure Txt (K : PySem.W.Frag) (mg : Str → Option Value) (a : Ad) (d : Fd) : Prop where
  b_abs : mg "abs" = none
  b_bool : mg "bool" = none
  b_int : mg "int" = none
  b_isinstance : mg "isinstance" = none
  b_len : mg "len" = none
  b_list : mg "list" = none
  b_max : mg "max" = none
  b_min : mg "min" = none
  b_range : mg "range" = none
  b_str : mg "str" = none
  b_tuple : mg "tuple" = none
  c_CELL_DIGITS : ∃ t, mg "CELL_DIGITS" = some (.int 3 t)
  c_LONGEST : ∃ t, mg "LONGEST" = some (.int 999999999999999999999999999999999999999999999999999999999999 t)
  c_MAX_CELL : ∃ t, mg "MAX_CELL" = some (.int 996 t)
  c_MOST_SIGNS : ∃ t, mg "MOST_SIGNS" = some (.int 60000 t)
  c_WINDOW_SIGNS : ∃ t, mg "WINDOW_SIGNS" = some (.int 122 t)
  g_is_number : mg "is_number" = some (.ref a.is_number)
  k_is_number : PySem.W.keepIn K (.ref a.is_number) = true
  B_is_number : Binds K d.is_number ["value", "least", "most"] []
  F_is_number : Fun K "is_number" "is_number" s_is_number a.is_number d.is_number
  g_check_number : mg "check_number" = some (.ref a.check_number)
  k_check_number : PySem.W.keepIn K (.ref a.check_number) = true
  B_check_number : Binds K d.check_number ["given", "least", "most"] []
  F_check_number : Fun K "check_number" "check_number" s_check_number a.check_number d.check_number
  g_is_text : mg "is_text" = some (.ref a.is_text)
  k_is_text : PySem.W.keepIn K (.ref a.is_text) = true
  B_is_text : Binds K d.is_text ["value"] []
  F_is_text : Fun K "is_text" "is_text" s_is_text a.is_text d.is_text
  g_check_text : mg "check_text" = some (.ref a.check_text)
  k_check_text : PySem.W.keepIn K (.ref a.check_text) = true
  B_check_text : Binds K d.check_text ["text"] []
  F_check_text : Fun K "check_text" "check_text" s_check_text a.check_text d.check_text
  g_digits_cells : mg "digits_cells" = some (.ref a.digits_cells)
  k_digits_cells : PySem.W.keepIn K (.ref a.digits_cells) = true
  B_digits_cells : Binds K d.digits_cells ["signs"] []
  F_digits_cells : Fun K "digits_cells" "digits_cells" s_digits_cells a.digits_cells d.digits_cells
  g_cells_from : mg "cells_from" = some (.ref a.cells_from)
  k_cells_from : PySem.W.keepIn K (.ref a.cells_from) = true
  B_cells_from : Binds K d.cells_from ["text", "place"] []
  F_cells_from : Fun K "cells_from" "cells_from" s_cells_from a.cells_from d.cells_from
  g_windows : mg "windows" = some (.ref a.windows)
  k_windows : PySem.W.keepIn K (.ref a.windows) = true
  B_windows : Binds K d.windows ["text"] []
  F_windows : Fun K "windows" "windows" s_windows a.windows d.windows
  g_standing : mg "standing" = some (.ref a.standing)
  k_standing : PySem.W.keepIn K (.ref a.standing) = true
  B_standing : Binds K d.standing ["text", "begin", "end"] []
  F_standing : Fun K "standing" "standing" s_standing a.standing d.standing
  g_pieces : mg "pieces" = some (.ref a.pieces)
  k_pieces : PySem.W.keepIn K (.ref a.pieces) = true
  B_pieces : Binds K d.pieces ["text"] []
  F_pieces : Fun K "pieces" "pieces" s_pieces a.pieces d.pieces
  g_windows_in : mg "windows_in" = some (.ref a.windows_in)
  k_windows_in : PySem.W.keepIn K (.ref a.windows_in) = true
  B_windows_in : Binds K d.windows_in ["text", "begin", "end"] []
  F_windows_in : Fun K "windows_in" "windows_in" s_windows_in a.windows_in d.windows_in
  g_law_tray : mg "_law_tray" = some (.ref a.law_tray)
  k_law_tray : PySem.W.keepIn K (.ref a.law_tray) = true
  B_law_tray : Binds K d.law_tray ["script", "spot"] []
  F_law_tray : Fun K "_law_tray" "_law_tray" s_law_tray a.law_tray d.law_tray
  g_law_pluck : mg "_law_pluck" = some (.ref a.law_pluck)
  k_law_pluck : PySem.W.keepIn K (.ref a.law_pluck) = true
  B_law_pluck : Binds K d.law_pluck ["tray", "total"] []
  F_law_pluck : Fun K "_law_pluck" "_law_pluck" s_law_pluck a.law_pluck d.law_pluck
  g_law_some : mg "_law_some" = some (.ref a.law_some)
  k_law_some : PySem.W.keepIn K (.ref a.law_some) = true
  B_law_some : Binds K d.law_some ["tray", "items"] []
  F_law_some : Fun K "_law_some" "_law_some" s_law_some a.law_some d.law_some
  g_law_three : mg "_law_three" = some (.ref a.law_three)
  k_law_three : PySem.W.keepIn K (.ref a.law_three) = true
  B_law_three : Binds K d.law_three ["cell"] []
  F_law_three : Fun K "_law_three" "_law_three" s_law_three a.law_three d.law_three
  g_law_told : mg "_law_told" = some (.ref a.law_told)
  k_law_told : PySem.W.keepIn K (.ref a.law_told) = true
  B_law_told : Binds K d.law_told ["digits"] []
  F_law_told : Fun K "_law_told" "_law_told" s_law_told a.law_told d.law_told
  g_law_window : mg "_law_window" = some (.ref a.law_window)
  k_law_window : PySem.W.keepIn K (.ref a.law_window) = true
  B_law_window : Binds K d.law_window ["cells"] []
  F_law_window : Fun K "_law_window" "_law_window" s_law_window a.law_window d.law_window
  g_law_windows : mg "_law_windows" = some (.ref a.law_windows)
  k_law_windows : PySem.W.keepIn K (.ref a.law_windows) = true
  B_law_windows : Binds K d.law_windows ["text"] []
  F_law_windows : Fun K "_law_windows" "_law_windows" s_law_windows a.law_windows d.law_windows
  g_law_cells : mg "_law_cells" = some (.ref a.law_cells)
  k_law_cells : PySem.W.keepIn K (.ref a.law_cells) = true
  B_law_cells : Binds K d.law_cells ["tray"] []
  F_law_cells : Fun K "_law_cells" "_law_cells" s_law_cells a.law_cells d.law_cells
  g_law_bit : mg "_law_bit" = some (.ref a.law_bit)
  k_law_bit : PySem.W.keepIn K (.ref a.law_bit) = true
  B_law_bit : Binds K d.law_bit ["tray"] []
  F_law_bit : Fun K "_law_bit" "_law_bit" s_law_bit a.law_bit d.law_bit
  g_law_drawn : mg "_law_drawn" = some (.ref a.law_drawn)
  k_law_drawn : PySem.W.keepIn K (.ref a.law_drawn) = true
  B_law_drawn : Binds K d.law_drawn ["tray", "many"] []
  F_law_drawn : Fun K "_law_drawn" "_law_drawn" s_law_drawn a.law_drawn d.law_drawn
  g_law_pieces : mg "_law_pieces" = some (.ref a.law_pieces)
  k_law_pieces : PySem.W.keepIn K (.ref a.law_pieces) = true
  B_law_pieces : Binds K d.law_pieces ["text"] []
  F_law_pieces : Fun K "_law_pieces" "_law_pieces" s_law_pieces a.law_pieces d.law_pieces
  g_law_right : mg "_law_right" = some (.ref a.law_right)
  k_law_right : PySem.W.keepIn K (.ref a.law_right) = true
  B_law_right : Binds K d.law_right ["tray"] []
  F_law_right : Fun K "_law_right" "_law_right" s_law_right a.law_right d.law_right
  g_law : mg "law" = some (.ref a.law)
  k_law : PySem.W.keepIn K (.ref a.law) = true
  B_law : Binds K d.law ["script"] []
  F_law : Fun K "law" "law" s_law a.law d.law
/-! ### the promises -/
def encT (c : List Int) : PyData := .tuple (c.map .int)
def encO : Option (List Int) → PyData
  | none => .none
  | some c => encT c
def encW (x : Nat × List Int) : PyData := .tuple [.int x.1, encT x.2]
def sp_check_text (K : PySem.W.Frag) : Sp := fun vs H Q _ => ∃ z : Str, vs = [.str z] ∧ pr z ∧ z.length ≤ 60000 ∧ Q .non H
def sp_digits_cells (K : PySem.W.Frag) : Sp := fun vs H Q _ => ∃ z : Str, vs = [.str z] ∧ pr z ∧ z.length ≤ 60000 ∧ ∀ v H', Same H H' → Tp K H' v (encO (toldL (tl z))) → Q v H'
def sp_cells_from (K : PySem.W.Frag) : Sp := fun vs H Q _ => ∃ (z : Str) (p : Nat), vs = [.str z, .int p] ∧ pr z ∧ z.length ≤ 60000 ∧ p + 122 ≤ z.length ∧ ∀ v H', Same H H' → Tp K H' v (encO (winAt (tl z) p)) → Q v H'
def sp_standing (K : PySem.W.Frag) : Sp := fun vs H Q _ => ∃ (z : Str) (b e : Nat), vs = [.str z, .int b, .int e] ∧ pr z ∧ z.length ≤ 60000 ∧ b ≤ z.length ∧ e ≤ z.length ∧
  ∀ v H', Same H H' → Tp K H' v (.tuple ((wl (tl z) b (e - 121)).map encW)) → Q v H'
def sp_windows (K : PySem.W.Frag) : Sp := fun vs H Q _ => ∃ z : Str, vs = [.str z] ∧ pr z ∧ z.length ≤ 60000 ∧ ∀ v H', Same H H' → Tp K H' v (.tuple ((wl (tl z) 0 (z.length - 121)).map encW)) → Q v H'
def sp_is_text (K : PySem.W.Frag) : Sp := fun vs H Q _ => ∃ z : Str, vs = [.str z] ∧ z.length ≤ sizeLine ∧ Q (.bl (txtM z)) H
section
local macro_rules | `(tactic| walk_at "len") => `(tactic| (intro vs H Q E h; first
  | (obtain ⟨_, e, _⟩ := h; subst e; rfl) | (obtain ⟨_, _, e, _⟩ := h; subst e; rfl) | (obtain ⟨_, _, _, e, _⟩ := h; subst e; rfl) | (obtain ⟨_, _, _, _, e, _⟩ := h; subst e; rfl)))
local macro_rules | `(tactic| walk_at "rd1") => `(tactic| first
  | refine ⟨_, rfl, ?_⟩
  | refine ⟨rfl, ?_⟩
  | refine ⟨trivial, ?_⟩
  | refine ⟨_, _, rfl, rfl, ?_⟩
  | refine ⟨_, rfl, rfl, ?_⟩
  | refine ⟨_, _, _, _, true, rfl, .ty _, .base (.str _), kit_ty (by decide +kernel), ?_⟩
  | refine ⟨_, _, _, _, true, rfl, .ty _, .base (.int _), kit_ty (by decide +kernel), ?_⟩
  | refine ⟨_, _, _, _, false, rfl, .ty _, .base (.int _), kit_ty (by decide +kernel), ?_⟩
  | refine ⟨_, rfl, rfl, trivial, ?_⟩
  | refine ⟨_, _, rfl, ?_⟩
  | refine ⟨_, _, rfl, rfl, by decide, ?_⟩
  | refine ⟨_, _, rfl, rfl, sz (by omega), ?_⟩
  | refine ⟨_, _, rfl, rfl, ⟨by decide, by decide⟩, ?_⟩
  | refine ⟨_, _, _, rfl, rfl, ?_⟩
  | refine ⟨_, _, _, rfl, ?_⟩
  | refine And.intro (Nat.zero_le _) ?_
  | refine And.intro (show List.length _ ≤ sizeLine from Nat.le_of_ble_eq_true rfl) ?_
  | refine And.intro (.inl ⟨rfl, _, SqL.of (by assumption)⟩) ?_
  | refine And.intro (by assumption) ?_
  | refine And.intro (sz (by omega)) ?_
  | refine And.intro (by omega) ?_
  | refine Or.inl ⟨_, rfl, ?_⟩
  | refine Or.inr ⟨_, rfl, ?_⟩
  | refine ⟨_, _, rfl, .inl (SqL.of (by assumption)), ?_⟩
  | refine ⟨_, _, rfl, .inl (by assumption), ?_⟩
  | refine ⟨_, _, rfl, .inr (by assumption), ?_⟩
  | refine ⟨_, _, _, _, rfl, rfl, SqL.of (by assumption), rfl, ?_⟩
  | refine ⟨_, _, _, _, rfl, rfl, SqL.of upd_same, rfl, ?_⟩
  | refine ⟨_, _, _, _, rfl, rfl, by assumption, rfl, ?_⟩
  | refine ⟨_, _, _, _, rfl, rfl, upd_same, rfl, ?_⟩
  | refine And.intro (show CPow _ _ from ⟨by decide, by decide, by decide⟩) ?_
  | refine And.intro (show CDiv _ _ from ⟨by decide, by decide⟩) ?_
  | refine And.intro (show CMul _ _ from .inl ⟨by decide, by decide⟩) ?_
  | refine And.intro (show CMul _ _ from .inr ⟨by decide, by decide⟩) ?_)
local macro_rules | `(tactic| walk_at "rd") => `(tactic| repeat (walk_at "rd1"))
section
variable {P : Program} {w : World} {K : PySem.W.Frag} {mg : Str → Option Value} {base : Heap} {a : Ad} {d : Fd}
end
end
section
local macro_rules | `(tactic| walk_at "len") => `(tactic| (intro vs H Q E h; first
  | (obtain ⟨_, e, _⟩ := h; subst e; rfl) | (obtain ⟨_, _, e, _⟩ := h; subst e; rfl) | (obtain ⟨_, _, _, e, _⟩ := h; subst e; rfl) | (obtain ⟨_, _, _, _, e, _⟩ := h; subst e; rfl)))
local macro_rules | `(tactic| walk_at "rd1") => `(tactic| first
  | refine ⟨_, rfl, ?_⟩
  | refine ⟨rfl, ?_⟩
  | refine ⟨trivial, ?_⟩
  | refine ⟨_, _, rfl, rfl, ?_⟩
  | refine ⟨_, rfl, rfl, ?_⟩
  | refine ⟨_, _, _, _, true, rfl, .ty _, .base (.str _), kit_ty (by decide +kernel), ?_⟩
  | refine ⟨_, _, _, _, true, rfl, .ty _, .base (.int _), kit_ty (by decide +kernel), ?_⟩
  | refine ⟨_, _, _, _, false, rfl, .ty _, .base (.int _), kit_ty (by decide +kernel), ?_⟩
  | refine ⟨_, rfl, rfl, trivial, ?_⟩
  | refine ⟨_, _, rfl, ?_⟩
  | refine ⟨_, _, rfl, rfl, by decide, ?_⟩
  | refine ⟨_, _, rfl, rfl, sz (by omega), ?_⟩
  | refine ⟨_, _, rfl, rfl, ⟨by decide, by decide⟩, ?_⟩
  | refine ⟨_, _, _, rfl, rfl, ?_⟩
  | refine ⟨_, _, _, rfl, ?_⟩
  | refine And.intro (Nat.zero_le _) ?_
  | refine And.intro (show List.length _ ≤ sizeLine from Nat.le_of_ble_eq_true rfl) ?_
  | refine And.intro (.inl ⟨rfl, _, SqL.of (by assumption)⟩) ?_
  | refine And.intro (by assumption) ?_
  | refine And.intro (sz (by omega)) ?_
  | refine And.intro (by omega) ?_
  | refine Or.inl ⟨_, rfl, ?_⟩
  | refine Or.inr ⟨_, rfl, ?_⟩
  | refine ⟨_, _, rfl, .inl (SqL.of (by assumption)), ?_⟩
  | refine ⟨_, _, rfl, .inl (by assumption), ?_⟩
  | refine ⟨_, _, rfl, .inr (by assumption), ?_⟩
  | refine ⟨_, _, _, _, rfl, rfl, SqL.of (by assumption), rfl, ?_⟩
  | refine ⟨_, _, _, _, rfl, rfl, SqL.of upd_same, rfl, ?_⟩
  | refine ⟨_, _, _, _, rfl, rfl, by assumption, rfl, ?_⟩
  | refine ⟨_, _, _, _, rfl, rfl, upd_same, rfl, ?_⟩
  | refine And.intro (show CPow _ _ from ⟨by decide, by decide, by decide⟩) ?_
  | refine And.intro (show CDiv _ _ from ⟨by decide, by decide⟩) ?_
  | refine And.intro (show CMul _ _ from .inl ⟨by decide, by decide⟩) ?_
  | refine And.intro (show CMul _ _ from .inr ⟨by decide, by decide⟩) ?_)
local macro_rules | `(tactic| walk_at "rd") => `(tactic| repeat (walk_at "rd1"))
section
variable {P : Program} {w : World} {K : PySem.W.Frag} {mg : Str → Option Value} {base : Heap} {a : Ad} {d : Fd}
def sp_is_number (K : PySem.W.Frag) : Sp := fun vs H Q _ => ∃ v a b : Int, vs = [.int v, .int a, .int b] ∧ a ≤ v ∧ v ≤ b ∧ -1000000 ≤ v ∧ v ≤ 1000000 ∧ Q (.bl true) H
def sp_check_number (K : PySem.W.Frag) : Sp := fun vs H Q _ => ∃ v a b : Int, vs = [.int v, .int a, .int b] ∧ a ≤ v ∧ v ≤ b ∧ -1000000 ≤ v ∧ v ≤ 1000000 ∧ Q .non H
theorem ok_is_number (T : Txt K mg a d)  : FnOk P w K mg base CX0 1 a.is_number d.is_number ["value", "least", "most"] (sp_is_number K) := by
  refine T.F_is_number.ok sc_is_number (by walk_at "len") (fun cdv A outer s H vs Q E hr h => ?_)
  obtain ⟨v, a, b, rfl, h1, h2, h3, h4, k⟩ := h
  refine ⟨_, (pss_cons (ps_if (PW.pt (pw_or (pt_not (pt_val (pe_callB call_isi (by rfl) T.b_isinstance (by decide +kernel) (pa_cons (pv 0) (pa_cons (pe_bltn (v := .ty "int") (by rfl) T.b_int (by decide +kernel) rfl) pa_nil))))) (pw_or1 (pt_val (pe_callB call_isi (by rfl) T.b_isinstance (by decide +kernel) (pa_cons (pv 0) (pa_cons (pe_bltn (v := .ty "bool") (by rfl) T.b_bool (by decide +kernel) rfl) pa_nil))))))) (pss_one (ps_ret pe_bl)) pss_nil)
      (pss_one (ps_ret (pe_chain op_le op_le (pe_callB (call_max2 rfl) (by rfl) T.b_max (by decide +kernel) (pa_cons (pv 1) (pa_cons (pe_un un_neg (pe_glob (v := .int 999999999999999999999999999999999999999999999999999999999999) rfl T.c_LONGEST.choose_spec ⟨_, rfl⟩)) pa_nil))) (pv 0) (pe_callB (call_min2 rfl) (by rfl) T.b_min (by decide +kernel) (pa_cons (pv 2) (pa_cons (pe_glob (v := .int 999999999999999999999999999999999999999999999999999999999999) rfl T.c_LONGEST.choose_spec ⟨_, rfl⟩) pa_nil))))))), ?_⟩
  walk_at "rd"
  have e1 : (if -999999999999999999999999999999999999999999999999999999999999 > a then -999999999999999999999999999999999999999999999999999999999999 else a) ≤ v := by split <;> omega
  rw [if_pos (decide_eq_true e1)]
  walk_at "rd"
  have e2 : v ≤ (if (999999999999999999999999999999999999999999999999999999999999 : Int) < b then 999999999999999999999999999999999999999999999999999999999999 else b) := by split <;> omega
  show Q (.bl (decide (v ≤ _))) H
  rw [decide_eq_true e2]
  exact k
theorem ok_check_number (T : Txt K mg a d) (G_is_number : FnOk P w K mg base CX0 1 a.is_number d.is_number ["value", "least", "most"] (sp_is_number K)) : FnOk P w K mg base CX0 2 a.check_number d.check_number ["given", "least", "most"] (sp_check_number K) := by
  refine T.F_check_number.ok sc_check_number (by walk_at "len") (fun cdv A outer s H vs Q E hr h => ?_)
  obtain ⟨v, a, b, rfl, h1, h2, h3, h4, k⟩ := h
  refine ⟨_, (pss_one (ps_if (pt_not (pt_val (pe_call G_is_number (hr.mono (by decide)) (by rfl) T.g_is_number T.k_is_number T.B_is_number .nil pass0 (pa_cons (pv 0) (pa_cons (pv 1) (pa_cons (pv 2) pa_nil)))))) (pss_one ps_never) pss_nil)), ?_⟩
  walk_at "rd"
  exact k
theorem ok_is_text (T : Txt K mg a d)  : FnOk P w K mg base CX0 1 a.is_text d.is_text ["value"] (sp_is_text K) := by
  refine T.F_is_text.ok sc_is_text (by walk_at "len") (fun cdv A outer s H vs Q E hr h => ?_)
  obtain ⟨z, rfl, hz, k⟩ := h
  refine ⟨_, (pss_one (ps_ret (pe_and (pe_callB call_isi (by rfl) T.b_isinstance (by decide +kernel) (pa_cons (pv 0) (pa_cons (pe_bltn (v := .ty "str") (by rfl) T.b_str (by decide +kernel) rfl) pa_nil))) (pe_and (pe_cmpR op_le (pe_callB call_len_str (by rfl) T.b_len (by decide +kernel) (pa_cons (pv 0) pa_nil)) (pe_glob (v := .int 60000) rfl T.c_MOST_SIGNS.choose_spec ⟨_, rfl⟩) (nomark _)) (pe_and (pe_bm0 PySem.F.plainAttrs_str PySem.F.slot_str_isascii PySem.F.type_str_isascii mt_isascii (pv 0)) (pe_one (pe_bm0 PySem.F.plainAttrs_str PySem.F.slot_str_isprintable PySem.F.type_str_isprintable mt_isprintable (pv 0)))))))), ?_⟩
  walk_at "rd"
  refine iteB (fun h1 => ?_) (fun h1 => ?_)
  · walk_at "rd"
    refine iteB (fun h2 => ?_) (fun h2 => ?_)
    · walk_at "rd"
      unfold txtM at k
      rw [h1, h2] at k
      exact k
    · unfold txtM at k
      rw [h1, h2] at k
      exact k
  · unfold txtM at k
    rw [h1] at k
    exact k
theorem ok_check_text (T : Txt K mg a d) (G_is_text : FnOk P w K mg base CX0 1 a.is_text d.is_text ["value"] (sp_is_text K)) : FnOk P w K mg base CX0 2 a.check_text d.check_text ["text"] (sp_check_text K) := by
  refine T.F_check_text.ok sc_check_text (by walk_at "len") (fun cdv A outer s H vs Q E hr h => ?_)
  obtain ⟨z, rfl, hp, hz, k⟩ := h
  refine ⟨_, (pss_one (ps_if (pt_not (pt_val (pe_call G_is_text (hr.mono (by decide)) (by rfl) T.g_is_text T.k_is_text T.B_is_text .nil pass0 (pa_cons (pv 0) pa_nil)))) (pss_one ps_never) pss_nil)), ?_⟩
  walk_at "rd"
  rw [txtM_ok hp hz]
  exact k
theorem ok_digits_cells (T : Txt K mg a d)  : FnOk P w K mg base CX0 1 a.digits_cells d.digits_cells ["signs"] (sp_digits_cells K) := by
  refine T.F_digits_cells.ok sc_digits_cells (by walk_at "len") (fun cdv A outer s H vs Q E hr h => ?_)
  obtain ⟨z, rfl, hp, hz, k⟩ := h
  have hz1 : z.length ≤ sizeLine := sz (by omega)
  have hlt := len_tl z
  refine ⟨_, (pss_cons (ps_if (pt_cmpR op_eq (pv 0) pe_str (nomark _)) (pss_one (ps_ret (pe_tup pa_nil))) pss_nil)
      (pss_cons (ps_if (PW.pt (pw_or (pt_truth (pe_op op_mod (pe_callB call_len_str (by rfl) T.b_len (by decide +kernel) (pa_cons (pv 0) pa_nil)) (pe_glob (v := .int 3) rfl T.c_CELL_DIGITS.choose_spec ⟨_, rfl⟩)) (by intro _; rfl)) (pw_or1 (pt_not (pt_val (pe_bm0 PySem.F.plainAttrs_str PySem.F.slot_str_isdigit PySem.F.type_str_isdigit mt_isdigit (pv 0))))))) (pss_one (ps_ret pe_non)) pss_nil)
      (pss_cons (ps_setLc (i := 1) (own := [("at", 2)]) rfl sc_digits_cells.nd rfl rfl (sw_true rfl rfl rfl (by decide +kernel)) (pi_range3 (by rfl) T.b_range (pa_cons pe_int (pa_cons (pe_callB call_len_str (by rfl) T.b_len (by decide +kernel) (pa_cons (pv 0) pa_nil)) (pa_cons (pe_glob (v := .int 3) rfl T.c_CELL_DIGITS.choose_spec ⟨_, rfl⟩) pa_nil)))) (blkOk_by (N := n_digits_cells) (sc := defScope s_digits_cells) (by decide +kernel)) (fun _ _ _ _ _ => (pg_name (i := 2) sc_digits_cells.nd rfl (Or.inl rfl))) (fun _ _ _ _ _ => pts_nil) (fun _ _ _ _ _ => (pe_callTy call_int_str (by rfl) T.b_int (by decide +kernel) (pa_cons (pe_slice sl_str (pv 0) (po_some (pv 2)) (po_some (pe_op op_add (pv 2) (pe_glob (v := .int 3) rfl T.c_CELL_DIGITS.choose_spec ⟨_, rfl⟩)))) pa_nil))))
      (pss_one (ps_ret (pe_ifExp (pt_cmpR op_le (pe_callB (cr_max rfl) (by rfl) T.b_max (by decide +kernel) (pa_cons (pv 1) pa_nil)) (pe_glob (v := .int 996) rfl T.c_MAX_CELL.choose_spec ⟨_, rfl⟩) (nomark _)) (pe_callTy call_tuple_of (by rfl) T.b_tuple (by decide +kernel) (pa_cons (pv 1) pa_nil)) pe_non)))))), ?_⟩
  walk_at "rd"
  refine iteB (fun h1 => ?_) (fun h1 => ?_)
  · have ez : z = "" := by simpa using h1
    subst ez
    refine ⟨Nat.zero_le _, fun p hp => ?_⟩
    exact k _ _ (Same.new hp) (.tup (SqT.of upd_same) .nil)
  walk_at "rd"
  refine iteB (fun h2 => ?_) (fun h2 => ?_)
  · have e : toldL (tl z) = none := told_mod (by simp at h2; omega)
    rw [e] at k
    exact k _ _ (Same.refl H) .non
  have hm : (tl z).length % 3 = 0 := by simp at h2; omega
  walk_at "rd"
  rw [isdigit_pr hp]
  have hpos : 0 < z.length := by
    by_cases g : 0 < z.length
    · exact g
    · exfalso
      have : tl z = [] := List.eq_nil_of_length_eq_zero (by omega)
      have ez : z = "" := ext_tl this
      subst ez
      simp at h1
  rw [decide_eq_true hpos, Bool.true_and]
  refine iteB (fun h3 => ?_) (fun h3 => ?_)
  · have e : toldL (tl z) = none := told_nd (by simpa using h3)
    rw [e] at k
    exact k _ _ (Same.refl H) .non
  have hd : (tl z).all dg = true := by simpa using h3
  walk_at "rd"
  refine ⟨_, _, _, _, rfl, rg3 z.length (by omega), fun D hD => ?_⟩
  refine lc_it walk_rangeC (fun i H' => Same H H' ∧ H' D = some (.lst ((vals (tl z) i).map V.int))) ⟨Same.new hD, upd_same⟩ (fun _ _ _ _ => trivial) ?_ ?_
  · rintro i x H1 H2 hi ⟨s1, hD1⟩ ⟨rfl, rfl⟩
    have hi' : i < nck (tl z) := by unfold nck; omega
    walk_at "rd"
    rw [cut_ck]
    have hck : (ck (tl z) i).length = 3 := ck_len hm hi'
    refine ⟨_, _, rfl, int_ck (ck_dg hd) (by intro e; rw [e] at hck; cases hck) (by omega), by show (ck (tl z) i).toArray.size ≤ 640; simp; omega, ?_⟩
    refine ⟨_, hD1, szl (by rw [List.length_map, vals_length]; omega), fun b o e => ?_, ?_⟩
    · rw [upd_ne (ne_of_none e hD)]; exact s1 b o e
    · rw [upd_same, vals_succ, List.map_append]; rfl
  · rintro H1 ⟨s1, hD1⟩
    have hn : (z.length + 2) / 3 = nck (tl z) := by unfold nck; rw [hlt]
    rw [hn] at hD1
    walk_at "rd"
    refine ⟨_, vals (tl z) (nck (tl z)), rfl, SqL.of hD1, by rw [vals_length]; unfold nck; omega, fun m hin hmx => ?_⟩
    have e := told_ok hm hd m hmx hin
    walk_at "rd"
    refine iteB (fun h4 => ?_) (fun h4 => ?_)
    · rw [if_pos (of_decide_eq_true h4)] at e
      rw [e] at k
      walk_at "rd"
      refine ⟨_, _, rfl, .inl ⟨SqL.of hD1, fun l hl => ?_⟩⟩
      exact k _ _ (s1.trans (Same.new hl)) (tp_ints (SqT.of upd_same))
    · rw [if_neg (of_decide_eq_false h4)] at e
      rw [e] at k
      exact k _ _ s1 .non
end
end
section
local macro_rules | `(tactic| walk_at "len") => `(tactic| (intro vs H Q E h; first
  | (obtain ⟨_, e, _⟩ := h; subst e; rfl) | (obtain ⟨_, _, e, _⟩ := h; subst e; rfl) | (obtain ⟨_, _, _, e, _⟩ := h; subst e; rfl) | (obtain ⟨_, _, _, _, e, _⟩ := h; subst e; rfl)))
local macro_rules | `(tactic| walk_at "rd1") => `(tactic| first
  | refine ⟨_, rfl, ?_⟩
  | refine ⟨rfl, ?_⟩
  | refine ⟨trivial, ?_⟩
  | refine ⟨_, _, rfl, rfl, ?_⟩
  | refine ⟨_, rfl, rfl, ?_⟩
  | refine ⟨_, _, _, _, true, rfl, .ty _, .base (.str _), kit_ty (by decide +kernel), ?_⟩
  | refine ⟨_, _, _, _, true, rfl, .ty _, .base (.int _), kit_ty (by decide +kernel), ?_⟩
  | refine ⟨_, _, _, _, false, rfl, .ty _, .base (.int _), kit_ty (by decide +kernel), ?_⟩
  | refine ⟨_, rfl, rfl, trivial, ?_⟩
  | refine ⟨_, _, rfl, ?_⟩
  | refine ⟨_, _, rfl, rfl, by decide, ?_⟩
  | refine ⟨_, _, rfl, rfl, sz (by omega), ?_⟩
  | refine ⟨_, _, rfl, rfl, ⟨by decide, by decide⟩, ?_⟩
  | refine ⟨_, _, _, rfl, rfl, ?_⟩
  | refine ⟨_, _, _, rfl, ?_⟩
  | refine And.intro (Nat.zero_le _) ?_
  | refine And.intro (show List.length _ ≤ sizeLine from Nat.le_of_ble_eq_true rfl) ?_
  | refine And.intro (.inl ⟨rfl, _, SqL.of (by assumption)⟩) ?_
  | refine And.intro (by assumption) ?_
  | refine And.intro (sz (by omega)) ?_
  | refine And.intro (by omega) ?_
  | refine Or.inl ⟨_, rfl, ?_⟩
  | refine Or.inr ⟨_, rfl, ?_⟩
  | refine ⟨_, _, rfl, .inl (SqL.of (by assumption)), ?_⟩
  | refine ⟨_, _, rfl, .inl (by assumption), ?_⟩
  | refine ⟨_, _, rfl, .inr (by assumption), ?_⟩
  | refine ⟨_, _, _, _, rfl, rfl, SqL.of (by assumption), rfl, ?_⟩
  | refine ⟨_, _, _, _, rfl, rfl, SqL.of upd_same, rfl, ?_⟩
  | refine ⟨_, _, _, _, rfl, rfl, by assumption, rfl, ?_⟩
  | refine ⟨_, _, _, _, rfl, rfl, upd_same, rfl, ?_⟩
  | refine And.intro (show CPow _ _ from ⟨by decide, by decide, by decide⟩) ?_
  | refine And.intro (show CDiv _ _ from ⟨by decide, by decide⟩) ?_
  | refine And.intro (show CMul _ _ from .inl ⟨by decide, by decide⟩) ?_
  | refine And.intro (show CMul _ _ from .inr ⟨by decide, by decide⟩) ?_)
local macro_rules | `(tactic| walk_at "rd") => `(tactic| repeat (walk_at "rd1"))
section
variable {P : Program} {w : World} {K : PySem.W.Frag} {mg : Str → Option Value} {base : Heap} {a : Ad} {d : Fd}
theorem sgn {c : Nat} {s : Str} {k : Nat} (h : s = ⟨#[k]⟩) : (V.str ⟨#[c]⟩ = V.str s) ↔ c = k := by
  subst h
  constructor
  · intro e
    injection e with e
    injection e with e
    simpa using e
  · rintro rfl; rfl
theorem ok_cells_from (T : Txt K mg a d) (G_digits_cells : FnOk P w K mg base CX0 1 a.digits_cells d.digits_cells ["signs"] (sp_digits_cells K)) : FnOk P w K mg base CX0 2 a.cells_from d.cells_from ["text", "place"] (sp_cells_from K) := by
  refine T.F_cells_from.ok sc_cells_from (by walk_at "len") (fun cdv A outer s H vs Q E hr h => ?_)
  obtain ⟨z, p, rfl, hp, hz, hl, k⟩ := h
  have hz1 : z.length ≤ sizeLine := sz (by omega)
  have hlt := len_tl z
  obtain ⟨c1, hc1⟩ : ∃ c, (tl z)[p]? = some c := ⟨_, List.getElem?_eq_getElem (by omega)⟩
  obtain ⟨c2, hc2⟩ : ∃ c, (tl z)[p + 121]? = some c := ⟨_, List.getElem?_eq_getElem (by omega)⟩
  have e2 : ((p : Int) + 122 - 1) = ((p + 121 : Nat) : Int) := by omega
  refine ⟨_, (pss_cons (ps_set (i := 2) sc_cells_from.nd rfl (Or.inl rfl) (pe_op op_sub (pe_op op_add (pv 1) (pe_glob (v := .int 122) rfl T.c_WINDOW_SIGNS.choose_spec ⟨_, rfl⟩)) pe_int))
      (pss_cons (ps_if (PW.pt (pw_or (pt_cmpR op_ne (pe_ix ix_str (pv 0) (pv 1) (fun _ _ => rfl)) pe_str (nomark _)) (pw_or1 (pt_cmpR op_ne (pe_ix ix_str (pv 0) (pv 2) (fun _ _ => rfl)) pe_str (nomark _))))) (pss_one (ps_ret pe_non)) pss_nil)
      (pss_one (ps_ret (pe_call G_digits_cells (hr.mono (by decide)) (by rfl) T.g_digits_cells T.k_digits_cells T.B_digits_cells .nil pass0 (pa_cons (pe_slice sl_str (pv 0) (po_some (pe_op op_add (pv 1) pe_int)) (po_some (pv 2))) pa_nil)))))), ?_⟩
  walk_at "rd"
  refine ⟨_, _, c1, rfl, rfl, hz1, atI_nat hc1, ?_⟩
  walk_at "rd"
  have no : ¬ ((tl z)[p]? = some 35 ∧ (tl z)[p + 121]? = some 59) → winAt (tl z) p = none := fun g => by unfold winAt; rw [if_neg g]
  refine iteB (fun h1 => ?_) (fun h1 => ?_)
  · walk_at "rd"
    rw [no (by rintro ⟨g, _⟩; rw [hc1] at g; rw [(sgn (s := "#") (k := 35) rfl).mpr (Option.some.inj g)] at h1; simp at h1)] at k
    exact k _ _ (Same.refl H) .non
  have g1 : c1 = 35 := (sgn (s := "#") (k := 35) rfl).mp (by simpa using h1)
  walk_at "rd"
  refine ⟨_, _, c2, rfl, rfl, hz1, by rw [e2]; exact atI_nat hc2, ?_⟩
  walk_at "rd"
  refine iteB (fun h2 => ?_) (fun h2 => ?_)
  · walk_at "rd"
    rw [no (by rintro ⟨_, g⟩; rw [hc2] at g; rw [(sgn (s := ";") (k := 59) rfl).mpr (Option.some.inj g)] at h2; simp at h2)] at k
    exact k _ _ (Same.refl H) .non
  have g2 : c2 = 59 := (sgn (s := ";") (k := 59) rfl).mp (by simpa using h2)
  walk_at "rd"
  have ec : tl (cutS z (some ((p : Int) + 1)) (some ((p : Int) + 122 - 1))) = ((tl z).drop (p + 1)).take 120 := by
    rw [e2, show ((p : Int) + 1) = ((p + 1 : Nat) : Int) by omega, cut_nat, show p + 121 - (p + 1) = 120 by omega]
  have ew : winAt (tl z) p = toldL (((tl z).drop (p + 1)).take 120) := by
    unfold winAt
    rw [if_pos ⟨by rw [hc1, g1], by rw [hc2, g2]⟩]
  refine ⟨pr_cut hp _ _, Nat.le_trans (cutS_length _ _ _) hz, fun v H' s' t => k v H' s' ?_⟩
  rw [ec, ← ew] at t
  exact t
end
end
section
local macro_rules | `(tactic| walk_at "len") => `(tactic| (intro vs H Q E h; first
  | (obtain ⟨_, e, _⟩ := h; subst e; rfl) | (obtain ⟨_, _, e, _⟩ := h; subst e; rfl) | (obtain ⟨_, _, _, e, _⟩ := h; subst e; rfl) | (obtain ⟨_, _, _, _, e, _⟩ := h; subst e; rfl)))
local macro_rules | `(tactic| walk_at "rd1") => `(tactic| first
  | refine ⟨_, rfl, ?_⟩
  | refine ⟨rfl, ?_⟩
  | refine ⟨trivial, ?_⟩
  | refine ⟨_, _, rfl, rfl, ?_⟩
  | refine ⟨_, rfl, rfl, ?_⟩
  | refine ⟨_, _, _, _, true, rfl, .ty _, .base (.str _), kit_ty (by decide +kernel), ?_⟩
  | refine ⟨_, _, _, _, true, rfl, .ty _, .base (.int _), kit_ty (by decide +kernel), ?_⟩
  | refine ⟨_, _, _, _, false, rfl, .ty _, .base (.int _), kit_ty (by decide +kernel), ?_⟩
  | refine ⟨_, rfl, rfl, trivial, ?_⟩
  | refine ⟨_, _, rfl, ?_⟩
  | refine ⟨_, _, rfl, rfl, by decide, ?_⟩
  | refine ⟨_, _, rfl, rfl, sz (by omega), ?_⟩
  | refine ⟨_, _, rfl, rfl, ⟨by decide, by decide⟩, ?_⟩
  | refine ⟨_, _, _, rfl, rfl, ?_⟩
  | refine ⟨_, _, _, rfl, ?_⟩
  | refine And.intro (Nat.zero_le _) ?_
  | refine And.intro (show List.length _ ≤ sizeLine from Nat.le_of_ble_eq_true rfl) ?_
  | refine And.intro (.inl ⟨rfl, _, SqL.of (by assumption)⟩) ?_
  | refine And.intro (by assumption) ?_
  | refine And.intro (sz (by omega)) ?_
  | refine And.intro (by omega) ?_
  | refine Or.inl ⟨_, rfl, ?_⟩
  | refine Or.inr ⟨_, rfl, ?_⟩
  | refine ⟨_, _, rfl, .inl (SqL.of (by assumption)), ?_⟩
  | refine ⟨_, _, rfl, .inl (by assumption), ?_⟩
  | refine ⟨_, _, rfl, .inr (by assumption), ?_⟩
  | refine ⟨_, _, _, _, rfl, rfl, SqL.of (by assumption), rfl, ?_⟩
  | refine ⟨_, _, _, _, rfl, rfl, SqL.of upd_same, rfl, ?_⟩
  | refine ⟨_, _, _, _, rfl, rfl, by assumption, rfl, ?_⟩
  | refine ⟨_, _, _, _, rfl, rfl, upd_same, rfl, ?_⟩
  | refine And.intro (show CPow _ _ from ⟨by decide, by decide, by decide⟩) ?_
  | refine And.intro (show CDiv _ _ from ⟨by decide, by decide⟩) ?_
  | refine And.intro (show CMul _ _ from .inl ⟨by decide, by decide⟩) ?_
  | refine And.intro (show CMul _ _ from .inr ⟨by decide, by decide⟩) ?_)
local macro_rules | `(tactic| walk_at "rd") => `(tactic| repeat (walk_at "rd1"))
section
variable {P : Program} {w : World} {K : PySem.W.Frag} {mg : Str → Option Value} {base : Heap} {a : Ad} {d : Fd}
theorem len_app (x y : Str) : (x ++ y).length = x.length + y.length := by rw [len_tl, len_tl, len_tl, tl_append, List.length_append]
end
end
section
local macro_rules | `(tactic| walk_at "len") => `(tactic| (intro vs H Q E h; first
  | (obtain ⟨_, e, _⟩ := h; subst e; rfl) | (obtain ⟨_, _, e, _⟩ := h; subst e; rfl) | (obtain ⟨_, _, _, e, _⟩ := h; subst e; rfl) | (obtain ⟨_, _, _, _, e, _⟩ := h; subst e; rfl)))
local macro_rules | `(tactic| walk_at "rd1") => `(tactic| first
  | refine ⟨_, rfl, ?_⟩
  | refine ⟨rfl, ?_⟩
  | refine ⟨trivial, ?_⟩
  | refine ⟨_, _, rfl, rfl, ?_⟩
  | refine ⟨_, rfl, rfl, ?_⟩
  | refine ⟨_, _, _, _, true, rfl, .ty _, .base (.str _), kit_ty (by decide +kernel), ?_⟩
  | refine ⟨_, _, _, _, true, rfl, .ty _, .base (.int _), kit_ty (by decide +kernel), ?_⟩
  | refine ⟨_, _, _, _, false, rfl, .ty _, .base (.int _), kit_ty (by decide +kernel), ?_⟩
  | refine ⟨_, rfl, rfl, trivial, ?_⟩
  | refine ⟨_, _, rfl, ?_⟩
  | refine ⟨_, _, rfl, rfl, by decide, ?_⟩
  | refine ⟨_, _, rfl, rfl, sz (by omega), ?_⟩
  | refine ⟨_, _, rfl, rfl, ⟨by decide, by decide⟩, ?_⟩
  | refine ⟨_, _, _, rfl, rfl, ?_⟩
  | refine ⟨_, _, _, rfl, ?_⟩
  | refine And.intro (Nat.zero_le _) ?_
  | refine And.intro (show List.length _ ≤ sizeLine from Nat.le_of_ble_eq_true rfl) ?_
  | refine And.intro (.inl ⟨rfl, _, SqL.of (by assumption)⟩) ?_
  | refine And.intro (by assumption) ?_
  | refine And.intro (sz (by omega)) ?_
  | refine And.intro (by omega) ?_
  | refine Or.inl ⟨_, rfl, ?_⟩
  | refine Or.inr ⟨_, rfl, ?_⟩
  | refine ⟨_, _, rfl, .inl (SqL.of (by assumption)), ?_⟩
  | refine ⟨_, _, rfl, .inl (by assumption), ?_⟩
  | refine ⟨_, _, rfl, .inr (by assumption), ?_⟩
  | refine ⟨_, _, _, _, rfl, rfl, SqL.of (by assumption), rfl, ?_⟩
  | refine ⟨_, _, _, _, rfl, rfl, SqL.of upd_same, rfl, ?_⟩
  | refine ⟨_, _, _, _, rfl, rfl, by assumption, rfl, ?_⟩
  | refine ⟨_, _, _, _, rfl, rfl, upd_same, rfl, ?_⟩
  | refine And.intro (show CPow _ _ from ⟨by decide, by decide, by decide⟩) ?_
  | refine And.intro (show CDiv _ _ from ⟨by decide, by decide⟩) ?_
  | refine And.intro (show CMul _ _ from .inl ⟨by decide, by decide⟩) ?_
  | refine And.intro (show CMul _ _ from .inr ⟨by decide, by decide⟩) ?_)
local macro_rules | `(tactic| walk_at "rd") => `(tactic| repeat (walk_at "rd1"))
section
variable {P : Program} {w : World} {K : PySem.W.Frag} {mg : Str → Option Value} {base : Heap} {a : Ad} {d : Fd}
def mu (z : Str) (σ : List (Option V)) : Nat := match σ[4]? with
  | some (some (V.int p)) => if p < 0 then 0 else z.length + 1 - p.toNat
  | _ => 0
theorem ok_standing (T : Txt K mg a d) (G_cells_from : FnOk P w K mg base CX0 2 a.cells_from d.cells_from ["text", "place"] (sp_cells_from K)) : FnOk P w K mg base CX0 3 a.standing d.standing ["text", "begin", "end"] (sp_standing K) := by
  refine T.F_standing.ok sc_standing (by walk_at "len") (fun cdv A outer s H vs Q E hr h => ?_)
  obtain ⟨z, b, e, rfl, hp, hz, hb, he, k⟩ := h
  have hz1 : z.length ≤ sizeLine := sz (by omega)
  have hlt := len_tl z
  refine ⟨_, (pss_cons (ps_set (i := 3) sc_standing.nd rfl (Or.inl rfl) (pe_lst pa_nil))
      (pss_cons (ps_set (i := 4) sc_standing.nd rfl (Or.inl rfl) (pe_bm PySem.F.plainAttrs_str PySem.F.slot_str_find PySem.F.type_str_find mt_find3 (pv 0) (pa_cons pe_str (pa_cons (pv 1) pa_nil))))
      (pss_cons (ps_while PassesOwn.never (pt_chain op_le op_le pe_int (pv 4) (pe_op op_sub (pv 2) (pe_glob (v := .int 122) rfl T.c_WINDOW_SIGNS.choose_spec ⟨_, rfl⟩)))
      (pss_cons (ps_set (i := 5) sc_standing.nd rfl (Or.inl rfl) (pe_call G_cells_from (hr.mono (by decide)) (by rfl) T.g_cells_from T.k_cells_from T.B_cells_from .nil pass0 (pa_cons (pv 0) (pa_cons (pv 4) pa_nil))))
      (pss_cons (ps_if (pt_cmpR op_notN (pv 5) pe_non (nomark _)) (pss_one (ps_expr (pe_bm PySem.F.plainAttrs_list PySem.F.slot_list_append PySem.F.type_list_append mt_append (pv 3) (pa_cons (pe_tup (pa_cons (pv 4) (pa_cons (pv 5) pa_nil))) pa_nil)))) pss_nil)
      (pss_one (ps_set (i := 4) sc_standing.nd rfl (Or.inl rfl) (pe_bm PySem.F.plainAttrs_str PySem.F.slot_str_find PySem.F.type_str_find mt_find3 (pv 0) (pa_cons pe_str (pa_cons (pe_op op_add (pv 4) pe_int) pa_nil))))))))
      (pss_one (ps_ret (pe_callTy call_tuple_of (by rfl) T.b_tuple (by decide +kernel) (pa_cons (pv 3) pa_nil))))))), ?_⟩
  walk_at "rd"
  refine fun L hL => ?_
  walk_at "rd"
  refine while_by (fun σ H' => ∃ (j : Nat) (xs : List V) (v5 : Option V), b ≤ j ∧ j ≤ z.length ∧ (j = b ∨ j ≤ e - 121) ∧ σ = [some (.str z), some (.int b), some (.int e), some (.ref L), some (.int (Txt.find3 z "#" (j : Int))), v5] ∧
    Same H H' ∧ H' L = some (.lst xs) ∧ TpAll K H' xs ((wl (tl z) b j).map encW)) (fun σ _ => mu z σ) ⟨b, [], none, Nat.le_refl _, hb, .inl rfl, rfl, Same.new hL, upd_same, by rw [wl_nil (Nat.le_refl _)]; exact .nil⟩ ?_ ?_
  · rintro σ H1 ⟨j, xs, v5, hbj, hj, hje, rfl, s1, hL1, t1⟩
    rcases find3_sign z 35 j hj with ⟨e1, n1⟩ | ⟨p, e1, g1, g2, g3⟩
    · rw [show Txt.find3 z "#" (j : Int) = -1 from e1]
      walk_at "rd"
      refine ⟨_, _, rfl, .inl ⟨SqL.of hL1, fun l hl => ?_⟩⟩
      have ew : wl (tl z) b (e - 121) = wl (tl z) b j := by
        rcases hje with g | g
        · subst g
          rw [wl_nil (Nat.le_refl _), wl_gap fun q hq _ => n1 q hq]
        · rw [wl_append hbj g, wl_gap (a := j) fun q hq _ => n1 q hq, List.append_nil]
      rw [ew] at k
      exact k _ _ (s1.trans (Same.new hl)) (tp_new hl t1)
    · have e1' : Txt.find3 z "#" (j : Int) = (p : Int) := e1
      have hpz : p < (tl z).length := (List.getElem?_eq_some_iff.mp g2).1
      rw [e1']
      walk_at "rd"
      refine iteB (fun c1 => ?_) (fun c1 => ?_)
      · have c1' := of_decide_eq_true c1
        have hl1 : xs.length ≤ 60000 := by rw [t1.length, List.length_map]; exact Nat.le_trans wl_length (by omega)
        have egap : wl (tl z) b p = wl (tl z) b j := by rw [wl_append hbj g1, wl_gap (a := j) fun q h1 h2 => g3 q h1 h2, List.append_nil]
        have emu : ∀ (x : V) (y : Option V), mu z [some (.str z), some (.int b), some (.int e), some (.ref L), some (.int (Txt.find3 z "#" ((p + 1 : Nat) : Int))), y] < mu z [some (.str z), some (.int b), some (.int e), some (.ref L), some (.int (p : Int)), v5] := fun x y => by
          show (if Txt.find3 z "#" ((p + 1 : Nat) : Int) < 0 then 0 else z.length + 1 - (Txt.find3 z "#" ((p + 1 : Nat) : Int)).toNat) < (if (p : Int) < 0 then 0 else z.length + 1 - (p : Int).toNat)
          rw [if_neg (show ¬ (p : Int) < 0 by omega)]
          rcases find3_sign z 35 (p + 1) (by omega) with ⟨e2, _⟩ | ⟨q, e2, f1, f2, _⟩
          · rw [show Txt.find3 z "#" ((p + 1 : Nat) : Int) = -1 from e2]
            simp; omega
          · have := (List.getElem?_eq_some_iff.mp f2).1
            rw [show Txt.find3 z "#" ((p + 1 : Nat) : Int) = (q : Int) from e2, if_neg (by omega)]
            omega
        walk_at "rd"
        refine fun v H2 s2 t2 => ?_
        have hL2 := s2 _ _ hL1
        have t1' := t1.keep (Kt.of s2)
        cases ew : winAt (tl z) p with
        | none =>
          rw [ew] at t2
          cases t2
          walk_at "rd"
          refine ⟨⟨p + 1, xs, _, by omega, by omega, .inr (by omega), rfl, s1.trans s2, hL2, ?_⟩, emu (.int 0) _⟩
          rw [wl_succ (by omega), egap]
          unfold wf
          rw [ew]
          simpa using t1'
        | some c =>
          rw [ew] at t2
          have t2' : Tp K H2 v (encT c) := t2
          cases t2 with
          | @tup aa ys ds hs ha =>
          walk_at "rd"
          refine fun T2 hT => ?_
          have nLT : L ≠ T2 := ne_of_none hL2 hT
          refine ⟨_, _, _, rfl, rfl, (upd_ne nLT).trans hL2, szl (by omega), ?_⟩
          walk_at "rd"
          have s3 : Same H (upd (upd H2 T2 (.tup [.int p, .ref aa])) L (.lst (xs ++ [.ref T2]))) := fun q o g => by
            rw [upd_ne (ne_of_none g hL), upd_ne (ne_of_none ((s1.trans s2) q o g) hT)]
            exact (s1.trans s2) q o g
          refine ⟨⟨p + 1, _, _, by omega, by omega, .inr (by omega), rfl, s3, upd_same, ?_⟩, emu (.int 0) _⟩
          rw [wl_succ (by omega), egap]
          unfold wf
          rw [ew, List.map_append]
          have kk : Kt H2 (upd (upd H2 T2 (.tup [.int p, .ref aa])) L (.lst (xs ++ [.ref T2]))) := (Kt.of (Same.new hT)).trans (Kt.lst (.inr ⟨xs, (upd_ne nLT).trans hL2⟩))
          refine (t1'.keep kk).snoc (.tup (SqT.of ((upd_ne nLT.symm).trans upd_same)) (.cons (.int _) (.cons (t2'.keep kk) .nil)))
      · have c1' := of_decide_eq_false c1
        walk_at "rd"
        refine ⟨_, _, rfl, .inl ⟨SqL.of hL1, fun l hl => ?_⟩⟩
        have ew : wl (tl z) b (e - 121) = wl (tl z) b j := by
          rcases hje with g | g
          · subst g
            rw [wl_nil (Nat.le_refl _), wl_gap fun q h1 h2 => g3 q h1 (by omega)]
          · rw [wl_append hbj g, wl_gap (a := j) fun q h1 h2 => g3 q h1 (by omega), List.append_nil]
        rw [ew] at k
        exact k _ _ (s1.trans (Same.new hl)) (tp_new hl t1)
  · exact mt_test (me_chain mr_I0 mr_I0 me_c me_var (me_op mr_I0 me_var me_c))
end
end
section
local macro_rules | `(tactic| walk_at "len") => `(tactic| (intro vs H Q E h; first
  | (obtain ⟨_, e, _⟩ := h; subst e; rfl) | (obtain ⟨_, _, e, _⟩ := h; subst e; rfl) | (obtain ⟨_, _, _, e, _⟩ := h; subst e; rfl) | (obtain ⟨_, _, _, _, e, _⟩ := h; subst e; rfl)))
local macro_rules | `(tactic| walk_at "rd1") => `(tactic| first
  | refine ⟨_, rfl, ?_⟩
  | refine ⟨rfl, ?_⟩
  | refine ⟨trivial, ?_⟩
  | refine ⟨_, _, rfl, rfl, ?_⟩
  | refine ⟨_, rfl, rfl, ?_⟩
  | refine ⟨_, _, _, _, true, rfl, .ty _, .base (.str _), kit_ty (by decide +kernel), ?_⟩
  | refine ⟨_, _, _, _, true, rfl, .ty _, .base (.int _), kit_ty (by decide +kernel), ?_⟩
  | refine ⟨_, _, _, _, false, rfl, .ty _, .base (.int _), kit_ty (by decide +kernel), ?_⟩
  | refine ⟨_, rfl, rfl, trivial, ?_⟩
  | refine ⟨_, _, rfl, ?_⟩
  | refine ⟨_, _, rfl, rfl, by decide, ?_⟩
  | refine ⟨_, _, rfl, rfl, sz (by omega), ?_⟩
  | refine ⟨_, _, rfl, rfl, ⟨by decide, by decide⟩, ?_⟩
  | refine ⟨_, _, _, rfl, rfl, ?_⟩
  | refine ⟨_, _, _, rfl, ?_⟩
  | refine And.intro (Nat.zero_le _) ?_
  | refine And.intro (show List.length _ ≤ sizeLine from Nat.le_of_ble_eq_true rfl) ?_
  | refine And.intro (.inl ⟨rfl, _, SqL.of (by assumption)⟩) ?_
  | refine And.intro (by assumption) ?_
  | refine And.intro (sz (by omega)) ?_
  | refine And.intro (by omega) ?_
  | refine Or.inl ⟨_, rfl, ?_⟩
  | refine Or.inr ⟨_, rfl, ?_⟩
  | refine ⟨_, _, rfl, .inl (SqL.of (by assumption)), ?_⟩
  | refine ⟨_, _, rfl, .inl (by assumption), ?_⟩
  | refine ⟨_, _, rfl, .inr (by assumption), ?_⟩
  | refine ⟨_, _, _, _, rfl, rfl, SqL.of (by assumption), rfl, ?_⟩
  | refine ⟨_, _, _, _, rfl, rfl, SqL.of upd_same, rfl, ?_⟩
  | refine ⟨_, _, _, _, rfl, rfl, by assumption, rfl, ?_⟩
  | refine ⟨_, _, _, _, rfl, rfl, upd_same, rfl, ?_⟩
  | refine And.intro (show CPow _ _ from ⟨by decide, by decide, by decide⟩) ?_
  | refine And.intro (show CDiv _ _ from ⟨by decide, by decide⟩) ?_
  | refine And.intro (show CMul _ _ from .inl ⟨by decide, by decide⟩) ?_
  | refine And.intro (show CMul _ _ from .inr ⟨by decide, by decide⟩) ?_)
local macro_rules | `(tactic| walk_at "rd") => `(tactic| repeat (walk_at "rd1"))
section
variable {P : Program} {w : World} {K : PySem.W.Frag} {mg : Str → Option Value} {base : Heap} {a : Ad} {d : Fd}
theorem ok_windows (T : Txt K mg a d) (G_check_text : FnOk P w K mg base CX0 2 a.check_text d.check_text ["text"] (sp_check_text K)) (G_standing : FnOk P w K mg base CX0 3 a.standing d.standing ["text", "begin", "end"] (sp_standing K)) : FnOk P w K mg base CX0 4 a.windows d.windows ["text"] (sp_windows K) := by
  refine T.F_windows.ok sc_windows (by walk_at "len") (fun cdv A outer s H vs Q E hr h => ?_)
  obtain ⟨z, rfl, hp, hz, k⟩ := h
  have hz1 : z.length ≤ sizeLine := sz (by omega)
  refine ⟨_, (pss_cons (ps_expr (pe_call G_check_text (hr.mono (by decide)) (by rfl) T.g_check_text T.k_check_text T.B_check_text .nil pass0 (pa_cons (pv 0) pa_nil)))
      (pss_one (ps_ret (pe_call G_standing (hr.mono (by decide)) (by rfl) T.g_standing T.k_standing T.B_standing .nil pass0 (pa_cons (pv 0) (pa_cons pe_int (pa_cons (pe_callB call_len_str (by rfl) T.b_len (by decide +kernel) (pa_cons (pv 0) pa_nil)) pa_nil))))))), ?_⟩
  walk_at "rd"
  exact k
end
end
section
local macro_rules | `(tactic| walk_at "len") => `(tactic| (intro vs H Q E h; first
  | (obtain ⟨_, e, _⟩ := h; subst e; rfl) | (obtain ⟨_, _, e, _⟩ := h; subst e; rfl) | (obtain ⟨_, _, _, e, _⟩ := h; subst e; rfl) | (obtain ⟨_, _, _, _, e, _⟩ := h; subst e; rfl)))
local macro_rules | `(tactic| walk_at "rd1") => `(tactic| first
  | refine ⟨_, rfl, ?_⟩
  | refine ⟨rfl, ?_⟩
  | refine ⟨trivial, ?_⟩
  | refine ⟨_, _, rfl, rfl, ?_⟩
  | refine ⟨_, rfl, rfl, ?_⟩
  | refine ⟨_, _, _, _, true, rfl, .ty _, .base (.str _), kit_ty (by decide +kernel), ?_⟩
  | refine ⟨_, _, _, _, true, rfl, .ty _, .base (.int _), kit_ty (by decide +kernel), ?_⟩
  | refine ⟨_, _, _, _, false, rfl, .ty _, .base (.int _), kit_ty (by decide +kernel), ?_⟩
  | refine ⟨_, rfl, rfl, trivial, ?_⟩
  | refine ⟨_, _, rfl, ?_⟩
  | refine ⟨_, _, rfl, rfl, by decide, ?_⟩
  | refine ⟨_, _, rfl, rfl, sz (by omega), ?_⟩
  | refine ⟨_, _, rfl, rfl, ⟨by decide, by decide⟩, ?_⟩
  | refine ⟨_, _, _, rfl, rfl, ?_⟩
  | refine ⟨_, _, _, rfl, ?_⟩
  | refine And.intro (Nat.zero_le _) ?_
  | refine And.intro (show List.length _ ≤ sizeLine from Nat.le_of_ble_eq_true rfl) ?_
  | refine And.intro (.inl ⟨rfl, _, SqL.of (by assumption)⟩) ?_
  | refine And.intro (by assumption) ?_
  | refine And.intro (sz (by omega)) ?_
  | refine And.intro (by omega) ?_
  | refine Or.inl ⟨_, rfl, ?_⟩
  | refine Or.inr ⟨_, rfl, ?_⟩
  | refine ⟨_, _, rfl, .inl (SqL.of (by assumption)), ?_⟩
  | refine ⟨_, _, rfl, .inl (by assumption), ?_⟩
  | refine ⟨_, _, rfl, .inr (by assumption), ?_⟩
  | refine ⟨_, _, _, _, rfl, rfl, SqL.of (by assumption), rfl, ?_⟩
  | refine ⟨_, _, _, _, rfl, rfl, SqL.of upd_same, rfl, ?_⟩
  | refine ⟨_, _, _, _, rfl, rfl, by assumption, rfl, ?_⟩
  | refine ⟨_, _, _, _, rfl, rfl, upd_same, rfl, ?_⟩
  | refine And.intro (show CPow _ _ from ⟨by decide, by decide, by decide⟩) ?_
  | refine And.intro (show CDiv _ _ from ⟨by decide, by decide⟩) ?_
  | refine And.intro (show CMul _ _ from .inl ⟨by decide, by decide⟩) ?_
  | refine And.intro (show CMul _ _ from .inr ⟨by decide, by decide⟩) ?_)
local macro_rules | `(tactic| walk_at "rd") => `(tactic| repeat (walk_at "rd1"))
section
variable {P : Program} {w : World} {K : PySem.W.Frag} {mg : Str → Option Value} {base : Heap} {a : Ad} {d : Fd}
theorem win_item {K : PySem.W.Frag} {H : Hp} {ys : List V} {ws : List (Nat × List Int)} {i : Nat} {x : V} (ha : TpAll K H ys (ws.map encW)) (hx : ys[i]? = some x) :
    ∃ (w : Nat × List Int) (T c : Addr), ws[i]? = some w ∧ x = .ref T ∧ SqT K H T [.int w.1, .ref c] ∧ SqT K H c (w.2.map V.int) := by
  obtain ⟨d, hd, ht⟩ := ha.get hx
  rw [List.getElem?_map] at hd
  cases hw : ws[i]? with
  | none => rw [hw] at hd; cases hd
  | some w =>
    rw [hw] at hd
    obtain rfl : encW w = d := Option.some.inj hd
    cases ht with
    | tup h t =>
      cases t with
      | cons h1 t1 =>
        cases h1
        cases t1 with
        | cons h2 t2 =>
          cases t2
          cases h2 with
          | tup h3 t3 =>
            rw [t3.ints_of] at h3
            exact ⟨w, _, _, rfl, rfl, h, h3⟩
theorem tp_w {K : PySem.W.Frag} {H : Hp} {c : Addr} {w : Nat × List Int} (h : SqT K H c (w.2.map V.int)) : TpAll K H [.int w.1, .ref c] [.int w.1, encT w.2] := .cons (.int _) (.cons (tp_ints h) .nil)
theorem cutV_tail (xs : List V) : cutV xs (some 1) none = xs.drop 1 := by
  unfold cutV
  rw [show (1 : Int) = ((1 : Nat) : Int) from rfl, HT.sIx_nat, HT.sIx_none]
  by_cases h : 1 ≤ xs.length
  · rw [Nat.min_eq_left h, List.take_of_length_le (by rw [List.length_drop]; omega)]
  · have : xs = [] := List.eq_nil_of_length_eq_zero (by omega)
    subst this
    rfl
theorem flat_w {ws : List (Nat × List Int)} : flatAll 2 (ws.map encW) = true := flatAll_iff.mpr fun d hd => by
  obtain ⟨w, _, rfl⟩ := List.mem_map.mp hd
  show flatAll 1 [.int w.1, encT w.2] = true
  have h : flatAll 0 (w.2.map PyData.int) = true := flat_ints _
  simp [flatAll, flatD, encT, h]
theorem shaped_w {ws : List (Nat × List Int)} : SeqAt.shaped (.list (ws.map encW)) = true := flat_shaped (n := 3) flat_w (by decide)
theorem alike_w (v w : Nat × List Int) : PySem.W.alike (encW v) (encW w) = true := by
  unfold encW encT
  simp [PySem.W.alike, PySem.W.alikeAll, PySem.W.alike_ints]
theorem le_w {v w : Nat × List Int} (h : v.1 < w.1) : PySem.W.dataLt (encW w) (encW v) = false := by
  unfold encW
  rw [PySem.W.dataLt_pair (by simp [PySem.W.alike]) (by unfold encT; simp [PySem.W.alike, PySem.W.alike_ints])]
  have e : PyData.eqv (.int w.1) (.int v.1) = false := by simp [PyData.eqv]; omega
  rw [e, if_neg Bool.false_ne_true, PySem.W.dataLt_int]
  exact decide_eq_false (by omega)
/-- values and what they are, one by one -/
theorem zip_fst {K : PySem.W.Frag} {H : Hp} : ∀ {ds : List PyData} {vs : List V}, TpAll K H vs ds → (vs.zip ds).map Prod.fst = vs
  | _, _, .nil => rfl
  | _, _, .cons _ t => by rw [List.zip_cons_cons, List.map_cons, zip_fst t]
theorem zip_snd {K : PySem.W.Frag} {H : Hp} : ∀ {ds : List PyData} {vs : List V}, TpAll K H vs ds → (vs.zip ds).map Prod.snd = ds
  | _, _, .nil => rfl
  | _, _, .cons _ t => by rw [List.zip_cons_cons, List.map_cons, zip_snd t]
theorem zip_dp {K : PySem.W.Frag} {H : Hp} : ∀ {ds : List PyData} {vs : List V}, TpAll K H vs ds → ∀ b ∈ vs.zip ds, Dp K H b.1 b.2
  | _, _, .nil, _, h => by simp at h
  | _, _, .cons a t, b, h => by
    rw [List.zip_cons_cons] at h
    rcases List.mem_cons.mp h with rfl | h
    · exact a.dp
    · exact zip_dp t b h
theorem sorted_w {K : PySem.W.Frag} {H : Hp} {vs : List V} {ws : List (Nat × List Int)} (t : TpAll K H vs (ws.map encW)) (hp : ws.Pairwise fun v w => v.1 < w.1) : sortD (vs.zip (ws.map encW)) = vs := by
  rw [sortD_same, zip_fst t]
  have h : ((vs.zip (ws.map encW)).map Prod.snd).Pairwise fun d e => PySem.W.dataLt e d = false := by
    rw [zip_snd t, List.pairwise_map]
    exact hp.imp fun h => le_w h
  rw [List.pairwise_map] at h
  exact h.imp fun h => by
    rw [PySem.W.dataLe_eq]
    show (!PySem.W.dataLt _ _) = true
    rw [h]
    rfl
end
end
section
local macro_rules | `(tactic| walk_at "len") => `(tactic| (intro vs H Q E h; first
  | (obtain ⟨_, e, _⟩ := h; subst e; rfl) | (obtain ⟨_, _, e, _⟩ := h; subst e; rfl) | (obtain ⟨_, _, _, e, _⟩ := h; subst e; rfl) | (obtain ⟨_, _, _, _, e, _⟩ := h; subst e; rfl)))
local macro_rules | `(tactic| walk_at "rd1") => `(tactic| first
  | refine ⟨_, rfl, ?_⟩
  | refine ⟨rfl, ?_⟩
  | refine ⟨trivial, ?_⟩
  | refine ⟨_, _, rfl, rfl, ?_⟩
  | refine ⟨_, rfl, rfl, ?_⟩
  | refine ⟨_, _, _, _, true, rfl, .ty _, .base (.str _), kit_ty (by decide +kernel), ?_⟩
  | refine ⟨_, _, _, _, true, rfl, .ty _, .base (.int _), kit_ty (by decide +kernel), ?_⟩
  | refine ⟨_, _, _, _, false, rfl, .ty _, .base (.int _), kit_ty (by decide +kernel), ?_⟩
  | refine ⟨_, rfl, rfl, trivial, ?_⟩
  | refine ⟨_, _, rfl, ?_⟩
  | refine ⟨_, _, rfl, rfl, by decide, ?_⟩
  | refine ⟨_, _, rfl, rfl, sz (by omega), ?_⟩
  | refine ⟨_, _, rfl, rfl, ⟨by decide, by decide⟩, ?_⟩
  | refine ⟨_, _, _, rfl, rfl, ?_⟩
  | refine ⟨_, _, _, rfl, ?_⟩
  | refine And.intro (Nat.zero_le _) ?_
  | refine And.intro (show List.length _ ≤ sizeLine from Nat.le_of_ble_eq_true rfl) ?_
  | refine And.intro (.inl ⟨rfl, _, SqL.of (by assumption)⟩) ?_
  | refine And.intro (by assumption) ?_
  | refine And.intro (sz (by omega)) ?_
  | refine And.intro (by omega) ?_
  | refine Or.inl ⟨_, rfl, ?_⟩
  | refine Or.inr ⟨_, rfl, ?_⟩
  | refine ⟨_, _, rfl, .inl (SqL.of (by assumption)), ?_⟩
  | refine ⟨_, _, rfl, .inl (by assumption), ?_⟩
  | refine ⟨_, _, rfl, .inr (by assumption), ?_⟩
  | refine ⟨_, _, _, _, rfl, rfl, SqL.of (by assumption), rfl, ?_⟩
  | refine ⟨_, _, _, _, rfl, rfl, SqL.of upd_same, rfl, ?_⟩
  | refine ⟨_, _, _, _, rfl, rfl, by assumption, rfl, ?_⟩
  | refine ⟨_, _, _, _, rfl, rfl, upd_same, rfl, ?_⟩
  | refine And.intro (show CPow _ _ from ⟨by decide, by decide, by decide⟩) ?_
  | refine And.intro (show CDiv _ _ from ⟨by decide, by decide⟩) ?_
  | refine And.intro (show CMul _ _ from .inl ⟨by decide, by decide⟩) ?_
  | refine And.intro (show CMul _ _ from .inr ⟨by decide, by decide⟩) ?_)
local macro_rules | `(tactic| walk_at "rd") => `(tactic| repeat (walk_at "rd1"))
section
variable {P : Program} {w : World} {K : PySem.W.Frag} {mg : Str → Option Value} {base : Heap} {a : Ad} {d : Fd}
def sp_pieces (K : PySem.W.Frag) : Sp := fun vs H Q _ => ∃ z : Str, vs = [.str z] ∧ pr z ∧ z.length ≤ 60000 ∧ ∀ v H', Same H H' → Tp K H' v (.tuple (pcs z.length (wl (tl z) 0 (z.length - 121)))) → Q v H'
def sp_windows_in (K : PySem.W.Frag) : Sp := fun vs H Q _ => ∃ (z : Str) (b e : Nat), vs = [.str z, .int b, .int e] ∧ pr z ∧ z.length ≤ 60000 ∧ b ≤ e ∧ e ≤ z.length ∧
  ∀ v H', Same H H' → Tp K H' v (.tuple ((wl (tl z) b (e - 121)).map encW)) → Q v H'
theorem ok_pieces (T : Txt K mg a d) (G_windows : FnOk P w K mg base CX0 4 a.windows d.windows ["text"] (sp_windows K)) : FnOk P w K mg base CX0 5 a.pieces d.pieces ["text"] (sp_pieces K) := by
  refine T.F_pieces.ok sc_pieces (by walk_at "len") (fun cdv A outer s H vs Q E hr h => ?_)
  obtain ⟨z, rfl, hp, hz, k⟩ := h
  have hz1 : z.length ≤ sizeLine := sz (by omega)
  refine ⟨_, (pss_cons (ps_set (i := 1) sc_pieces.nd rfl (Or.inl rfl) (pe_lst pa_nil))
      (pss_cons (ps_set (i := 2) sc_pieces.nd rfl (Or.inl rfl) pe_int)
      (pss_cons (ps_for PassesOwn.never rfl (pi_tup (pe_call G_windows (hr.mono (by decide)) (by rfl) T.g_windows T.k_windows T.B_windows .nil pass0 (pa_cons (pv 0) pa_nil))) (pg_tup rfl (pgs_cons (pg_name (i := 3) sc_pieces.nd rfl (Or.inl rfl) (.inl rfl)) (pgs_cons (pg_name (i := 4) sc_pieces.nd rfl (Or.inl rfl) (.inl rfl)) pgs_nil)))
      (pss_cons (ps_if (pt_cmpR op_lt (pv 2) (pv 3) (nomark _)) (pss_one (ps_expr (pe_bm PySem.F.plainAttrs_list PySem.F.slot_list_append PySem.F.type_list_append mt_append (pv 1) (pa_cons (pe_tup (pa_cons pe_str (pa_cons (pv 2) (pa_cons (pv 3) pa_nil)))) pa_nil)))) pss_nil)
      (pss_cons (ps_set (i := 2) sc_pieces.nd rfl (Or.inl rfl) (pe_op op_add (pv 3) (pe_glob (v := .int 122) rfl T.c_WINDOW_SIGNS.choose_spec ⟨_, rfl⟩)))
      (pss_one (ps_expr (pe_bm PySem.F.plainAttrs_list PySem.F.slot_list_append PySem.F.type_list_append mt_append (pv 1) (pa_cons (pe_tup (pa_cons pe_str (pa_cons (pv 3) (pa_cons (pv 2) pa_nil)))) pa_nil)))))))
      (pss_cons (ps_if (pt_cmpR op_lt (pv 2) (pe_callB call_len_str (by rfl) T.b_len (by decide +kernel) (pa_cons (pv 0) pa_nil)) (nomark _)) (pss_one (ps_expr (pe_bm PySem.F.plainAttrs_list PySem.F.slot_list_append PySem.F.type_list_append mt_append (pv 1) (pa_cons (pe_tup (pa_cons pe_str (pa_cons (pv 2) (pa_cons (pe_callB call_len_str (by rfl) T.b_len (by decide +kernel) (pa_cons (pv 0) pa_nil)) pa_nil)))) pa_nil)))) pss_nil)
      (pss_one (ps_ret (pe_callTy call_tuple_of (by rfl) T.b_tuple (by decide +kernel) (pa_cons (pv 1) pa_nil)))))))), ?_⟩
  walk_at "rd"
  refine fun L hL => ?_
  walk_at "rd"
  intro v H1 s1 t1
  have hwl := wl_length (s := tl z) (b := 0) (e := z.length - 121)
  generalize wl (tl z) 0 (z.length - 121) = ws at t1 hwl k
  have sL := Same.new (o := .lst []) hL
  have hL1 := s1 _ _ (upd_same (H := H) (a := L) (o := .lst []))
  cases t1 with
  | @tup W ys ds hS ha =>
  have hyl := ha.length
  rw [List.length_map] at hyl
  refine ⟨_, rfl, ⟨_, hS⟩, ?_⟩
  refine for_it walk_tup (fun i σ H' => ∃ (v3 v4 : Option V) (xs : List V), σ = [some (.str z), some (.ref L), some (.int (pfold (ws.take i)).2), v3, v4] ∧ Same H H' ∧ Kt H1 H' ∧ H' L = some (.lst xs) ∧ TpAll K H' xs (pfold (ws.take i)).1) ⟨none, none, [], rfl, sL.trans s1, Kt.refl _, hL1, .nil⟩ (fun i σ H' _ ⟨_, _, _, _, _, k2, _⟩ => kt_t k2 hS) ?_ ?_
  · rintro i x σ H3 H2 hi ⟨v3, v4, xs, rfl, s2, k2, hL2, t2⟩ ⟨rfl, hx⟩
    obtain ⟨w, T1, c, hw, rfl, hT, hc⟩ := win_item (ha.keep k2) hx
    have hxl : xs.length ≤ 120000 := by
      have := t2.length
      have := pfold_len (ws.take i)
      rw [List.length_take] at this
      omega
    rw [take_snoc hw, pfold_snoc]
    generalize pfold (ws.take i) = r at t2
    refine ⟨_, _, rfl, hT, rfl, ?_⟩
    walk_at "rd"
    refine iteB (fun c1 => ?_) (fun c1 => ?_)
    · have c1' := of_decide_eq_true c1
      walk_at "rd"
      refine fun T2 hT2 => ?_
      have n2 : L ≠ T2 := ne_of_none hL2 hT2
      refine ⟨_, _, _, rfl, rfl, (upd_ne n2).trans hL2, szl (by omega), ?_⟩
      have kk : Kt H2 (upd (upd H2 T2 (.tup [.str "other", .int r.2, .int w.1])) L (.lst (xs ++ [.ref T2]))) := (Kt.of (Same.new hT2)).trans (Kt.lst (.inr ⟨xs, (upd_ne n2).trans hL2⟩))
      have t3 := (t2.keep kk).snoc (tp_piece (SqT.of ((upd_ne n2.symm).trans upd_same)))
      have s3 : Same H (upd (upd H2 T2 (.tup [.str "other", .int r.2, .int w.1])) L (.lst (xs ++ [.ref T2]))) := fun q o g => by
        rw [upd_ne (ne_of_none g hL), upd_ne (ne_of_none (s2 q o g) hT2)]
        exact s2 q o g
      have hL3 : (upd (upd H2 T2 (.tup [.str "other", .int r.2, .int w.1])) L (.lst (xs ++ [.ref T2]))) L = some (.lst (xs ++ [.ref T2])) := upd_same
      generalize upd (upd H2 T2 (.tup [.str "other", .int r.2, .int w.1])) L (.lst (xs ++ [.ref T2])) = H4 at *
      walk_at "rd"
      refine fun T3 hT3 => ?_
      have n3 : L ≠ T3 := ne_of_none hL3 hT3
      refine ⟨_, _, _, rfl, rfl, (upd_ne n3).trans hL3, szl (by rw [List.length_append, List.length_singleton]; omega), ?_⟩
      refine ⟨_, _, _, rfl, ?_, ?_, upd_same, ?_⟩
      · intro q o g
        rw [upd_ne (ne_of_none g hL), upd_ne (ne_of_none (s3 q o g) hT3)]
        exact s3 q o g
      · exact (k2.trans kk).trans ((Kt.of (Same.new hT3)).trans (Kt.lst (.inr ⟨_, (upd_ne n3).trans hL3⟩)))
      · unfold pstep
        rw [if_pos c1']
        exact (t3.keep ((Kt.of (Same.new hT3)).trans (Kt.lst (.inr ⟨_, (upd_ne n3).trans hL3⟩)))).snoc (tp_piece (SqT.of ((upd_ne n3.symm).trans upd_same)))
    · have c1' := of_decide_eq_false c1
      walk_at "rd"
      refine fun T3 hT3 => ?_
      have n3 : L ≠ T3 := ne_of_none hL2 hT3
      refine ⟨_, _, _, rfl, rfl, (upd_ne n3).trans hL2, szl (by omega), ?_⟩
      refine ⟨_, _, _, rfl, ?_, ?_, upd_same, ?_⟩
      · intro q o g
        rw [upd_ne (ne_of_none g hL), upd_ne (ne_of_none (s2 q o g) hT3)]
        exact s2 q o g
      · exact k2.trans ((Kt.of (Same.new hT3)).trans (Kt.lst (.inr ⟨_, (upd_ne n3).trans hL2⟩)))
      · unfold pstep
        rw [if_neg c1', List.append_nil]
        exact (t2.keep ((Kt.of (Same.new hT3)).trans (Kt.lst (.inr ⟨_, (upd_ne n3).trans hL2⟩)))).snoc (tp_piece (SqT.of ((upd_ne n3.symm).trans upd_same)))
  rintro σ H2 ⟨v3, v4, xs, rfl, s2, k2, hL2, t2⟩
  rw [hyl, List.take_length] at t2
  have hxl : xs.length ≤ 120000 := by
    have := t2.length
    have := pfold_len ws
    omega
  rw [hyl, List.take_length]
  unfold pcs at k
  generalize pfold ws = r at t2 k
  walk_at "rd"
  refine iteB (fun c1 => ?_) (fun c1 => ?_)
  · rw [if_pos (of_decide_eq_true c1)] at k
    walk_at "rd"
    refine fun T2 hT2 => ?_
    have n2 : L ≠ T2 := ne_of_none hL2 hT2
    refine ⟨_, _, _, rfl, rfl, (upd_ne n2).trans hL2, szl (by omega), ?_⟩
    have kk : Kt H2 (upd (upd H2 T2 (.tup [.str "other", .int r.2, .int z.length])) L (.lst (xs ++ [.ref T2]))) := (Kt.of (Same.new hT2)).trans (Kt.lst (.inr ⟨xs, (upd_ne n2).trans hL2⟩))
    have t3 := (t2.keep kk).snoc (tp_piece (SqT.of ((upd_ne n2.symm).trans upd_same)))
    have s3 : Same H (upd (upd H2 T2 (.tup [.str "other", .int r.2, .int z.length])) L (.lst (xs ++ [.ref T2]))) := fun q o g => by
      rw [upd_ne (ne_of_none g hL), upd_ne (ne_of_none (s2 q o g) hT2)]
      exact s2 q o g
    walk_at "rd"
    refine ⟨_, _, rfl, .inl ⟨SqL.of upd_same, fun l hl => ?_⟩⟩
    exact k _ _ (s3.trans (Same.new hl)) (tp_new hl t3)
  · rw [if_neg (of_decide_eq_false c1), List.append_nil] at k
    walk_at "rd"
    refine ⟨_, _, rfl, .inl ⟨SqL.of hL2, fun l hl => ?_⟩⟩
    exact k _ _ (s2.trans (Same.new hl)) (tp_new hl t2)
theorem ok_windows_in (T : Txt K mg a d) (G_check_number : FnOk P w K mg base CX0 2 a.check_number d.check_number ["given", "least", "most"] (sp_check_number K)) (G_check_text : FnOk P w K mg base CX0 2 a.check_text d.check_text ["text"] (sp_check_text K)) (G_standing : FnOk P w K mg base CX0 3 a.standing d.standing ["text", "begin", "end"] (sp_standing K)) : FnOk P w K mg base CX0 4 a.windows_in d.windows_in ["text", "begin", "end"] (sp_windows_in K) := by
  refine T.F_windows_in.ok sc_windows_in (by walk_at "len") (fun cdv A outer s H vs Q E hr h => ?_)
  obtain ⟨z, b, e, rfl, hp, hz, hb, he, k⟩ := h
  have hz1 : z.length ≤ sizeLine := sz (by omega)
  refine ⟨_, (pss_cons (ps_expr (pe_call G_check_text (hr.mono (by decide)) (by rfl) T.g_check_text T.k_check_text T.B_check_text .nil pass0 (pa_cons (pv 0) pa_nil)))
      (pss_cons (ps_expr (pe_call G_check_number (hr.mono (by decide)) (by rfl) T.g_check_number T.k_check_number T.B_check_number .nil pass0 (pa_cons (pv 1) (pa_cons pe_int (pa_cons (pe_callB call_len_str (by rfl) T.b_len (by decide +kernel) (pa_cons (pv 0) pa_nil)) pa_nil)))))
      (pss_cons (ps_expr (pe_call G_check_number (hr.mono (by decide)) (by rfl) T.g_check_number T.k_check_number T.B_check_number .nil pass0 (pa_cons (pv 2) (pa_cons (pv 1) (pa_cons (pe_callB call_len_str (by rfl) T.b_len (by decide +kernel) (pa_cons (pv 0) pa_nil)) pa_nil)))))
      (pss_one (ps_ret (pe_call G_standing (hr.mono (by decide)) (by rfl) T.g_standing T.k_standing T.B_standing .nil pass0 (pa_cons (pv 0) (pa_cons (pv 1) (pa_cons (pv 2) pa_nil))))))))), ?_⟩
  walk_at "rd"
  exact k
end
end
section
local macro_rules | `(tactic| walk_at "len") => `(tactic| (intro vs H Q E h; first
  | (obtain ⟨_, e, _⟩ := h; subst e; rfl) | (obtain ⟨_, _, e, _⟩ := h; subst e; rfl) | (obtain ⟨_, _, _, e, _⟩ := h; subst e; rfl) | (obtain ⟨_, _, _, _, e, _⟩ := h; subst e; rfl)))
local macro_rules | `(tactic| walk_at "rd1") => `(tactic| first
  | refine ⟨_, rfl, ?_⟩
  | refine ⟨rfl, ?_⟩
  | refine ⟨trivial, ?_⟩
  | refine ⟨_, _, rfl, rfl, ?_⟩
  | refine ⟨_, rfl, rfl, ?_⟩
  | refine ⟨_, _, _, _, true, rfl, .ty _, .base (.str _), kit_ty (by decide +kernel), ?_⟩
  | refine ⟨_, _, _, _, true, rfl, .ty _, .base (.int _), kit_ty (by decide +kernel), ?_⟩
  | refine ⟨_, _, _, _, false, rfl, .ty _, .base (.int _), kit_ty (by decide +kernel), ?_⟩
  | refine ⟨_, rfl, rfl, trivial, ?_⟩
  | refine ⟨_, _, rfl, ?_⟩
  | refine ⟨_, _, rfl, rfl, by decide, ?_⟩
  | refine ⟨_, _, rfl, rfl, sz (by omega), ?_⟩
  | refine ⟨_, _, rfl, rfl, ⟨by decide, by decide⟩, ?_⟩
  | refine ⟨_, _, _, rfl, rfl, ?_⟩
  | refine ⟨_, _, _, rfl, ?_⟩
  | refine And.intro (Nat.zero_le _) ?_
  | refine And.intro (show List.length _ ≤ sizeLine from Nat.le_of_ble_eq_true rfl) ?_
  | refine And.intro (.inl ⟨rfl, _, SqL.of (by assumption)⟩) ?_
  | refine And.intro (by assumption) ?_
  | refine And.intro (sz (by omega)) ?_
  | refine And.intro (by omega) ?_
  | refine Or.inl ⟨_, rfl, ?_⟩
  | refine Or.inr ⟨_, rfl, ?_⟩
  | refine ⟨_, _, rfl, .inl (SqL.of (by assumption)), ?_⟩
  | refine ⟨_, _, rfl, .inl (by assumption), ?_⟩
  | refine ⟨_, _, rfl, .inr (by assumption), ?_⟩
  | refine ⟨_, _, _, _, rfl, rfl, SqL.of (by assumption), rfl, ?_⟩
  | refine ⟨_, _, _, _, rfl, rfl, SqL.of upd_same, rfl, ?_⟩
  | refine ⟨_, _, _, _, rfl, rfl, by assumption, rfl, ?_⟩
  | refine ⟨_, _, _, _, rfl, rfl, upd_same, rfl, ?_⟩
  | refine And.intro (show CPow _ _ from ⟨by decide, by decide, by decide⟩) ?_
  | refine And.intro (show CDiv _ _ from ⟨by decide, by decide⟩) ?_
  | refine And.intro (show CMul _ _ from .inl ⟨by decide, by decide⟩) ?_
  | refine And.intro (show CMul _ _ from .inr ⟨by decide, by decide⟩) ?_)
local macro_rules | `(tactic| walk_at "rd") => `(tactic| repeat (walk_at "rd1"))
section
variable {P : Program} {w : World} {K : PySem.W.Frag} {mg : Str → Option Value} {base : Heap} {a : Ad} {d : Fd}
/-! ### the law's draws -/
def Tray (H : Hp) (t : Addr) : Prop := ∃ a b c : Int, H t = some (.lst [.int a, .int b, .int c])
theorem Tray.same {H H' : Hp} {t : Addr} (s : Same H H') : Tray H t → Tray H' t := fun ⟨a, b, c, h⟩ => ⟨a, b, c, s _ _ h⟩
theorem Tray.kt {H : Hp} {t : Addr} {o : HO} (h : Tray H t) : Kt H (upd H t o) := by
  obtain ⟨a, b, c, h⟩ := h
  exact Kt.lst (.inr ⟨_, h⟩)
def sp_law_tray (K : PySem.W.Frag) : Sp := fun vs H Q _ => ∃ (a : Addr) (ns : List Int) (i : Nat), vs = [.ref a, .int i] ∧ SqL K H a (ns.map V.int) ∧ i ≤ 3 ∧ ∀ p H', Same H H' → H p = none → Tray H' p → Q (.ref p) H'
/-- behind a draw: r, and all but the tray as it was -/
def Dr (t : Addr) (H H' : Hp) : Prop := But t H H' ∧ Tray H' t ∧ Kt H H'
def sp_law_pluck (K : PySem.W.Frag) : Sp := fun vs H Q _ => ∃ (t : Addr) (n : Int), vs = [.ref t, .int n] ∧ Tray H t ∧ 0 < n ∧ n < 1000000 ∧ ∀ r H', 0 ≤ r → r < n → Dr t H H' → Q (.int r) H'
def sp_law_some (K : PySem.W.Frag) : Sp := fun vs H Q _ => ∃ (t l : Addr) (xs : List V), vs = [.ref t, .ref l] ∧ Tray H t ∧ l ≠ t ∧ H l = some (.lst xs) ∧ xs ≠ [] ∧ xs.length ≤ 1000 ∧ ∀ v H', v ∈ xs → Dr t H H' → Q v H'
theorem ok_law_tray (T : Txt K mg a d)  : FnOk P w K mg base CX0 1 a.law_tray d.law_tray ["script", "spot"] (sp_law_tray K) := by
  refine T.F_law_tray.ok sc_law_tray (by walk_at "len") (fun cdv A outer s H vs Q E hr h => ?_)
  obtain ⟨l, ns, i, rfl, hS, hi, k⟩ := h
  have hp56 : (0 : Int) ≤ 6 ∧ (Builtin.Int.intBits ((10 : Int) ^ (56 : Int).toNat) : Int) * 6 ≤ 2 ^ 27 := by decide +kernel
  have hp0 : (0 : Int) < ((10 : Int) ^ (56 : Int).toNat) ^ (6 : Int).toNat := by decide +kernel
  have fin : ∀ (x y : Int) (p : Addr), H p = none → Q (.ref p) (upd H p (.lst [.int x, .int y, .int 0])) := fun x y p hp => k p _ (Same.new hp) hp ⟨x, y, 0, upd_same⟩
  refine ⟨_, (pss_cons (ps_set (i := 2) sc_law_tray.nd rfl (Or.inl rfl) (pe_ifExp (pt_cmpR op_lt (pv 1) (pe_callB call_len_seq (by rfl) T.b_len (by decide +kernel) (pa_cons (pv 0) pa_nil)) (nomark _)) (pe_callTy call_int1 (by rfl) T.b_int (by decide +kernel) (pa_cons (pe_ix ix_list (pv 0) (pv 1) (fun _ _ => rfl)) pa_nil)) (pe_op op_add (pe_op op_mul pe_int (pv 1)) pe_int)))
      (pss_cons (ps_set (i := 3) sc_law_tray.nd rfl (Or.inl rfl) (pe_op op_mod (pe_callTy call_int1 (by rfl) T.b_int (by decide +kernel) (pa_cons (pe_callB call_abs (by rfl) T.b_abs (by decide +kernel) (pa_cons (pv 2) pa_nil)) pa_nil)) (pe_op op_powW (pe_op op_pow pe_int pe_int) pe_int)))
      (pss_one (ps_ret (pe_lst (pa_cons (pe_callB (call_max2 rfl) (by rfl) T.b_max (by decide +kernel) (pa_cons pe_int (pa_cons (pe_op op_sub (pv 3) (pe_op op_pow pe_int pe_int)) pa_nil))) (pa_cons (pe_op op_add (pe_op op_add (pe_op op_add (pe_op op_mul (pe_op op_mod (pv 3) pe_int) pe_int) (pe_op op_mul pe_int (pv 1))) (pe_op op_mul pe_int (pe_callTy call_int1 (by rfl) T.b_int (by decide +kernel) (pa_cons (pe_cmpR op_lt (pv 2) pe_int (nomark _)) pa_nil)))) pe_int) (pa_cons pe_int pa_nil)))))))), ?_⟩
  walk_at "rd"
  refine iteB (fun c => ?_) (fun c => ?_)
  · have c' := of_decide_eq_true c
    rw [List.length_map] at c'
    obtain ⟨v, hv⟩ : ∃ v, ns[i]? = some v := ⟨_, List.getElem?_eq_getElem (by omega)⟩
    walk_at "rd"
    refine ⟨_, _, _, _, rfl, rfl, hS, atI_nat (v := .int v) (by rw [List.getElem?_map, hv]; rfl), ?_⟩
    walk_at "rd"
    exact fun p hp => fin _ _ p hp
  · walk_at "rd"
    exact fun p hp => fin _ _ p hp
theorem ok_law_pluck (T : Txt K mg a d)  : FnOk P w K mg base CX0 1 a.law_pluck d.law_pluck ["tray", "total"] (sp_law_pluck K) := by
  refine T.F_law_pluck.ok sc_law_pluck (by walk_at "len") (fun cdv A outer s H vs Q E hr h => ?_)
  obtain ⟨t, n, rfl, ⟨x, y, z, hT⟩, hn, hn2, k⟩ := h
  have hdw : CDivW x n := wide_div hn (b := 20) (by omega) (by decide) (by decide)
  have fin : ∀ (r : Int) (x y z : Int), 0 ≤ r → r < n → Q (.int r) (upd H t (.lst [.int x, .int y, .int z])) := fun r x' y' z' h0 h1 => k r _ h0 h1 ⟨But.upd, ⟨x', y', z', upd_same⟩, Tray.kt ⟨x, y, z, hT⟩⟩
  have hone : ∀ w : Int, CMul (w % 2305843009213693951) (w % 2305843009213693951) := fun w => .inl ⟨by have := Int.emod_nonneg w (show (2305843009213693951 : Int) ≠ 0 by decide); omega, by have := Int.emod_lt_of_pos w (show (0 : Int) < 2305843009213693951 by decide); omega⟩
  refine ⟨_, (pss_cons (ps_if (pt_cmpR op_gt (pe_ix ix_list (pv 0) pe_int (fun _ _ => rfl)) pe_int (nomark _)) (pss_cons (ps_set (i := 2) sc_law_pluck.nd rfl (Or.inl rfl) (pe_op op_mod (pe_callTy call_int1 (by rfl) T.b_int (by decide +kernel) (pa_cons (pe_ix ix_list (pv 0) pe_int (fun _ _ => rfl)) pa_nil)) (pv 1)))
      (pss_cons (ps_asg (pe_op op_fdivW (pe_ix ix_list (pv 0) pe_int (fun _ _ => rfl)) (pv 1)) (pg_sub (pv 0) pe_int set_list))
      (pss_one (ps_ret (pv 2))))) pss_nil)
      (pss_cons (ps_asg (pe_op op_add (pe_ix ix_list (pv 0) pe_int (fun _ _ => rfl)) pe_int) (pg_sub (pv 0) pe_int set_list))
      (pss_cons (ps_set (i := 3) sc_law_pluck.nd rfl (Or.inl rfl) (pe_op op_mod (pe_callTy call_int1 (by rfl) T.b_int (by decide +kernel) (pa_cons (pe_op op_add (pe_ix ix_list (pv 0) pe_int (fun _ _ => rfl)) (pe_op op_mul pe_int (pe_ix ix_list (pv 0) pe_int (fun _ _ => rfl)))) pa_nil)) pe_int))
      (pss_cons (ps_set (i := 4) sc_law_pluck.nd rfl (Or.inl rfl) (pe_op op_add (pe_op op_mul (pe_op op_mod (pe_callTy call_int1 (by rfl) T.b_int (by decide +kernel) (pa_cons (pe_op op_add (pe_op op_mul (pv 3) (pv 3)) (pe_op op_mul pe_int (pe_ix ix_list (pv 0) pe_int (fun _ _ => rfl)))) pa_nil)) pe_int) pe_int) (pv 3)))
      (pss_one (ps_ret (pe_op op_mod (pe_callTy call_int1 (by rfl) T.b_int (by decide +kernel) (pa_cons (pe_op op_fdiv (pv 4) pe_int) pa_nil)) (pv 1)))))))), ?_⟩
  walk_at "rd"
  refine iteB (fun c => ?_) (fun c => ?_)
  · walk_at "rd"
    exact fin _ _ _ _ (Int.emod_nonneg _ (by omega)) (Int.emod_lt_of_pos _ hn)
  walk_at "rd"
  refine ⟨hone _, ?_⟩
  walk_at "rd"
  exact fin _ _ _ _ (Int.emod_nonneg _ (by omega)) (Int.emod_lt_of_pos _ hn)
theorem ok_law_some (T : Txt K mg a d) (G_law_pluck : FnOk P w K mg base CX0 1 a.law_pluck d.law_pluck ["tray", "total"] (sp_law_pluck K)) : FnOk P w K mg base CX0 2 a.law_some d.law_some ["tray", "items"] (sp_law_some K) := by
  refine T.F_law_some.ok sc_law_some (by walk_at "len") (fun cdv A outer s H vs Q E hr h => ?_)
  obtain ⟨t, l, xs, rfl, hT, hl, hL, hne, hn, k⟩ := h
  have hx : 0 < xs.length := List.length_pos_iff.mpr hne
  refine ⟨_, (pss_one (ps_ret (pe_ix ix_list (pv 1) (pe_call G_law_pluck (hr.mono (by decide)) (by rfl) T.g_law_pluck T.k_law_pluck T.B_law_pluck .nil pass0 (pa_cons (pv 0) (pa_cons (pe_callB call_len_seq (by rfl) T.b_len (by decide +kernel) (pa_cons (pv 1) pa_nil)) pa_nil))) (fun _ _ => rfl)))), ?_⟩
  walk_at "rd"
  rintro r H' h0 h1 ⟨b1, t1, k1⟩
  obtain ⟨v, hv⟩ : ∃ v, xs[r.toNat]? = some v := ⟨_, List.getElem?_eq_getElem (by omega)⟩
  refine ⟨_, _, _, _, rfl, rfl, SqL.of (b1 _ _ hl hL), at_of (j := r.toNat) (by omega) hv, ?_⟩
  exact k v H' (List.mem_of_getElem? hv) ⟨b1, t1, k1⟩
end
end
section
local macro_rules | `(tactic| walk_at "len") => `(tactic| (intro vs H Q E h; first
  | (obtain ⟨_, e, _⟩ := h; subst e; rfl) | (obtain ⟨_, _, e, _⟩ := h; subst e; rfl) | (obtain ⟨_, _, _, e, _⟩ := h; subst e; rfl) | (obtain ⟨_, _, _, _, e, _⟩ := h; subst e; rfl)))
local macro_rules | `(tactic| walk_at "rd1") => `(tactic| first
  | refine ⟨_, rfl, ?_⟩
  | refine ⟨rfl, ?_⟩
  | refine ⟨trivial, ?_⟩
  | refine ⟨_, _, rfl, rfl, ?_⟩
  | refine ⟨_, rfl, rfl, ?_⟩
  | refine ⟨_, _, _, _, true, rfl, .ty _, .base (.str _), kit_ty (by decide +kernel), ?_⟩
  | refine ⟨_, _, _, _, true, rfl, .ty _, .base (.int _), kit_ty (by decide +kernel), ?_⟩
  | refine ⟨_, _, _, _, false, rfl, .ty _, .base (.int _), kit_ty (by decide +kernel), ?_⟩
  | refine ⟨_, rfl, rfl, trivial, ?_⟩
  | refine ⟨_, _, rfl, ?_⟩
  | refine ⟨_, _, rfl, rfl, by decide, ?_⟩
  | refine ⟨_, _, rfl, rfl, sz (by omega), ?_⟩
  | refine ⟨_, _, rfl, rfl, ⟨by decide, by decide⟩, ?_⟩
  | refine ⟨_, _, _, rfl, rfl, ?_⟩
  | refine ⟨_, _, _, rfl, ?_⟩
  | refine And.intro (Nat.zero_le _) ?_
  | refine And.intro (show List.length _ ≤ sizeLine from Nat.le_of_ble_eq_true rfl) ?_
  | refine And.intro (.inl ⟨rfl, _, SqL.of (by assumption)⟩) ?_
  | refine And.intro (by assumption) ?_
  | refine And.intro (sz (by omega)) ?_
  | refine And.intro (by omega) ?_
  | refine Or.inl ⟨_, rfl, ?_⟩
  | refine Or.inr ⟨_, rfl, ?_⟩
  | refine ⟨_, _, rfl, .inl (SqL.of (by assumption)), ?_⟩
  | refine ⟨_, _, rfl, .inl (by assumption), ?_⟩
  | refine ⟨_, _, rfl, .inr (by assumption), ?_⟩
  | refine ⟨_, _, _, _, rfl, rfl, SqL.of (by assumption), rfl, ?_⟩
  | refine ⟨_, _, _, _, rfl, rfl, SqL.of upd_same, rfl, ?_⟩
  | refine ⟨_, _, _, _, rfl, rfl, by assumption, rfl, ?_⟩
  | refine ⟨_, _, _, _, rfl, rfl, upd_same, rfl, ?_⟩
  | refine And.intro (show CPow _ _ from ⟨by decide, by decide, by decide⟩) ?_
  | refine And.intro (show CDiv _ _ from ⟨by decide, by decide⟩) ?_
  | refine And.intro (show CMul _ _ from .inl ⟨by decide, by decide⟩) ?_
  | refine And.intro (show CMul _ _ from .inr ⟨by decide, by decide⟩) ?_)
local macro_rules | `(tactic| walk_at "rd") => `(tactic| repeat (walk_at "rd1"))
section
variable {P : Program} {w : World} {K : PySem.W.Frag} {mg : Str → Option Value} {base : Heap} {a : Ad} {d : Fd}
def three (c : Int) : List Nat := (numL (1000 + c.toNat)).drop 1
def winS (cs : List Int) : Str := ⟨(35 :: (cs.flatMap three ++ [59])).toArray⟩
def sp_law_three (K : PySem.W.Frag) : Sp := fun vs H Q _ => ∃ c : Int, vs = [.int c] ∧ 0 ≤ c ∧ c ≤ 996 ∧ Q (.str ⟨(three c).toArray⟩) H
def sp_law_told (K : PySem.W.Frag) : Sp := fun vs H Q _ => ∃ z : Str, vs = [.str z] ∧ pr z ∧ z.length ≤ 60000 ∧ ∀ v H', Same H H' → Tp K H' v (encO (toldL (tl z))) → Q v H'
def sp_law_window (K : PySem.W.Frag) : Sp := fun vs H Q _ => ∃ (a : Addr) (cs : List Int), vs = [.ref a] ∧ SqT K H a (cs.map V.int) ∧ cs.length ≤ 1000 ∧ (∀ c ∈ cs, 0 ≤ c ∧ c ≤ 996) ∧ ∀ H', Same H H' → Q (.str (winS cs)) H'
def sp_law_windows (K : PySem.W.Frag) : Sp := fun vs H Q _ => ∃ z : Str, vs = [.str z] ∧ pr z ∧ z.length ≤ 60000 ∧ ∀ p xs H', Same H H' → H p = none → H' p = some (.lst xs) → TpAll K H' xs ((wl (tl z) 0 (z.length - 121)).map encW) → Q (.ref p) H'
theorem ok_law_three (T : Txt K mg a d)  : FnOk P w K mg base CX0 1 a.law_three d.law_three ["cell"] (sp_law_three K) := by
  refine T.F_law_three.ok sc_law_three (by walk_at "len") (fun cdv A outer s H vs Q E hr h => ?_)
  obtain ⟨c, rfl, h0, h1, k⟩ := h
  have hlg : (1000 + c).natAbs.log2 < 1920 := Nat.lt_of_lt_of_le (PySem.Flt.log2_lt_of (by decide : 0 < 11) (by omega : (1000 + c).natAbs < 2 ^ 11)) (by decide)
  have en : (1000 + c) = ((1000 + c.toNat : Nat) : Int) := by omega
  have et : tl (Str.ofString (toString (1000 + c))) = numL (1000 + c.toNat) := by rw [en]; exact tl_num _
  have hlen : (Str.ofString (toString (1000 + c))).length ≤ sizeLine := by
    rw [len_tl, et]
    exact sz (Nat.le_trans (numL_len (k := 4) (by decide) (by omega)) (by decide))
  refine ⟨_, (pss_one (ps_ret (pe_slice sl_str (pe_callTy call_str_int (by rfl) T.b_str (by decide +kernel) (pa_cons (pe_op op_add pe_int (pv 0)) pa_nil)) (po_some pe_int) po_none))), ?_⟩
  walk_at "rd"
  have e2 : cutS (Str.ofString (toString (1000 + c))) (some 1) none = ⟨(three c).toArray⟩ := ext_tl (by
    have := cut_lo (Str.ofString (toString (1000 + c))) 1
    rw [et] at this
    exact this)
  rw [← e2] at k
  exact k
end
end
section
local macro_rules | `(tactic| walk_at "len") => `(tactic| (intro vs H Q E h; first
  | (obtain ⟨_, e, _⟩ := h; subst e; rfl) | (obtain ⟨_, _, e, _⟩ := h; subst e; rfl) | (obtain ⟨_, _, _, e, _⟩ := h; subst e; rfl) | (obtain ⟨_, _, _, _, e, _⟩ := h; subst e; rfl)))
local macro_rules | `(tactic| walk_at "rd1") => `(tactic| first
  | refine ⟨_, rfl, ?_⟩
  | refine ⟨rfl, ?_⟩
  | refine ⟨trivial, ?_⟩
  | refine ⟨_, _, rfl, rfl, ?_⟩
  | refine ⟨_, rfl, rfl, ?_⟩
  | refine ⟨_, _, _, _, true, rfl, .ty _, .base (.str _), kit_ty (by decide +kernel), ?_⟩
  | refine ⟨_, _, _, _, true, rfl, .ty _, .base (.int _), kit_ty (by decide +kernel), ?_⟩
  | refine ⟨_, _, _, _, false, rfl, .ty _, .base (.int _), kit_ty (by decide +kernel), ?_⟩
  | refine ⟨_, rfl, rfl, trivial, ?_⟩
  | refine ⟨_, _, rfl, ?_⟩
  | refine ⟨_, _, rfl, rfl, by decide, ?_⟩
  | refine ⟨_, _, rfl, rfl, sz (by omega), ?_⟩
  | refine ⟨_, _, rfl, rfl, ⟨by decide, by decide⟩, ?_⟩
  | refine ⟨_, _, _, rfl, rfl, ?_⟩
  | refine ⟨_, _, _, rfl, ?_⟩
  | refine And.intro (Nat.zero_le _) ?_
  | refine And.intro (show List.length _ ≤ sizeLine from Nat.le_of_ble_eq_true rfl) ?_
  | refine And.intro (.inl ⟨rfl, _, SqL.of (by assumption)⟩) ?_
  | refine And.intro (by assumption) ?_
  | refine And.intro (sz (by omega)) ?_
  | refine And.intro (by omega) ?_
  | refine Or.inl ⟨_, rfl, ?_⟩
  | refine Or.inr ⟨_, rfl, ?_⟩
  | refine ⟨_, _, rfl, .inl (SqL.of (by assumption)), ?_⟩
  | refine ⟨_, _, rfl, .inl (by assumption), ?_⟩
  | refine ⟨_, _, rfl, .inr (by assumption), ?_⟩
  | refine ⟨_, _, _, _, rfl, rfl, SqL.of (by assumption), rfl, ?_⟩
  | refine ⟨_, _, _, _, rfl, rfl, SqL.of upd_same, rfl, ?_⟩
  | refine ⟨_, _, _, _, rfl, rfl, by assumption, rfl, ?_⟩
  | refine ⟨_, _, _, _, rfl, rfl, upd_same, rfl, ?_⟩
  | refine And.intro (show CPow _ _ from ⟨by decide, by decide, by decide⟩) ?_
  | refine And.intro (show CDiv _ _ from ⟨by decide, by decide⟩) ?_
  | refine And.intro (show CMul _ _ from .inl ⟨by decide, by decide⟩) ?_
  | refine And.intro (show CMul _ _ from .inr ⟨by decide, by decide⟩) ?_)
local macro_rules | `(tactic| walk_at "rd") => `(tactic| repeat (walk_at "rd1"))
section
variable {P : Program} {w : World} {K : PySem.W.Frag} {mg : Str → Option Value} {base : Heap} {a : Ad} {d : Fd}
theorem in_digits : ∀ c, c < 127 → decide (c ∈ (Str.ofString "0123456789").cps.toList) = dg c := by decide +kernel
def sgV (c : Nat) : V := .str ⟨#[c]⟩
def sgD (c : Nat) : PyData := .str ⟨#[c]⟩
theorem sg_all {K : PySem.W.Frag} {H : Hp} : ∀ l : List Nat, TpAll K H (l.map sgV) (l.map sgD)
  | [] => .nil
  | c :: l => .cons (.str _) (sg_all l)
theorem sg_shaped {l : List Nat} (h : ∀ c ∈ l, c ≤ 126) : SeqAt.shaped (.list (l.map sgD)) = true := flat_shaped (n := 2) (by
  show flatAll 1 (l.map sgD) = true
  rw [flatAll_iff]
  intro d hd
  obtain ⟨c, hc, rfl⟩ := List.mem_map.mp hd
  show PyData.strOk ⟨#[c]⟩ = true
  have := h c hc
  simp [PyData.strOk]
  omega) (by decide)
theorem eqv_nil {ds : List PyData} : PyData.eqv (.list ds) (.list []) = ds.isEmpty := by
  cases ds <;> simp [PyData.eqv, PyData.eqvAll]
theorem ok_law_told (T : Txt K mg a d)  : FnOk P w K mg base CX0 1 a.law_told d.law_told ["digits"] (sp_law_told K) := by
  refine T.F_law_told.ok sc_law_told (by walk_at "len") (fun cdv A outer s H vs Q E hr h => ?_)
  obtain ⟨z, rfl, hp, hz, k⟩ := h
  have hz1 : z.length ≤ sizeLine := sz (by omega)
  have hlt := len_tl z
  refine ⟨_, (pss_cons (ps_set (i := 1) sc_law_told.nd rfl (Or.inl rfl) (pe_lst pa_nil))
      (pss_cons (ps_for PassesOwn.never rfl (pi_range3 (by rfl) T.b_range (pa_cons pe_int (pa_cons (pe_callB call_len_str (by rfl) T.b_len (by decide +kernel) (pa_cons (pv 0) pa_nil)) (pa_cons pe_int pa_nil)))) (pg_name (i := 2) sc_law_told.nd rfl (Or.inl rfl))
      (pss_cons (ps_set (i := 3) sc_law_told.nd rfl (Or.inl rfl) (pe_slice sl_str (pv 0) (po_some (pv 2)) (po_some (pe_op op_add (pv 2) pe_int))))
      (pss_cons (ps_if (PW.pt (pw_or (pt_cmpR op_lt (pe_callB call_len_str (by rfl) T.b_len (by decide +kernel) (pa_cons (pv 3) pa_nil)) pe_int (nomark _)) (pw_or (pt_cmpR (op_neD hr.units) (pe_lc (own := [("sign", 4)]) rfl sc_law_told.nd (pi_str (pv 3)) (blkOk_by (N := n_law_told) (sc := defScope s_law_told) (by decide +kernel)) (fun _ _ _ _ _ => (pg_name (i := 4) sc_law_told.nd rfl (Or.inl rfl))) (fun _ _ _ _ _ => (pts_one (pt_cmpR op_notIn_sign (pv 4) pe_str rfl))) (fun _ _ _ _ _ => (pv 4))) (pe_lst pa_nil) (nomark _)) (pw_or1 (pt_cmpR op_gt (pe_callTy call_int_str (by rfl) T.b_int (by decide +kernel) (pa_cons (pv 3) pa_nil)) pe_int (nomark _)))))) (pss_one (ps_ret pe_non)) pss_nil)
      (pss_one (ps_expr (pe_bm PySem.F.plainAttrs_list PySem.F.slot_list_append PySem.F.type_list_append mt_append (pv 1) (pa_cons (pe_callTy call_int_str (by rfl) T.b_int (by decide +kernel) (pa_cons (pv 3) pa_nil)) pa_nil)))))))
      (pss_one (ps_ret (pe_callTy call_tuple_of (by rfl) T.b_tuple (by decide +kernel) (pa_cons (pv 1) pa_nil)))))), ?_⟩
  walk_at "rd"
  refine fun L hL => ?_
  walk_at "rd"
  refine ⟨_, _, _, _, rfl, rg3 z.length (by omega), ?_⟩
  have hn : (z.length + 2) / 3 = nck (tl z) := by unfold nck; rw [hlt]
  rw [hn]
  refine for_it walk_rangeC (fun i σ H' => ∃ v2 v3 v4 : Option V, σ = [some (.str z), some (.ref L), v2, v3, v4] ∧ Same H H' ∧ H' L = some (.lst ((vals (tl z) i).map V.int)) ∧ oks (tl z) i = true) ⟨none, none, none, rfl, Same.new hL, upd_same, rfl⟩ (fun _ _ _ _ _ => trivial) ?_ ?_
  · rintro i x σ H1 H2 hi ⟨v2, v3, v4, rfl, s1, hL1, ho⟩ ⟨rfl, rfl⟩
    walk_at "rd"
    rw [cut_ck]
    have hcm : ∀ c ∈ ck (tl z) i, 32 ≤ c ∧ c ≤ 126 := fun c hc => hp c (List.mem_of_mem_drop (List.mem_of_mem_take hc))
    have hcl : (ck (tl z) i).length ≤ 3 := by unfold ck; rw [List.length_take]; omega
    have hbad : okc (ck (tl z) i) = false → toldL (tl z) = none := told_bad hi
    have hoks : oks (tl z) (i + 1) = okc (ck (tl z) i) := by rw [oks_succ, ho, Bool.true_and]
    have hvs : vals (tl z) (i + 1) = vals (tl z) i ++ [((digv (ck (tl z) i) : Nat) : Int)] := vals_succ
    generalize ck (tl z) i = t3 at hcm hcl hbad hoks hvs
    have hl3 : (⟨t3.toArray⟩ : Str).length = t3.length := by show t3.toArray.size = _; simp
    have hc1 : (⟨t3.toArray⟩ : Str).length ≤ sizeLine := sz (by omega)
    walk_at "rd"
    refine iteB (fun c => ?_) (fun c => ?_)
    · have c' := of_decide_eq_true c
      rw [hbad (by unfold okc; rw [decide_eq_false (by omega)]; rfl)] at k
      exact k _ _ s1 .non
    have c3 : t3.length = 3 := by have := of_decide_eq_false c; omega
    walk_at "rd"
    refine fun D hD => lc_it walk_str (fun j H' => Same H2 H' ∧ H' D = some (.lst (((t3.take j).filter fun c => !dg c).map sgV))) ⟨Same.new hD, upd_same⟩ (fun _ _ _ _ => trivial) ?_ ?_
    · rintro j x H3 H4 hj ⟨s3, hD3⟩ ⟨rfl, c, hc, rfl⟩
      have hc' : t3[j]? = some c := by simpa using hc
      have hcb := hcm c (List.mem_of_getElem? hc')
      walk_at "rd"
      rw [in_digits c (by omega)]
      refine iteB (fun h1 => ?_) (fun h1 => ?_)
      · walk_at "rd"
        refine ⟨_, hD3, szl (by rw [List.length_map]; exact Nat.le_trans (List.length_filter_le _ _) (by rw [List.length_take]; omega)), fun b o e => ?_, ?_⟩
        · rw [upd_ne (ne_of_none e hD)]; exact s3 b o e
        · rw [upd_same, take_snoc hc', List.filter_append, List.filter_cons_of_pos (by simpa using h1), List.map_append]; rfl
      · refine ⟨s3, ?_⟩
        rw [take_snoc hc', List.filter_append, List.filter_cons_of_neg (by simpa using h1), List.filter_nil, List.append_nil]
        exact hD3
    · rintro H3 ⟨s3, hD3⟩
      rw [show (⟨t3.toArray⟩ : Str).cps.size = t3.length from hl3, List.take_length] at hD3
      walk_at "rd"
      refine fun F hF => ?_
      refine ⟨_, _, dp_lst ((Same.new hF) _ _ hD3) (sg_all _), dp_lst upd_same .nil, sg_shaped (fun c hc => (hcm c (List.mem_filter.mp hc).1).2), rfl, ?_⟩
      walk_at "rd"
      rw [eqv_nil]
      have hL3 := (Same.new (o := .lst []) hF) _ _ (s3 _ _ hL1)
      have s4 : Same H (upd H3 F (.lst [])) := (s1.trans s3).trans (Same.new hF)
      refine iteB (fun h1 => ?_) (fun h1 => ?_)
      · have hnd : t3.all dg = false := by
          rw [Bool.eq_false_iff]
          intro g
          have : (t3.filter fun c => !dg c) = [] := List.filter_eq_nil_iff.mpr fun c hc => by simp [List.all_eq_true.mp g c hc]
          rw [this] at h1
          simp at h1
        rw [hbad (by unfold okc; rw [hnd]; simp)] at k
        exact k _ _ s4 .non
      · have hd : t3.all dg = true := by
          rw [List.all_eq_true]
          intro c hc
          have : (t3.filter fun c => !dg c) = [] := by simpa using h1
          simpa using List.filter_eq_nil_iff.mp this c hc
        have hint := int_ck hd (by intro e; rw [e] at c3; cases c3) (by omega)
        walk_at "rd"
        refine ⟨_, _, rfl, hint, by omega, ?_⟩
        walk_at "rd"
        refine iteB (fun h2 => ?_) (fun h2 => ?_)
        · have h2' := of_decide_eq_true h2
          rw [hbad (by unfold okc; rw [decide_eq_false (show ¬ digv t3 ≤ 996 by omega)]; simp)] at k
          exact k _ _ s4 .non
        · have h2' := of_decide_eq_false h2
          walk_at "rd"
          refine ⟨_, _, rfl, hint, by omega, ?_⟩
          refine ⟨_, _, _, rfl, rfl, hL3, szl (by rw [List.length_map, vals_length]; have : nck (tl z) ≤ 30000 := by { unfold nck; omega }; omega), ?_⟩
          refine ⟨_, _, _, rfl, fun b o e => ?_, ?_, ?_⟩
          · rw [upd_ne (ne_of_none e hL)]; exact s4 b o e
          · rw [upd_same, hvs, List.map_append]; rfl
          · rw [hoks]; unfold okc; rw [hd, decide_eq_true c3, decide_eq_true (show digv t3 ≤ 996 by omega)]; rfl
  · rintro σ H1 ⟨v2, v3, v4, rfl, s1, hL1, ho⟩
    rw [told_all ho] at k
    walk_at "rd"
    refine ⟨_, _, rfl, .inl ⟨SqL.of hL1, fun l hl => ?_⟩⟩
    exact k _ _ (s1.trans (Same.new hl)) (tp_ints (SqT.of upd_same))
end
end
section
local macro_rules | `(tactic| walk_at "len") => `(tactic| (intro vs H Q E h; first
  | (obtain ⟨_, e, _⟩ := h; subst e; rfl) | (obtain ⟨_, _, e, _⟩ := h; subst e; rfl) | (obtain ⟨_, _, _, e, _⟩ := h; subst e; rfl) | (obtain ⟨_, _, _, _, e, _⟩ := h; subst e; rfl)))
local macro_rules | `(tactic| walk_at "rd1") => `(tactic| first
  | refine ⟨_, rfl, ?_⟩
  | refine ⟨rfl, ?_⟩
  | refine ⟨trivial, ?_⟩
  | refine ⟨_, _, rfl, rfl, ?_⟩
  | refine ⟨_, rfl, rfl, ?_⟩
  | refine ⟨_, _, _, _, true, rfl, .ty _, .base (.str _), kit_ty (by decide +kernel), ?_⟩
  | refine ⟨_, _, _, _, true, rfl, .ty _, .base (.int _), kit_ty (by decide +kernel), ?_⟩
  | refine ⟨_, _, _, _, false, rfl, .ty _, .base (.int _), kit_ty (by decide +kernel), ?_⟩
  | refine ⟨_, rfl, rfl, trivial, ?_⟩
  | refine ⟨_, _, rfl, ?_⟩
  | refine ⟨_, _, rfl, rfl, by decide, ?_⟩
  | refine ⟨_, _, rfl, rfl, sz (by omega), ?_⟩
  | refine ⟨_, _, rfl, rfl, ⟨by decide, by decide⟩, ?_⟩
  | refine ⟨_, _, _, rfl, rfl, ?_⟩
  | refine ⟨_, _, _, rfl, ?_⟩
  | refine And.intro (Nat.zero_le _) ?_
  | refine And.intro (show List.length _ ≤ sizeLine from Nat.le_of_ble_eq_true rfl) ?_
  | refine And.intro (.inl ⟨rfl, _, SqL.of (by assumption)⟩) ?_
  | refine And.intro (by assumption) ?_
  | refine And.intro (sz (by omega)) ?_
  | refine And.intro (by omega) ?_
  | refine Or.inl ⟨_, rfl, ?_⟩
  | refine Or.inr ⟨_, rfl, ?_⟩
  | refine ⟨_, _, rfl, .inl (SqL.of (by assumption)), ?_⟩
  | refine ⟨_, _, rfl, .inl (by assumption), ?_⟩
  | refine ⟨_, _, rfl, .inr (by assumption), ?_⟩
  | refine ⟨_, _, _, _, rfl, rfl, SqL.of (by assumption), rfl, ?_⟩
  | refine ⟨_, _, _, _, rfl, rfl, SqL.of upd_same, rfl, ?_⟩
  | refine ⟨_, _, _, _, rfl, rfl, by assumption, rfl, ?_⟩
  | refine ⟨_, _, _, _, rfl, rfl, upd_same, rfl, ?_⟩
  | refine And.intro (show CPow _ _ from ⟨by decide, by decide, by decide⟩) ?_
  | refine And.intro (show CDiv _ _ from ⟨by decide, by decide⟩) ?_
  | refine And.intro (show CMul _ _ from .inl ⟨by decide, by decide⟩) ?_
  | refine And.intro (show CMul _ _ from .inr ⟨by decide, by decide⟩) ?_)
local macro_rules | `(tactic| walk_at "rd") => `(tactic| repeat (walk_at "rd1"))
section
variable {P : Program} {w : World} {K : PySem.W.Frag} {mg : Str → Option Value} {base : Heap} {a : Ad} {d : Fd}
local macro_rules | `(tactic| walk_at "rd1") => `(tactic| first
  | refine And.intro ⟨_, rfl⟩ ?_
  | refine And.intro ⟨_, by assumption⟩ ?_
  | refine And.intro ⟨_, SqL.of (by assumption)⟩ ?_)
theorem joinL_nil : ∀ l : List (List Nat), joinL [] l = l.flatten
  | [] => rfl
  | [x] => by simp [joinL]
  | x :: y :: r => by
    have := joinL_nil (y :: r)
    simp [joinL, this]
def thr (c : Int) : Str := ⟨(three c).toArray⟩
theorem three_len {c : Int} (h0 : 0 ≤ c) (h1 : c ≤ 996) : (three c).length ≤ 3 := by
  unfold three
  rw [List.length_drop]
  have := numL_len (n := 1000 + c.toNat) (k := 4) (by decide) (by omega)
  omega
theorem thr_sum : ∀ cs : List Int, (∀ c ∈ cs, 0 ≤ c ∧ c ≤ 996) → ((cs.map thr).map fun x => x.length).sum ≤ 3 * cs.length
  | [], _ => by simp
  | c :: r, h => by
    have h1 := three_len (h c (by simp)).1 (h c (by simp)).2
    have h2 := thr_sum r fun c hc => h c (List.mem_cons_of_mem _ hc)
    have h3 : (thr c).length = (three c).length := by show (three c).toArray.size = _; simp
    simp only [List.map_cons, List.sum_cons, List.length_cons]
    omega
theorem flat_len : ∀ cs : List Int, (∀ c ∈ cs, 0 ≤ c ∧ c ≤ 996) → (cs.flatMap three).length ≤ 3 * cs.length
  | [], _ => by simp
  | c :: r, h => by
    have h1 := three_len (h c (by simp)).1 (h c (by simp)).2
    have h2 := flat_len r fun c hc => h c (List.mem_cons_of_mem _ hc)
    rw [List.flatMap_cons, List.length_append, List.length_cons]
    omega
theorem join_thr (cs : List Int) : tl (Txt.join "" (cs.map thr)) = cs.flatMap three := by
  rw [join_eq, tl_join, show tl ("" : Str) = [] from rfl, joinL_nil, List.map_map, ← List.flatMap_def]
  rfl
theorem ok_law_window (T : Txt K mg a d) (G_law_three : FnOk P w K mg base CX0 1 a.law_three d.law_three ["cell"] (sp_law_three K)) : FnOk P w K mg base CX0 2 a.law_window d.law_window ["cells"] (sp_law_window K) := by
  refine T.F_law_window.ok sc_law_window (by walk_at "len") (fun cdv A outer s H vs Q E hr h => ?_)
  obtain ⟨l, cs, rfl, hS, hl, hc, k⟩ := h
  refine ⟨_, (pss_one (ps_ret (pe_op op_add_str (pe_op op_add_str pe_str (pe_join pe_str (pe_lc (own := [("cell", 1)]) rfl sc_law_window.nd (pi_tup (pv 0)) (blkOk_by (N := n_law_window) (sc := defScope s_law_window) (by decide +kernel)) (fun _ _ _ _ _ => (pg_name (i := 1) sc_law_window.nd rfl (Or.inl rfl))) (fun _ _ _ _ _ => pts_nil) (fun _ _ _ _ _ => (pe_call G_law_three (hr.mono (by decide)) (by rfl) T.g_law_three T.k_law_three T.B_law_three .nil pass0 (pa_cons (pv 1) pa_nil)))))) pe_str))), ?_⟩
  walk_at "rd"
  refine fun D hD => lc_it walk_tup (fun i H' => Same H H' ∧ H' D = some (.lst (((cs.take i).map thr).map V.str))) ⟨Same.new hD, upd_same⟩ (fun i H' _ ⟨s1, _⟩ => kt_t (Kt.of s1) hS) ?_ ?_
  · rintro i x H1 H2 hi ⟨s1, hD1⟩ ⟨rfl, hx⟩
    rw [List.length_map] at hi
    have hci : cs[i]? = some cs[i] := List.getElem?_eq_getElem hi
    rw [List.getElem?_map, hci] at hx
    obtain rfl : x = V.int cs[i] := (Option.some.inj hx).symm
    have hb := hc cs[i] (List.mem_of_getElem? hci)
    walk_at "rd"
    refine ⟨_, hD1, szl (by rw [List.length_map, List.length_map, List.length_take]; omega), fun b o e => ?_, ?_⟩
    · rw [upd_ne (ne_of_none e hD)]; exact s1 b o e
    · rw [upd_same, take_snoc hci, List.map_append, List.map_append]; rfl
  rintro H1 ⟨s1, hD1⟩
  rw [List.length_map, List.take_length] at hD1
  have hsum := thr_sum cs hc
  have hj : (Txt.join "" (cs.map thr)).length ≤ 3 * cs.length := by rw [len_tl, join_thr]; exact flat_len cs hc
  have l1 : (Str.ofString "#").length = 1 := rfl
  have l2 : (Str.ofString ";").length = 1 := rfl
  have l3 := len_app (Str.ofString "#") (Txt.join "" (cs.map thr))
  refine ⟨_, _, cs.map thr, rfl, rfl, .inl (SqL.of hD1), ?_, ?_⟩
  · rw [show (Str.ofString "").length = 0 from rfl, Nat.mul_zero]; omega
  walk_at "rd"
  have e : Str.ofString "#" ++ Txt.join "" (cs.map thr) ++ Str.ofString ";" = winS cs := ext_tl (by
    rw [tl_append, tl_append, join_thr]
    show [35] ++ cs.flatMap three ++ [59] = 35 :: (cs.flatMap three ++ [59])
    rfl)
  rw [← e] at k
  exact k H1 s1
theorem ok_law_windows (T : Txt K mg a d) (G_law_told : FnOk P w K mg base CX0 1 a.law_told d.law_told ["digits"] (sp_law_told K)) : FnOk P w K mg base CX0 2 a.law_windows d.law_windows ["text"] (sp_law_windows K) := by
  refine T.F_law_windows.ok sc_law_windows (by walk_at "len") (fun cdv A outer s H vs Q E hr h => ?_)
  obtain ⟨z, rfl, hp, hz, k⟩ := h
  have hz1 : z.length ≤ sizeLine := sz (by omega)
  have hlt := len_tl z
  refine ⟨_, (pss_cons (ps_set (i := 1) sc_law_windows.nd rfl (Or.inl rfl) (pe_lst pa_nil))
      (pss_cons (ps_for PassesOwn.never rfl (pi_range1 (by rfl) T.b_range (pa_cons (pe_op op_sub (pe_callB call_len_str (by rfl) T.b_len (by decide +kernel) (pa_cons (pv 0) pa_nil)) pe_int) pa_nil)) (pg_name (i := 2) sc_law_windows.nd rfl (Or.inl rfl))
      (pss_one (ps_if (PW.pt (pw_and (pt_cmpR op_eq (pe_ix ix_str (pv 0) (pv 2) (fun _ _ => rfl)) pe_str (nomark _)) (pw_and1 (pt_cmpR op_eq (pe_ix ix_str (pv 0) (pe_op op_add (pv 2) pe_int) (fun _ _ => rfl)) pe_str (nomark _))))) (pss_cons (ps_set (i := 3) sc_law_windows.nd rfl (Or.inl rfl) (pe_call G_law_told (hr.mono (by decide)) (by rfl) T.g_law_told T.k_law_told T.B_law_told .nil pass0 (pa_cons (pe_slice sl_str (pv 0) (po_some (pe_op op_add (pv 2) pe_int)) (po_some (pe_op op_add (pv 2) pe_int))) pa_nil)))
      (pss_one (ps_if (pt_cmpR op_notN (pv 3) pe_non (nomark _)) (pss_one (ps_expr (pe_bm PySem.F.plainAttrs_list PySem.F.slot_list_append PySem.F.type_list_append mt_append (pv 1) (pa_cons (pe_tup (pa_cons (pv 2) (pa_cons (pv 3) pa_nil))) pa_nil)))) pss_nil))) pss_nil)))
      (pss_one (ps_ret (pv 1))))), ?_⟩
  walk_at "rd"
  refine fun L hL => ?_
  walk_at "rd"
  refine for_it walk_range (fun i σ H' => ∃ (v2 v3 : Option V) (xs : List V), σ = [some (.str z), some (.ref L), v2, v3] ∧ Same H H' ∧ H' L = some (.lst xs) ∧ TpAll K H' xs ((wl (tl z) 0 i).map encW)) ⟨none, none, [], rfl, Same.new hL, upd_same, .nil⟩ (fun _ _ _ _ _ => trivial) ?_ ?_
  · rintro i x σ H1 H2 hi ⟨v2, v3, xs, rfl, s1, hL1, t1⟩ ⟨rfl, rfl⟩
    obtain ⟨c1, hc1⟩ : ∃ c, (tl z)[i]? = some c := ⟨_, List.getElem?_eq_getElem (by omega)⟩
    obtain ⟨c2, hc2⟩ : ∃ c, (tl z)[i + 121]? = some c := ⟨_, List.getElem?_eq_getElem (by omega)⟩
    have no : ¬ ((tl z)[i]? = some 35 ∧ (tl z)[i + 121]? = some 59) → winAt (tl z) i = none := fun g => by unfold winAt; rw [if_neg g]
    have keep : winAt (tl z) i = none → TpAll K H2 xs ((wl (tl z) 0 (i + 1)).map encW) := fun g => by
      rw [wl_succ (by omega)]
      unfold wf
      rw [g]
      simpa using t1
    have hl1 : xs.length ≤ 60000 := by rw [t1.length, List.length_map]; exact Nat.le_trans wl_length (by omega)
    walk_at "rd"
    refine ⟨_, (i : Int), c1, rfl, by show V.int ((0 : Int) + i) = V.int i; rw [Int.zero_add], hz1, atI_nat hc1, ?_⟩
    walk_at "rd"
    refine iteB (fun h1 => ?_) (fun h1 => ?_)
    rotate_left
    · refine ⟨_, _, xs, rfl, s1, hL1, keep (no ?_)⟩
      rintro ⟨g, _⟩
      rw [hc1] at g
      rw [(sgn (s := "#") (k := 35) rfl).mpr (Option.some.inj g)] at h1
      simp at h1
    have g1 : c1 = 35 := (sgn (s := "#") (k := 35) rfl).mp (by simpa using h1)
    walk_at "rd"
    refine ⟨_, ((i + 121 : Nat) : Int), c2, rfl, by show V.int ((0 : Int) + i + 121) = _; congr 1; omega, hz1, atI_nat hc2, ?_⟩
    walk_at "rd"
    refine iteB (fun h2 => ?_) (fun h2 => ?_)
    rotate_left
    · refine ⟨_, _, xs, rfl, s1, hL1, keep (no ?_)⟩
      rintro ⟨_, g⟩
      rw [hc2] at g
      rw [(sgn (s := ";") (k := 59) rfl).mpr (Option.some.inj g)] at h2
      simp at h2
    have g2 : c2 = 59 := (sgn (s := ";") (k := 59) rfl).mp (by simpa using h2)
    walk_at "rd"
    have ec : tl (cutS z (some ((0 : Int) + i + 1)) (some ((0 : Int) + i + 121))) = ((tl z).drop (i + 1)).take 120 := by
      rw [show ((0 : Int) + i + 1) = ((i + 1 : Nat) : Int) by omega, show ((0 : Int) + i + 121) = ((i + 121 : Nat) : Int) by omega, cut_nat, show i + 121 - (i + 1) = 120 by omega]
    have ew0 : winAt (tl z) i = toldL (((tl z).drop (i + 1)).take 120) := by
      unfold winAt
      rw [if_pos ⟨by rw [hc1, g1], by rw [hc2, g2]⟩]
    refine ⟨pr_cut hp _ _, Nat.le_trans (cutS_length _ _ _) hz, fun v H3 s2 t2 => ?_⟩
    rw [ec, ← ew0] at t2
    have hL2 := s2 _ _ hL1
    have t1' := t1.keep (Kt.of s2)
    cases ew : winAt (tl z) i with
    | none =>
      rw [ew] at t2
      cases t2
      walk_at "rd"
      exact ⟨_, _, xs, rfl, s1.trans s2, hL2, (keep ew).keep (Kt.of s2)⟩
    | some c =>
      rw [ew] at t2
      have t2' : Tp K H3 v (encT c) := t2
      cases t2 with
      | @tup aa ys ds hs ha =>
      walk_at "rd"
      refine fun T2 hT => ?_
      rw [show (fun i : Nat => V.int ((0 : Int) + (i : Int))) i = V.int (i : Int) by show V.int ((0 : Int) + i) = _; rw [Int.zero_add]]
      have nLT : L ≠ T2 := ne_of_none hL2 hT
      refine ⟨_, _, _, rfl, rfl, (upd_ne nLT).trans hL2, szl (by omega), ?_⟩
      have s3 : Same H (upd (upd H3 T2 (.tup [.int i, .ref aa])) L (.lst (xs ++ [.ref T2]))) := fun q o g => by
        rw [upd_ne (ne_of_none g hL), upd_ne (ne_of_none ((s1.trans s2) q o g) hT)]
        exact (s1.trans s2) q o g
      refine ⟨_, _, _, rfl, s3, upd_same, ?_⟩
      rw [wl_succ (by omega)]
      unfold wf
      rw [ew, List.map_append]
      have kk : Kt H3 (upd (upd H3 T2 (.tup [.int i, .ref aa])) L (.lst (xs ++ [.ref T2]))) := (Kt.of (Same.new hT)).trans (Kt.lst (.inr ⟨xs, (upd_ne nLT).trans hL2⟩))
      refine (t1'.keep kk).snoc (.tup (SqT.of ((upd_ne nLT.symm).trans upd_same)) (.cons (.int _) (.cons (t2'.keep kk) .nil)))
  rintro σ H1 ⟨v2, v3, xs, rfl, s1, hL1, t1⟩
  walk_at "rd"
  have hn : ((z.length : Int) - 121).toNat = z.length - 121 := by omega
  rw [hn] at t1
  exact k L xs H1 s1 hL hL1 t1
end
end
section
local macro_rules | `(tactic| walk_at "len") => `(tactic| (intro vs H Q E h; first
  | (obtain ⟨_, e, _⟩ := h; subst e; rfl) | (obtain ⟨_, _, e, _⟩ := h; subst e; rfl) | (obtain ⟨_, _, _, e, _⟩ := h; subst e; rfl) | (obtain ⟨_, _, _, _, e, _⟩ := h; subst e; rfl)))
local macro_rules | `(tactic| walk_at "rd1") => `(tactic| first
  | refine ⟨_, rfl, ?_⟩
  | refine ⟨rfl, ?_⟩
  | refine ⟨trivial, ?_⟩
  | refine ⟨_, _, rfl, rfl, ?_⟩
  | refine ⟨_, rfl, rfl, ?_⟩
  | refine ⟨_, _, _, _, true, rfl, .ty _, .base (.str _), kit_ty (by decide +kernel), ?_⟩
  | refine ⟨_, _, _, _, true, rfl, .ty _, .base (.int _), kit_ty (by decide +kernel), ?_⟩
  | refine ⟨_, _, _, _, false, rfl, .ty _, .base (.int _), kit_ty (by decide +kernel), ?_⟩
  | refine ⟨_, rfl, rfl, trivial, ?_⟩
  | refine ⟨_, _, rfl, ?_⟩
  | refine ⟨_, _, rfl, rfl, by decide, ?_⟩
  | refine ⟨_, _, rfl, rfl, sz (by omega), ?_⟩
  | refine ⟨_, _, rfl, rfl, ⟨by decide, by decide⟩, ?_⟩
  | refine ⟨_, _, _, rfl, rfl, ?_⟩
  | refine ⟨_, _, _, rfl, ?_⟩
  | refine And.intro (Nat.zero_le _) ?_
  | refine And.intro (show List.length _ ≤ sizeLine from Nat.le_of_ble_eq_true rfl) ?_
  | refine And.intro (.inl ⟨rfl, _, SqL.of (by assumption)⟩) ?_
  | refine And.intro (by assumption) ?_
  | refine And.intro (sz (by omega)) ?_
  | refine And.intro (by omega) ?_
  | refine Or.inl ⟨_, rfl, ?_⟩
  | refine Or.inr ⟨_, rfl, ?_⟩
  | refine ⟨_, _, rfl, .inl (SqL.of (by assumption)), ?_⟩
  | refine ⟨_, _, rfl, .inl (by assumption), ?_⟩
  | refine ⟨_, _, rfl, .inr (by assumption), ?_⟩
  | refine ⟨_, _, _, _, rfl, rfl, SqL.of (by assumption), rfl, ?_⟩
  | refine ⟨_, _, _, _, rfl, rfl, SqL.of upd_same, rfl, ?_⟩
  | refine ⟨_, _, _, _, rfl, rfl, by assumption, rfl, ?_⟩
  | refine ⟨_, _, _, _, rfl, rfl, upd_same, rfl, ?_⟩
  | refine And.intro (show CPow _ _ from ⟨by decide, by decide, by decide⟩) ?_
  | refine And.intro (show CDiv _ _ from ⟨by decide, by decide⟩) ?_
  | refine And.intro (show CMul _ _ from .inl ⟨by decide, by decide⟩) ?_
  | refine And.intro (show CMul _ _ from .inr ⟨by decide, by decide⟩) ?_)
local macro_rules | `(tactic| walk_at "rd") => `(tactic| repeat (walk_at "rd1"))
section
variable {P : Program} {w : World} {K : PySem.W.Frag} {mg : Str → Option Value} {base : Heap} {a : Ad} {d : Fd}
theorem Dr.refl {t : Addr} {H : Hp} (h : Tray H t) : Dr t H H := ⟨But.refl t H, h, Kt.refl H⟩
theorem Dr.trans {t : Addr} {H H1 H2 : Hp} (a : Dr t H H1) (b : Dr t H1 H2) : Dr t H H2 := ⟨a.1.trans b.1, b.2.1, a.2.2.trans b.2.2⟩
theorem Dr.same {t : Addr} {H H1 : Hp} (h : Tray H t) (s : Same H H1) : Dr t H H1 := ⟨But.of s, h.same s, Kt.of s⟩
theorem Dr.new {t p : Addr} {H : Hp} {o : HO} (h : Tray H t) (hp : H p = none) : Dr t H (upd H p o) := Dr.same h (Same.new hp)
def sp_law_cells (K : PySem.W.Frag) : Sp := fun vs H Q _ => ∃ t : Addr, vs = [.ref t] ∧ Tray H t ∧ ∀ (p : Addr) (cs : List Int) (H' : Hp), Dr t H H' → SqT K H' p (cs.map V.int) → cs.length = 40 → (∀ c ∈ cs, 0 ≤ c ∧ c ≤ 996) → Q (.ref p) H'
def sp_law_bit (K : PySem.W.Frag) : Sp := fun vs H Q _ => ∃ t : Addr, vs = [.ref t] ∧ Tray H t ∧ ∀ (z : Str) (H' : Hp), pr z → z.length ≤ 300 → Dr t H H' → Q (.str z) H'
def sp_law_drawn (K : PySem.W.Frag) : Sp := fun vs H Q _ => ∃ (t : Addr) (m : Int), vs = [.ref t, .int m] ∧ Tray H t ∧ 0 ≤ m ∧ m ≤ 10 ∧ ∀ (z : Str) (H' : Hp), pr z → z.length ≤ 3000 → Dr t H H' → Q (.str z) H'
theorem Dr.mut {t L : Addr} {H H1 : Hp} {xs ys : List V} (d : Dr t H H1) (hf : ∀ b o, b ≠ t → H b = some o → b ≠ L) (hLt : L ≠ t) (hL : H1 L = some (.lst xs)) : Dr t H (upd H1 L (.lst ys)) := by
  obtain ⟨b1, ⟨x, y, z, h1⟩, k1⟩ := d
  refine ⟨fun b o n e => ?_, ⟨x, y, z, ?_⟩, k1.trans (Kt.lst (.inr ⟨_, hL⟩))⟩
  · rw [upd_ne (hf b o n e)]; exact b1 b o n e
  · rw [upd_ne hLt.symm]; exact h1
theorem Dr.fresh {t L : Addr} {H H1 : Hp} (d : Dr t H H1) (hL : H1 L = none) : ∀ b o, b ≠ t → H b = some o → b ≠ L := fun b o n e => ne_of_none (d.1 b o n e) hL
theorem Tray.ne {t L : Addr} {H : Hp} (h : Tray H t) (hL : H L = none) : L ≠ t := by
  obtain ⟨x, y, z, h⟩ := h
  exact (ne_of_none h hL).symm
theorem ok_law_cells (T : Txt K mg a d) (G_law_pluck : FnOk P w K mg base CX0 1 a.law_pluck d.law_pluck ["tray", "total"] (sp_law_pluck K)) (G_law_some : FnOk P w K mg base CX0 2 a.law_some d.law_some ["tray", "items"] (sp_law_some K)) : FnOk P w K mg base CX0 3 a.law_cells d.law_cells ["tray"] (sp_law_cells K) := by
  refine T.F_law_cells.ok sc_law_cells (by walk_at "len") (fun cdv A outer s H vs Q E hr h => ?_)
  obtain ⟨t, rfl, hT, k⟩ := h
  refine ⟨_, (pss_cons (ps_par (i := 1) (j := 2) (by rfl) sc_law_cells.nd rfl rfl (by decide) rfl rfl (pa_cons (pe_call G_law_pluck (hr.mono (by decide)) (by rfl) T.g_law_pluck T.k_law_pluck T.B_law_pluck .nil pass0 (pa_cons (pv 0) (pa_cons pe_int pa_nil))) (pa_cons (pe_lst pa_nil) pa_nil)) (by rfl))
      (pss_cons (ps_for PassesOwn.never rfl (pi_range1 (by rfl) T.b_range (pa_cons pe_int pa_nil)) (pg_name (i := 3) sc_law_cells.nd rfl (Or.inl rfl))
      (pss_one (ps_expr (pe_bm PySem.F.plainAttrs_list PySem.F.slot_list_append PySem.F.type_list_append mt_append (pv 2) (pa_cons (pe_ifExp (pt_cmpR op_eq (pv 1) pe_int (nomark _)) (pe_call G_law_pluck (hr.mono (by decide)) (by rfl) T.g_law_pluck T.k_law_pluck T.B_law_pluck .nil pass0 (pa_cons (pv 0) (pa_cons pe_int pa_nil))) (pe_call G_law_some (hr.mono (by decide)) (by rfl) T.g_law_some T.k_law_some T.B_law_some .nil pass0 (pa_cons (pv 0) (pa_cons (pe_lst (pa_cons pe_int (pa_cons pe_int (pa_cons pe_int (pa_cons pe_int pa_nil))))) pa_nil)))) pa_nil)))))
      (pss_one (ps_ret (pe_callTy call_tuple_of (by rfl) T.b_tuple (by decide +kernel) (pa_cons (pv 2) pa_nil)))))), ?_⟩
  walk_at "rd"
  rintro r H1 h0 h1 d1
  walk_at "rd"
  refine fun L hL => ?_
  have hLt := d1.2.1.ne hL
  have hfr := d1.fresh hL
  walk_at "rd"
  refine for_it walk_range (fun i σ H' => ∃ (v3 : Option V) (cs : List Int), σ = [some (.ref t), some (.int r), some (.ref L), v3] ∧ Dr t H H' ∧ H' L = some (.lst (cs.map V.int)) ∧ cs.length = i ∧ ∀ c ∈ cs, 0 ≤ c ∧ c ≤ 996)
    ⟨none, [], rfl, d1.trans (Dr.new d1.2.1 hL), upd_same, rfl, fun _ h => nomatch h⟩ (fun _ _ _ _ _ => trivial) ?_ ?_
  · rintro i x σ H2 H3 hi ⟨v3, cs, rfl, d2, hL2, hlen, hb⟩ ⟨rfl, rfl⟩
    have hi' : i < 40 := hi
    have hT2 := d2.2.1
    have fin : ∀ (c : Int) (H4 : Hp), Dr t H3 H4 → 0 ≤ c → c ≤ 996 → ∃ (v3 : Option V) (cs' : List Int), [some (V.ref t), some (.int r), some (.ref L), some (.int (0 + (i : Int)))] = [some (V.ref t), some (.int r), some (.ref L), v3] ∧ Dr t H (upd H4 L (.lst (cs.map V.int ++ [.int c]))) ∧
        (upd H4 L (.lst (cs.map V.int ++ [.int c]))) L = some (.lst (cs'.map V.int)) ∧ cs'.length = i + 1 ∧ ∀ c ∈ cs', 0 ≤ c ∧ c ≤ 996 := fun c H4 d4 c0 c1 => by
      refine ⟨_, cs ++ [c], rfl, Dr.mut (d2.trans d4) hfr hLt (d4.1 _ _ hLt hL2), by rw [upd_same, List.map_append]; rfl, by rw [List.length_append, hlen]; rfl, fun y hy => ?_⟩
      rcases List.mem_append.mp hy with q | q
      · exact hb y q
      · obtain rfl : y = c := by simpa using q
        exact ⟨c0, c1⟩
    walk_at "rd"
    refine iteB (fun c => ?_) (fun c => ?_)
    · walk_at "rd"
      rintro y H4 y0 y1 d4
      walk_at "rd"
      refine ⟨_, _, _, rfl, rfl, d4.1 _ _ hLt hL2, szl (by rw [List.length_map, hlen]; omega), ?_⟩
      exact fin y H4 d4 y0 (by omega)
    · walk_at "rd"
      refine fun M hM => ?_
      have hMt := hT2.ne hM
      have dM : Dr t H3 (upd H3 M (.lst [.int 0, .int 7, .int 996, .int 99])) := Dr.new hT2 hM
      refine ⟨t, M, _, rfl, dM.2.1, hMt, upd_same, by simp, by decide, fun y H4 hy d4 => ?_⟩
      obtain ⟨c, rfl, c0, c1⟩ : ∃ c : Int, y = .int c ∧ 0 ≤ c ∧ c ≤ 996 := by
        simp only [List.mem_cons, List.not_mem_nil, or_false] at hy
        rcases hy with rfl | rfl | rfl | rfl
        · exact ⟨0, rfl, by decide, by decide⟩
        · exact ⟨7, rfl, by decide, by decide⟩
        · exact ⟨996, rfl, by decide, by decide⟩
        · exact ⟨99, rfl, by decide, by decide⟩
      walk_at "rd"
      refine ⟨_, _, _, rfl, rfl, (dM.trans d4).1 _ _ hLt hL2, szl (by rw [List.length_map, hlen]; omega), ?_⟩
      exact fin c H4 (dM.trans d4) c0 c1
  · rintro σ H2 ⟨v3, cs, rfl, d2, hL2, hlen, hb⟩
    walk_at "rd"
    refine ⟨_, _, rfl, .inl ⟨SqL.of hL2, fun p hp => ?_⟩⟩
    exact k p cs _ (d2.trans (Dr.new d2.2.1 hp)) (SqT.of upd_same) hlen hb
end
end
section
local macro_rules | `(tactic| walk_at "len") => `(tactic| (intro vs H Q E h; first
  | (obtain ⟨_, e, _⟩ := h; subst e; rfl) | (obtain ⟨_, _, e, _⟩ := h; subst e; rfl) | (obtain ⟨_, _, _, e, _⟩ := h; subst e; rfl) | (obtain ⟨_, _, _, _, e, _⟩ := h; subst e; rfl)))
local macro_rules | `(tactic| walk_at "rd1") => `(tactic| first
  | refine ⟨_, rfl, ?_⟩
  | refine ⟨rfl, ?_⟩
  | refine ⟨trivial, ?_⟩
  | refine ⟨_, _, rfl, rfl, ?_⟩
  | refine ⟨_, rfl, rfl, ?_⟩
  | refine ⟨_, _, _, _, true, rfl, .ty _, .base (.str _), kit_ty (by decide +kernel), ?_⟩
  | refine ⟨_, _, _, _, true, rfl, .ty _, .base (.int _), kit_ty (by decide +kernel), ?_⟩
  | refine ⟨_, _, _, _, false, rfl, .ty _, .base (.int _), kit_ty (by decide +kernel), ?_⟩
  | refine ⟨_, rfl, rfl, trivial, ?_⟩
  | refine ⟨_, _, rfl, ?_⟩
  | refine ⟨_, _, rfl, rfl, by decide, ?_⟩
  | refine ⟨_, _, rfl, rfl, sz (by omega), ?_⟩
  | refine ⟨_, _, rfl, rfl, ⟨by decide, by decide⟩, ?_⟩
  | refine ⟨_, _, _, rfl, rfl, ?_⟩
  | refine ⟨_, _, _, rfl, ?_⟩
  | refine And.intro (Nat.zero_le _) ?_
  | refine And.intro (show List.length _ ≤ sizeLine from Nat.le_of_ble_eq_true rfl) ?_
  | refine And.intro (.inl ⟨rfl, _, SqL.of (by assumption)⟩) ?_
  | refine And.intro (by assumption) ?_
  | refine And.intro (sz (by omega)) ?_
  | refine And.intro (by omega) ?_
  | refine Or.inl ⟨_, rfl, ?_⟩
  | refine Or.inr ⟨_, rfl, ?_⟩
  | refine ⟨_, _, rfl, .inl (SqL.of (by assumption)), ?_⟩
  | refine ⟨_, _, rfl, .inl (by assumption), ?_⟩
  | refine ⟨_, _, rfl, .inr (by assumption), ?_⟩
  | refine ⟨_, _, _, _, rfl, rfl, SqL.of (by assumption), rfl, ?_⟩
  | refine ⟨_, _, _, _, rfl, rfl, SqL.of upd_same, rfl, ?_⟩
  | refine ⟨_, _, _, _, rfl, rfl, by assumption, rfl, ?_⟩
  | refine ⟨_, _, _, _, rfl, rfl, upd_same, rfl, ?_⟩
  | refine And.intro (show CPow _ _ from ⟨by decide, by decide, by decide⟩) ?_
  | refine And.intro (show CDiv _ _ from ⟨by decide, by decide⟩) ?_
  | refine And.intro (show CMul _ _ from .inl ⟨by decide, by decide⟩) ?_
  | refine And.intro (show CMul _ _ from .inr ⟨by decide, by decide⟩) ?_)
local macro_rules | `(tactic| walk_at "rd") => `(tactic| repeat (walk_at "rd1"))
section
variable {P : Program} {w : World} {K : PySem.W.Frag} {mg : Str → Option Value} {base : Heap} {a : Ad} {d : Fd}
def okS (v : V) : Bool := match v with
  | .str z => (tl z).all (fun c => decide (32 ≤ c) && decide (c ≤ 126)) && decide (z.length ≤ 10)
  | _ => false
theorem okS_all {xs : List V} (h : xs.all okS = true) {v : V} (hv : v ∈ xs) : ∃ z : Str, v = .str z ∧ pr z ∧ z.length ≤ 10 := by
  have g := List.all_eq_true.mp h v hv
  cases v with
  | str z =>
    simp only [okS, Bool.and_eq_true, List.all_eq_true, decide_eq_true_eq] at g
    exact ⟨z, rfl, g.1, g.2⟩
  | _ => simp [okS] at g
theorem pr_win {cs : List Int} : pr (winS cs) := fun c hc => by
  have hc' : c ∈ 35 :: (cs.flatMap three ++ [59]) := hc
  rcases List.mem_cons.mp hc' with rfl | q
  · decide
  · rcases List.mem_append.mp q with q | q
    · obtain ⟨i, _, q⟩ := List.mem_flatMap.mp q
      have := numL_digits (1000 + i.toNat) c (List.mem_of_mem_drop q)
      omega
    · obtain rfl : c = 59 := by simpa using q
      decide
theorem len_win {cs : List Int} (h : ∀ c ∈ cs, 0 ≤ c ∧ c ≤ 996) : (winS cs).length ≤ 3 * cs.length + 2 := by
  have := flat_len cs h
  rw [len_tl]
  show (35 :: (cs.flatMap three ++ [59])).length ≤ _
  rw [List.length_cons, List.length_append, List.length_cons, List.length_nil]
  omega
theorem ok_law_bit (T : Txt K mg a d) (G_law_cells : FnOk P w K mg base CX0 3 a.law_cells d.law_cells ["tray"] (sp_law_cells K)) (G_law_pluck : FnOk P w K mg base CX0 1 a.law_pluck d.law_pluck ["tray", "total"] (sp_law_pluck K)) (G_law_some : FnOk P w K mg base CX0 2 a.law_some d.law_some ["tray", "items"] (sp_law_some K)) (G_law_window : FnOk P w K mg base CX0 2 a.law_window d.law_window ["cells"] (sp_law_window K)) : FnOk P w K mg base CX0 4 a.law_bit d.law_bit ["tray"] (sp_law_bit K) := by
  refine T.F_law_bit.ok sc_law_bit (by walk_at "len") (fun cdv A outer s H vs Q E hr h => ?_)
  obtain ⟨t, rfl, hT, k⟩ := h
  refine ⟨_, (pss_cons (ps_par (i := 1) (j := 2) (by rfl) sc_law_bit.nd rfl rfl (by decide) rfl rfl (pa_cons (pe_call G_law_window (hr.mono (by decide)) (by rfl) T.g_law_window T.k_law_window T.B_law_window .nil pass0 (pa_cons (pe_call G_law_cells (hr.mono (by decide)) (by rfl) T.g_law_cells T.k_law_cells T.B_law_cells .nil pass0 (pa_cons (pv 0) pa_nil)) pa_nil)) (pa_cons (pe_call G_law_pluck (hr.mono (by decide)) (by rfl) T.g_law_pluck T.k_law_pluck T.B_law_pluck .nil pass0 (pa_cons (pv 0) (pa_cons pe_int pa_nil))) pa_nil)) (by rfl))
      (pss_cons (ps_if (pt_cmpR op_lt (pv 2) pe_int (nomark _)) (pss_one (ps_ret (pv 1))) pss_nil)
      (pss_cons (ps_set (i := 3) sc_law_bit.nd rfl (Or.inl rfl) (pe_call G_law_pluck (hr.mono (by decide)) (by rfl) T.g_law_pluck T.k_law_pluck T.B_law_pluck .nil pass0 (pa_cons (pv 0) (pa_cons pe_int pa_nil))))
      (pss_cons (ps_if (pt_cmpR op_eq (pv 2) pe_int (nomark _)) (pss_one (ps_ret (pe_slice sl_str (pv 1) po_none (po_some (pv 3))))) pss_nil)
      (pss_cons (ps_if (pt_cmpR op_eq (pv 2) pe_int (nomark _)) (pss_one (ps_ret (pe_slice sl_str (pv 1) (po_some (pv 3)) po_none))) pss_nil)
      (pss_cons (ps_if (pt_cmpR op_eq (pv 2) pe_int (nomark _)) (pss_one (ps_ret (pe_op op_add_str (pe_op op_add_str (pe_slice sl_str (pv 1) po_none (po_some (pv 3))) (pe_call G_law_some (hr.mono (by decide)) (by rfl) T.g_law_some T.k_law_some T.B_law_some .nil pass0 (pa_cons (pv 0) (pa_cons (pe_lst (pa_cons pe_str (pa_cons pe_str (pa_cons pe_str (pa_cons pe_str (pa_cons pe_str (pa_cons pe_str pa_nil))))))) pa_nil)))) (pe_slice sl_str (pv 1) (po_some (pe_op op_add (pv 3) pe_int)) po_none)))) pss_nil)
      (pss_cons (ps_if (pt_cmpR op_eq (pv 2) pe_int (nomark _)) (pss_one (ps_ret (pe_op op_add_str (pe_op op_add_str (pe_slice sl_str (pv 1) po_none (po_some (pv 3))) (pe_call G_law_some (hr.mono (by decide)) (by rfl) T.g_law_some T.k_law_some T.B_law_some .nil pass0 (pa_cons (pv 0) (pa_cons (pe_lst (pa_cons pe_str (pa_cons pe_str (pa_cons pe_str (pa_cons pe_str pa_nil))))) pa_nil)))) (pe_slice sl_str (pv 1) (po_some (pv 3)) po_none)))) pss_nil)
      (pss_one (ps_ret (pe_call G_law_some (hr.mono (by decide)) (by rfl) T.g_law_some T.k_law_some T.B_law_some .nil pass0 (pa_cons (pv 0) (pa_cons (pe_lst (pa_cons pe_str (pa_cons pe_str (pa_cons pe_str (pa_cons pe_str (pa_cons pe_str (pa_cons pe_str (pa_cons pe_str (pa_cons pe_str pa_nil))))))))) pa_nil)))))))))))), ?_⟩
  walk_at "rd"
  rintro p cs H1 d1 hcs hl hb
  refine ⟨p, cs, rfl, hcs, by omega, hb, fun H2 s2 => ?_⟩
  have hW : pr (winS cs) := pr_win
  have hWl := len_win hb
  have d2 := d1.trans (Dr.same d1.2.1 s2)
  generalize winS cs = W at hW hWl
  have hWs : W.length ≤ sizeLine := sz (by omega)
  have hT2 := d2.2.1
  have hcut : ∀ lo hi, (cutS W lo hi).length ≤ W.length := fun lo hi => cutS_length W lo hi
  walk_at "rd"
  rintro r H3 r0 r1 d3
  have d4 := d2.trans d3
  have hT4 := d4.2.1
  walk_at "rd"
  refine iteB (fun c => ?_) (fun c => ?_)
  · walk_at "rd"
    exact k W H3 hW (by omega) d4
  walk_at "rd"
  rintro q H4 q0 q1 d5
  have d6 := d4.trans d5
  have hT6 := d6.2.1
  walk_at "rd"
  refine iteB (fun c => ?_) (fun c => ?_)
  · walk_at "rd"
    exact k _ H4 (pr_cut hW _ _) (by have := hcut none (some q); omega) d6
  walk_at "rd"
  refine iteB (fun c => ?_) (fun c => ?_)
  · walk_at "rd"
    exact k _ H4 (pr_cut hW _ _) (by have := hcut (some q) none; omega) d6
  walk_at "rd"
  refine iteB (fun c => ?_) (fun c => ?_)
  · walk_at "rd"
    refine fun M hM => ?_
    have dM := Dr.new (o := .lst [.str "#", .str ";", .str "9", .str " ", .str "x", .str ""]) hT6 hM
    refine ⟨t, M, _, rfl, dM.2.1, hT6.ne hM, upd_same, by simp, by decide, fun y H5 hy d7 => ?_⟩
    obtain ⟨y, rfl, hy1, hy2⟩ := okS_all (by decide +kernel) hy
    have h1 := hcut none (some q)
    have h2 := hcut (some (q + 1)) none
    have h3 := len_app (cutS W none (some q)) y
    have h4 := len_app (cutS W none (some q) ++ y) (cutS W (some (q + 1)) none)
    walk_at "rd"
    exact k _ H5 (pr_app (pr_app (pr_cut hW _ _) hy1) (pr_cut hW _ _)) (by omega) (d6.trans (dM.trans d7))
  walk_at "rd"
  refine iteB (fun c => ?_) (fun c => ?_)
  · walk_at "rd"
    refine fun M hM => ?_
    have dM := Dr.new (o := .lst [.str "0", .str "#", .str ";", .str "997"]) hT6 hM
    refine ⟨t, M, _, rfl, dM.2.1, hT6.ne hM, upd_same, by simp, by decide, fun y H5 hy d7 => ?_⟩
    obtain ⟨y, rfl, hy1, hy2⟩ := okS_all (by decide +kernel) hy
    have h1 := hcut none (some q)
    have h2 := hcut (some q) none
    have h3 := len_app (cutS W none (some q)) y
    have h4 := len_app (cutS W none (some q) ++ y) (cutS W (some q) none)
    walk_at "rd"
    exact k _ H5 (pr_app (pr_app (pr_cut hW _ _) hy1) (pr_cut hW _ _)) (by omega) (d6.trans (dM.trans d7))
  walk_at "rd"
  refine fun M hM => ?_
  have dM := Dr.new (o := .lst [.str "", .str "#", .str ";", .str "12", .str "#;", .str "~ ", .str "#007", .str "997;"]) hT6 hM
  refine ⟨t, M, _, rfl, dM.2.1, hT6.ne hM, upd_same, by simp, by decide, fun y H5 hy d7 => ?_⟩
  obtain ⟨y, rfl, hy1, hy2⟩ := okS_all (by decide +kernel) hy
  exact k _ H5 hy1 (by omega) (d6.trans (dM.trans d7))
end
end
section
local macro_rules | `(tactic| walk_at "len") => `(tactic| (intro vs H Q E h; first
  | (obtain ⟨_, e, _⟩ := h; subst e; rfl) | (obtain ⟨_, _, e, _⟩ := h; subst e; rfl) | (obtain ⟨_, _, _, e, _⟩ := h; subst e; rfl) | (obtain ⟨_, _, _, _, e, _⟩ := h; subst e; rfl)))
local macro_rules | `(tactic| walk_at "rd1") => `(tactic| first
  | refine ⟨_, rfl, ?_⟩
  | refine ⟨rfl, ?_⟩
  | refine ⟨trivial, ?_⟩
  | refine ⟨_, _, rfl, rfl, ?_⟩
  | refine ⟨_, rfl, rfl, ?_⟩
  | refine ⟨_, _, _, _, true, rfl, .ty _, .base (.str _), kit_ty (by decide +kernel), ?_⟩
  | refine ⟨_, _, _, _, true, rfl, .ty _, .base (.int _), kit_ty (by decide +kernel), ?_⟩
  | refine ⟨_, _, _, _, false, rfl, .ty _, .base (.int _), kit_ty (by decide +kernel), ?_⟩
  | refine ⟨_, rfl, rfl, trivial, ?_⟩
  | refine ⟨_, _, rfl, ?_⟩
  | refine ⟨_, _, rfl, rfl, by decide, ?_⟩
  | refine ⟨_, _, rfl, rfl, sz (by omega), ?_⟩
  | refine ⟨_, _, rfl, rfl, ⟨by decide, by decide⟩, ?_⟩
  | refine ⟨_, _, _, rfl, rfl, ?_⟩
  | refine ⟨_, _, _, rfl, ?_⟩
  | refine And.intro (Nat.zero_le _) ?_
  | refine And.intro (show List.length _ ≤ sizeLine from Nat.le_of_ble_eq_true rfl) ?_
  | refine And.intro (.inl ⟨rfl, _, SqL.of (by assumption)⟩) ?_
  | refine And.intro (by assumption) ?_
  | refine And.intro (sz (by omega)) ?_
  | refine And.intro (by omega) ?_
  | refine Or.inl ⟨_, rfl, ?_⟩
  | refine Or.inr ⟨_, rfl, ?_⟩
  | refine ⟨_, _, rfl, .inl (SqL.of (by assumption)), ?_⟩
  | refine ⟨_, _, rfl, .inl (by assumption), ?_⟩
  | refine ⟨_, _, rfl, .inr (by assumption), ?_⟩
  | refine ⟨_, _, _, _, rfl, rfl, SqL.of (by assumption), rfl, ?_⟩
  | refine ⟨_, _, _, _, rfl, rfl, SqL.of upd_same, rfl, ?_⟩
  | refine ⟨_, _, _, _, rfl, rfl, by assumption, rfl, ?_⟩
  | refine ⟨_, _, _, _, rfl, rfl, upd_same, rfl, ?_⟩
  | refine And.intro (show CPow _ _ from ⟨by decide, by decide, by decide⟩) ?_
  | refine And.intro (show CDiv _ _ from ⟨by decide, by decide⟩) ?_
  | refine And.intro (show CMul _ _ from .inl ⟨by decide, by decide⟩) ?_
  | refine And.intro (show CMul _ _ from .inr ⟨by decide, by decide⟩) ?_)
local macro_rules | `(tactic| walk_at "rd") => `(tactic| repeat (walk_at "rd1"))
section
variable {P : Program} {w : World} {K : PySem.W.Frag} {mg : Str → Option Value} {base : Heap} {a : Ad} {d : Fd}
local macro_rules | `(tactic| walk_at "rd1") => `(tactic| first
  | refine And.intro ⟨_, rfl⟩ ?_
  | refine And.intro ⟨_, by assumption⟩ ?_
  | refine And.intro ⟨_, SqL.of (by assumption)⟩ ?_)
theorem pr_join {ys : List Str} (h : ∀ y ∈ ys, pr y) : pr (Txt.join "" ys) := fun c hc => by
  rw [join_eq, tl_join, show tl ("" : Str) = [] from rfl, joinL_nil] at hc
  obtain ⟨l, hl, hcl⟩ := List.mem_flatten.mp hc
  obtain ⟨y, hy, rfl⟩ := List.mem_map.mp hl
  exact h y hy c hcl
theorem len_join {n : Nat} : ∀ {ys : List Str}, (∀ y ∈ ys, y.length ≤ n) → (Txt.join "" ys).length ≤ n * ys.length ∧ (ys.map fun x => x.length).sum ≤ n * ys.length := fun {ys} h => by
  rw [len_tl, join_eq, tl_join, show tl ("" : Str) = [] from rfl, joinL_nil]
  induction ys with
  | nil => simp
  | cons y r ih =>
    have h1 := h y (by simp)
    have h2 := ih fun y hy => h y (List.mem_cons_of_mem _ hy)
    have h3 := len_tl y
    rw [List.map_cons, List.flatten_cons, List.length_append, List.map_cons, List.sum_cons, List.length_cons, Nat.mul_add, Nat.mul_one]
    omega
theorem ok_law_drawn (T : Txt K mg a d) (G_law_bit : FnOk P w K mg base CX0 4 a.law_bit d.law_bit ["tray"] (sp_law_bit K)) (G_law_pluck : FnOk P w K mg base CX0 1 a.law_pluck d.law_pluck ["tray", "total"] (sp_law_pluck K)) : FnOk P w K mg base CX0 5 a.law_drawn d.law_drawn ["tray", "many"] (sp_law_drawn K) := by
  refine T.F_law_drawn.ok sc_law_drawn (by walk_at "len") (fun cdv A outer s H vs Q E hr h => ?_)
  obtain ⟨t, m, rfl, hT, hm0, hm1, k⟩ := h
  refine ⟨_, (pss_one (ps_ret (pe_join pe_str (pe_lc (own := [("turn", 2)]) rfl sc_law_drawn.nd (pi_range1 (by rfl) T.b_range (pa_cons (pe_call G_law_pluck (hr.mono (by decide)) (by rfl) T.g_law_pluck T.k_law_pluck T.B_law_pluck .nil pass0 (pa_cons (pv 0) (pa_cons (pe_op op_add (pv 1) pe_int) pa_nil))) pa_nil)) (blkOk_by (N := n_law_drawn) (sc := defScope s_law_drawn) (by decide +kernel)) (fun _ _ _ _ _ => (pg_name (i := 2) sc_law_drawn.nd rfl (Or.inl rfl))) (fun _ _ _ _ _ => pts_nil) (fun _ _ _ _ _ => (pe_call G_law_bit (hr.mono (by decide)) (by rfl) T.g_law_bit T.k_law_bit T.B_law_bit .nil pass0 (pa_cons (pv 0) pa_nil))))))), ?_⟩
  walk_at "rd"
  rintro r H1 r0 r1 d1
  have hb : -2 ^ 62 ≤ r ∧ r < 2 ^ 62 := by omega
  have hT1 := d1.2.1
  walk_at "rd"
  refine fun D hD => ?_
  have hDt := hT1.ne hD
  have hfr := d1.fresh hD
  refine lc_it walk_range (fun i H' => ∃ ys : List Str, Dr t H H' ∧ H' D = some (.lst (ys.map V.str)) ∧ ys.length = i ∧ ∀ y ∈ ys, pr y ∧ y.length ≤ 300) ⟨[], d1.trans (Dr.new hT1 hD), upd_same, rfl, fun _ h => nomatch h⟩ (fun _ _ _ _ => trivial) ?_ ?_
  · rintro i x H2 H3 hi ⟨ys, d2, hD2, hlen, hy⟩ ⟨rfl, rfl⟩
    have hi' : i < r.toNat := hi
    have hT2 := d2.2.1
    walk_at "rd"
    refine fun z H4 hz hzl d4 => ?_
    have d5 := d2.trans d4
    refine ⟨_, d4.1 _ _ hDt hD2, szl (by rw [List.length_map, hlen]; omega), ys ++ [z], Dr.mut d5 hfr hDt (d4.1 _ _ hDt hD2), by rw [upd_same, List.map_append]; rfl, by rw [List.length_append, hlen]; rfl, fun y h => ?_⟩
    rcases List.mem_append.mp h with q | q
    · exact hy y q
    · obtain rfl : y = z := by simpa using q
      exact ⟨hz, hzl⟩
  · rintro H2 ⟨ys, d2, hD2, hlen, hy⟩
    obtain ⟨j1, j2⟩ := len_join (n := 300) fun y h => (hy y h).2
    have hr : ys.length ≤ 10 := by rw [hlen]; omega
    refine ⟨_, _, ys, rfl, rfl, .inl (SqL.of hD2), ?_, ?_⟩
    · rw [show (Str.ofString "").length = 0 from rfl, Nat.mul_zero]; omega
    · exact k _ H2 (pr_join fun y h => (hy y h).1) (by omega) d2
end
end
section
local macro_rules | `(tactic| walk_at "len") => `(tactic| (intro vs H Q E h; first
  | (obtain ⟨_, e, _⟩ := h; subst e; rfl) | (obtain ⟨_, _, e, _⟩ := h; subst e; rfl) | (obtain ⟨_, _, _, e, _⟩ := h; subst e; rfl) | (obtain ⟨_, _, _, _, e, _⟩ := h; subst e; rfl)))
local macro_rules | `(tactic| walk_at "rd1") => `(tactic| first
  | refine ⟨_, rfl, ?_⟩
  | refine ⟨rfl, ?_⟩
  | refine ⟨trivial, ?_⟩
  | refine ⟨_, _, rfl, rfl, ?_⟩
  | refine ⟨_, rfl, rfl, ?_⟩
  | refine ⟨_, _, _, _, true, rfl, .ty _, .base (.str _), kit_ty (by decide +kernel), ?_⟩
  | refine ⟨_, _, _, _, true, rfl, .ty _, .base (.int _), kit_ty (by decide +kernel), ?_⟩
  | refine ⟨_, _, _, _, false, rfl, .ty _, .base (.int _), kit_ty (by decide +kernel), ?_⟩
  | refine ⟨_, rfl, rfl, trivial, ?_⟩
  | refine ⟨_, _, rfl, ?_⟩
  | refine ⟨_, _, rfl, rfl, by decide, ?_⟩
  | refine ⟨_, _, rfl, rfl, sz (by omega), ?_⟩
  | refine ⟨_, _, rfl, rfl, ⟨by decide, by decide⟩, ?_⟩
  | refine ⟨_, _, _, rfl, rfl, ?_⟩
  | refine ⟨_, _, _, rfl, ?_⟩
  | refine And.intro (Nat.zero_le _) ?_
  | refine And.intro (show List.length _ ≤ sizeLine from Nat.le_of_ble_eq_true rfl) ?_
  | refine And.intro (.inl ⟨rfl, _, SqL.of (by assumption)⟩) ?_
  | refine And.intro (by assumption) ?_
  | refine And.intro (sz (by omega)) ?_
  | refine And.intro (by omega) ?_
  | refine Or.inl ⟨_, rfl, ?_⟩
  | refine Or.inr ⟨_, rfl, ?_⟩
  | refine ⟨_, _, rfl, .inl (SqL.of (by assumption)), ?_⟩
  | refine ⟨_, _, rfl, .inl (by assumption), ?_⟩
  | refine ⟨_, _, rfl, .inr (by assumption), ?_⟩
  | refine ⟨_, _, _, _, rfl, rfl, SqL.of (by assumption), rfl, ?_⟩
  | refine ⟨_, _, _, _, rfl, rfl, SqL.of upd_same, rfl, ?_⟩
  | refine ⟨_, _, _, _, rfl, rfl, by assumption, rfl, ?_⟩
  | refine ⟨_, _, _, _, rfl, rfl, upd_same, rfl, ?_⟩
  | refine And.intro (show CPow _ _ from ⟨by decide, by decide, by decide⟩) ?_
  | refine And.intro (show CDiv _ _ from ⟨by decide, by decide⟩) ?_
  | refine And.intro (show CMul _ _ from .inl ⟨by decide, by decide⟩) ?_
  | refine And.intro (show CMul _ _ from .inr ⟨by decide, by decide⟩) ?_)
local macro_rules | `(tactic| walk_at "rd") => `(tactic| repeat (walk_at "rd1"))
section
variable {P : Program} {w : World} {K : PySem.W.Frag} {mg : Str → Option Value} {base : Heap} {a : Ad} {d : Fd}
local macro_rules | `(tactic| walk_at "rd1") => `(tactic| first
  | refine And.intro ⟨_, rfl⟩ ?_
  | refine And.intro ⟨_, by assumption⟩ ?_
  | refine And.intro ⟨_, SqL.of (by assumption)⟩ ?_)
def sp_law_pieces (K : PySem.W.Frag) : Sp := fun vs H Q _ => ∃ z : Str, vs = [.str z] ∧ pr z ∧ z.length ≤ 60000 ∧ ∀ p xs H', Same H H' → H' p = some (.lst xs) → TpAll K H' xs (pcs z.length (wl (tl z) 0 (z.length - 121))) → Q (.ref p) H'
theorem ok_law_pieces (T : Txt K mg a d) (G_law_windows : FnOk P w K mg base CX0 2 a.law_windows d.law_windows ["text"] (sp_law_windows K)) : FnOk P w K mg base CX0 3 a.law_pieces d.law_pieces ["text"] (sp_law_pieces K) := by
  refine T.F_law_pieces.ok sc_law_pieces (by walk_at "len") (fun cdv A outer s H vs Q E hr h => ?_)
  obtain ⟨z, rfl, hp, hz, k⟩ := h
  have hz1 : z.length ≤ sizeLine := sz (by omega)
  refine ⟨_, (pss_cons (ps_par (i := 1) (j := 2) (by rfl) sc_law_pieces.nd rfl rfl (by decide) rfl rfl (pa_cons (pe_lst pa_nil) (pa_cons pe_int pa_nil)) (by rfl))
      (pss_cons (ps_for PassesOwn.never rfl (pi_list (pe_call G_law_windows (hr.mono (by decide)) (by rfl) T.g_law_windows T.k_law_windows T.B_law_windows .nil pass0 (pa_cons (pv 0) pa_nil))) (pg_tup rfl (pgs_cons (pg_name (i := 3) sc_law_pieces.nd rfl (Or.inl rfl) (.inl rfl)) (pgs_cons (pg_name (i := 4) sc_law_pieces.nd rfl (Or.inl rfl) (.inl rfl)) pgs_nil)))
      (pss_cons (ps_set (i := 1) sc_law_pieces.nd rfl (Or.inl rfl) (pe_op op_cat (pe_op op_cat (pv 1) (pe_ifExp (pt_cmpR op_gt (pv 3) (pv 2) (nomark _)) (pe_lst (pa_cons (pe_tup (pa_cons pe_str (pa_cons (pv 2) (pa_cons (pv 3) pa_nil)))) pa_nil)) (pe_lst pa_nil))) (pe_lst (pa_cons (pe_tup (pa_cons pe_str (pa_cons (pv 3) (pa_cons (pe_op op_add (pv 3) pe_int) pa_nil)))) pa_nil))))
      (pss_one (ps_set (i := 2) sc_law_pieces.nd rfl (Or.inl rfl) (pe_op op_add (pv 3) pe_int)))))
      (pss_one (ps_ret (pe_op op_cat (pv 1) (pe_ifExp (pt_cmpR op_lt (pv 2) (pe_callB call_len_str (by rfl) T.b_len (by decide +kernel) (pa_cons (pv 0) pa_nil)) (nomark _)) (pe_lst (pa_cons (pe_tup (pa_cons pe_str (pa_cons (pv 2) (pa_cons (pe_callB call_len_str (by rfl) T.b_len (by decide +kernel) (pa_cons (pv 0) pa_nil)) pa_nil)))) pa_nil)) (pe_lst pa_nil))))))), ?_⟩
  walk_at "rd"
  refine fun L hL => ?_
  walk_at "rd"
  intro W ys H1 s1 hW hW1 t1
  have hwl := wl_length (s := tl z) (b := 0) (e := z.length - 121)
  generalize wl (tl z) 0 (z.length - 121) = ws at t1 hwl k
  have sL := Same.new (o := .lst []) hL
  have hL1 := s1 _ _ (upd_same (H := H) (a := L) (o := .lst []))
  have hyl := t1.length
  rw [List.length_map] at hyl
  refine ⟨_, rfl, ⟨_, SqL.of hW1⟩, ?_⟩
  refine for_it walk_list (fun i σ H' => ∃ (v3 v4 : Option V) (L1 : Addr) (xs : List V), σ = [some (.str z), some (.ref L1), some (.int (pfold (ws.take i)).2), v3, v4] ∧ Same H1 H' ∧ H' L1 = some (.lst xs) ∧ TpAll K H' xs (pfold (ws.take i)).1) ⟨none, none, L, [], rfl, Same.refl _, hL1, .nil⟩ (fun i σ H' _ ⟨_, _, _, _, _, s2, _⟩ => SqL.of (s2 _ _ hW1)) ?_ ?_
  · rintro i x σ H3 H2 hi ⟨v3, v4, L1, xs, rfl, s2, hL1, t2⟩ ⟨rfl, hx⟩
    obtain ⟨w, T1, c, hw, rfl, hT, hc⟩ := win_item (t1.keep (Kt.of s2)) hx
    have hxl : xs.length ≤ 120000 := by
      have := t2.length
      have := pfold_len (ws.take i)
      rw [List.length_take] at this
      omega
    rw [take_snoc hw, pfold_snoc]
    generalize pfold (ws.take i) = r at t2
    refine ⟨_, _, rfl, hT, rfl, ?_⟩
    walk_at "rd"
    refine iteB (fun c1 => ?_) (fun c1 => ?_)
    · have c1' : r.2 < w.1 := of_decide_eq_true c1
      walk_at "rd"
      refine fun T2 hT2 => ?_
      walk_at "rd"
      refine fun L2 hL2 => ?_
      have s3 : Same H2 (upd (upd H2 T2 (.tup [.str "other", .int r.2, .int w.1])) L2 (.lst [.ref T2])) := (Same.new hT2).trans (Same.new hL2)
      have hL3 := s3 _ _ hL1
      have t3 := t2.keep (Kt.of s3)
      have u3 : Tp K (upd (upd H2 T2 (.tup [.str "other", .int r.2, .int w.1])) L2 (.lst [.ref T2])) (.ref T2) (pO r.2 w.1) := tp_piece (SqT.of ((Same.new hL2) _ _ upd_same))
      have g3 : (upd (upd H2 T2 (.tup [.str "other", .int r.2, .int w.1])) L2 (.lst [.ref T2])) L2 = some (.lst [.ref T2]) := upd_same
      generalize upd (upd H2 T2 (.tup [.str "other", .int r.2, .int w.1])) L2 (.lst [.ref T2]) = H4 at *
      walk_at "rd"
      refine ⟨_, _, _, _, rfl, rfl, hL3, g3, sz (by show _ + 1 ≤ _; omega), fun L4 hL4 => ?_⟩
      have s4 := Same.new (o := .lst (xs ++ [.ref T2])) hL4
      have t4 := (t3.keep (Kt.of s4)).snoc (u3.keep (Kt.of s4))
      have g4 := upd_same (H := H4) (a := L4) (o := .lst (xs ++ [.ref T2]))
      have s5 := (s2.trans s3).trans s4
      generalize upd H4 L4 (.lst (xs ++ [.ref T2])) = H5 at *
      walk_at "rd"
      refine fun T3 hT3 => ?_
      walk_at "rd"
      refine fun L5 hL5 => ?_
      have s6 : Same H5 (upd (upd H5 T3 (.tup [.str "window", .int w.1, .int ((w.1 : Int) + 122)])) L5 (.lst [.ref T3])) := (Same.new hT3).trans (Same.new hL5)
      have g6 := s6 _ _ g4
      walk_at "rd"
      refine ⟨_, _, _, _, rfl, rfl, g6, upd_same, sz (by rw [List.length_append]; show _ + 1 + 1 ≤ _; omega), fun L6 hL6 => ?_⟩
      have s7 := Same.new (o := .lst (xs ++ [.ref T2] ++ [.ref T3])) hL6
      walk_at "rd"
      refine ⟨_, _, L6, _, rfl, s5.trans (s6.trans s7), upd_same, ?_⟩
      unfold pstep
      rw [if_pos c1']
      exact (t4.keep (Kt.of (s6.trans s7))).snoc (tp_piece (SqT.of (((Same.new hL5).trans s7) _ _ upd_same)))
    · have c1' : ¬ r.2 < w.1 := of_decide_eq_false c1
      walk_at "rd"
      refine fun L2 hL2 => ?_
      have s3 : Same H2 (upd H2 L2 (.lst [])) := Same.new hL2
      have hL3 := s3 _ _ hL1
      have t3 := t2.keep (Kt.of s3)
      have g3 : (upd H2 L2 (.lst [])) L2 = some (.lst []) := upd_same
      generalize upd H2 L2 (.lst []) = H4 at *
      walk_at "rd"
      refine ⟨_, _, _, _, rfl, rfl, hL3, g3, sz (by show _ + 0 ≤ _; omega), fun L4 hL4 => ?_⟩
      have s4 := Same.new (o := .lst (xs ++ [])) hL4
      have t4 := t3.keep (Kt.of s4)
      have g4 := upd_same (H := H4) (a := L4) (o := .lst (xs ++ []))
      have s5 := (s2.trans s3).trans s4
      generalize upd H4 L4 (.lst (xs ++ [])) = H5 at *
      rw [List.append_nil] at g4
      walk_at "rd"
      refine fun T3 hT3 => ?_
      walk_at "rd"
      refine fun L5 hL5 => ?_
      have s6 : Same H5 (upd (upd H5 T3 (.tup [.str "window", .int w.1, .int ((w.1 : Int) + 122)])) L5 (.lst [.ref T3])) := (Same.new hT3).trans (Same.new hL5)
      have g6 := s6 _ _ g4
      walk_at "rd"
      refine ⟨_, _, _, _, rfl, rfl, g6, upd_same, sz (by show _ + 1 ≤ _; omega), fun L6 hL6 => ?_⟩
      have s7 := Same.new (o := .lst (xs ++ [.ref T3])) hL6
      walk_at "rd"
      refine ⟨_, _, L6, _, rfl, s5.trans (s6.trans s7), upd_same, ?_⟩
      unfold pstep
      rw [if_neg c1', List.append_nil]
      exact (t4.keep (Kt.of (s6.trans s7))).snoc (tp_piece (SqT.of (((Same.new hL5).trans s7) _ _ upd_same)))
  rintro σ H2 ⟨v3, v4, L1, xs, rfl, s2, hL1, t2⟩
  rw [hyl, List.take_length] at t2
  have hxl : xs.length ≤ 120000 := by
    have := t2.length
    have := pfold_len ws
    omega
  rw [hyl, List.take_length]
  unfold pcs at k
  generalize pfold ws = r at t2 k
  have s0 := (sL.trans s1).trans s2
  walk_at "rd"
  refine iteB (fun c1 => ?_) (fun c1 => ?_)
  · rw [if_pos (of_decide_eq_true c1)] at k
    walk_at "rd"
    refine fun T2 hT2 => ?_
    walk_at "rd"
    refine fun L2 hL2 => ?_
    have s3 : Same H2 (upd (upd H2 T2 (.tup [.str "other", .int r.2, .int z.length])) L2 (.lst [.ref T2])) := (Same.new hT2).trans (Same.new hL2)
    walk_at "rd"
    refine ⟨_, _, _, _, rfl, rfl, s3 _ _ hL1, upd_same, sz (by show _ + 1 ≤ _; omega), fun L4 hL4 => ?_⟩
    have s4 := Same.new (o := .lst (xs ++ [.ref T2])) hL4
    exact k L4 _ _ (s0.trans (s3.trans s4)) upd_same ((t2.keep (Kt.of (s3.trans s4))).snoc (tp_piece (SqT.of (((Same.new hL2).trans s4) _ _ upd_same))))
  · rw [if_neg (of_decide_eq_false c1), List.append_nil] at k
    walk_at "rd"
    refine fun L2 hL2 => ?_
    have s3 : Same H2 (upd H2 L2 (.lst [])) := Same.new hL2
    walk_at "rd"
    refine ⟨_, _, _, _, rfl, rfl, s3 _ _ hL1, upd_same, sz (by show _ + 0 ≤ _; omega), fun L4 hL4 => ?_⟩
    have s4 := Same.new (o := .lst (xs ++ [])) hL4
    exact k L4 _ _ (s0.trans (s3.trans s4)) (upd_same.trans (by rw [List.append_nil])) (t2.keep (Kt.of (s3.trans s4)))
end
end
section
local macro_rules | `(tactic| walk_at "len") => `(tactic| (intro vs H Q E h; first
  | (obtain ⟨_, e, _⟩ := h; subst e; rfl) | (obtain ⟨_, _, e, _⟩ := h; subst e; rfl) | (obtain ⟨_, _, _, e, _⟩ := h; subst e; rfl) | (obtain ⟨_, _, _, _, e, _⟩ := h; subst e; rfl)))
local macro_rules | `(tactic| walk_at "rd1") => `(tactic| first
  | refine ⟨_, rfl, ?_⟩
  | refine ⟨rfl, ?_⟩
  | refine ⟨trivial, ?_⟩
  | refine ⟨_, _, rfl, rfl, ?_⟩
  | refine ⟨_, rfl, rfl, ?_⟩
  | refine ⟨_, _, _, _, true, rfl, .ty _, .base (.str _), kit_ty (by decide +kernel), ?_⟩
  | refine ⟨_, _, _, _, true, rfl, .ty _, .base (.int _), kit_ty (by decide +kernel), ?_⟩
  | refine ⟨_, _, _, _, false, rfl, .ty _, .base (.int _), kit_ty (by decide +kernel), ?_⟩
  | refine ⟨_, rfl, rfl, trivial, ?_⟩
  | refine ⟨_, _, rfl, ?_⟩
  | refine ⟨_, _, rfl, rfl, by decide, ?_⟩
  | refine ⟨_, _, rfl, rfl, sz (by omega), ?_⟩
  | refine ⟨_, _, rfl, rfl, ⟨by decide, by decide⟩, ?_⟩
  | refine ⟨_, _, _, rfl, rfl, ?_⟩
  | refine ⟨_, _, _, rfl, ?_⟩
  | refine And.intro (Nat.zero_le _) ?_
  | refine And.intro (show List.length _ ≤ sizeLine from Nat.le_of_ble_eq_true rfl) ?_
  | refine And.intro (.inl ⟨rfl, _, SqL.of (by assumption)⟩) ?_
  | refine And.intro (by assumption) ?_
  | refine And.intro (sz (by omega)) ?_
  | refine And.intro (by omega) ?_
  | refine Or.inl ⟨_, rfl, ?_⟩
  | refine Or.inr ⟨_, rfl, ?_⟩
  | refine ⟨_, _, rfl, .inl (SqL.of (by assumption)), ?_⟩
  | refine ⟨_, _, rfl, .inl (by assumption), ?_⟩
  | refine ⟨_, _, rfl, .inr (by assumption), ?_⟩
  | refine ⟨_, _, _, _, rfl, rfl, SqL.of (by assumption), rfl, ?_⟩
  | refine ⟨_, _, _, _, rfl, rfl, SqL.of upd_same, rfl, ?_⟩
  | refine ⟨_, _, _, _, rfl, rfl, by assumption, rfl, ?_⟩
  | refine ⟨_, _, _, _, rfl, rfl, upd_same, rfl, ?_⟩
  | refine And.intro (show CPow _ _ from ⟨by decide, by decide, by decide⟩) ?_
  | refine And.intro (show CDiv _ _ from ⟨by decide, by decide⟩) ?_
  | refine And.intro (show CMul _ _ from .inl ⟨by decide, by decide⟩) ?_
  | refine And.intro (show CMul _ _ from .inr ⟨by decide, by decide⟩) ?_)
local macro_rules | `(tactic| walk_at "rd") => `(tactic| repeat (walk_at "rd1"))
section
variable {P : Program} {w : World} {K : PySem.W.Frag} {mg : Str → Option Value} {base : Heap} {a : Ad} {d : Fd}
local macro_rules | `(tactic| walk_at "rd1") => `(tactic| first
  | refine And.intro ⟨_, rfl⟩ ?_
  | refine And.intro ⟨_, by assumption⟩ ?_
  | refine And.intro ⟨_, SqL.of (by assumption)⟩ ?_)
def sp_law_right (K : PySem.W.Frag) : Sp := fun vs H Q _ => ∃ t : Addr, vs = [.ref t] ∧ Tray H t ∧ ∀ H', Dr t H H' → Q (.bl true) H'
theorem last_at {xs : List V} (h : xs ≠ []) : ∃ x, xs[xs.length - 1]? = some x ∧ atI xs (-1) = some x := by
  rcases List.eq_nil_or_concat xs with e | ⟨l, x, rfl⟩
  · exact absurd e h
  · rw [List.concat_eq_append]
    exact ⟨x, by simp, atI_last l x⟩
theorem cut_part {z : Str} {b e : Int} (hb : 0 ≤ b) (hbe : b ≤ e) (he : e ≤ z.length) :
    (wl (tl (cutS z (some b) (some e))) 0 ((cutS z (some b) (some e)).length - 121)).map (fun x => (x.1 + b.toNat, x.2)) = wl (tl z) b.toNat (e.toNat - 121) := by
  have hlt := len_tl z
  have e1 : tl (cutS z (some b) (some e)) = ((tl z).drop b.toNat).take (e.toNat - b.toNat) := by
    have := cut_nat z b.toNat e.toNat
    rw [Int.toNat_of_nonneg hb, Int.toNat_of_nonneg (by omega)] at this
    exact this
  have e2 : (cutS z (some b) (some e)).length = e.toNat - b.toNat := by
    rw [len_tl, e1, List.length_take, List.length_drop]
    omega
  rw [e1, e2]
  exact wl_part (by omega) (by omega)
theorem shaped_wt {ws : List (Nat × List Int)} : SeqAt.shaped (.tuple (ws.map encW)) = true := flat_shaped (n := 3) flat_w (by decide)
theorem ok_law_right (T : Txt K mg a d) (G_law_drawn : FnOk P w K mg base CX0 5 a.law_drawn d.law_drawn ["tray", "many"] (sp_law_drawn K)) (G_law_pieces : FnOk P w K mg base CX0 3 a.law_pieces d.law_pieces ["text"] (sp_law_pieces K)) (G_law_pluck : FnOk P w K mg base CX0 1 a.law_pluck d.law_pluck ["tray", "total"] (sp_law_pluck K)) (G_law_windows : FnOk P w K mg base CX0 2 a.law_windows d.law_windows ["text"] (sp_law_windows K)) (G_pieces : FnOk P w K mg base CX0 5 a.pieces d.pieces ["text"] (sp_pieces K)) (G_windows : FnOk P w K mg base CX0 4 a.windows d.windows ["text"] (sp_windows K)) (G_windows_in : FnOk P w K mg base CX0 4 a.windows_in d.windows_in ["text", "begin", "end"] (sp_windows_in K)) : FnOk P w K mg base CX0 6 a.law_right d.law_right ["tray"] (sp_law_right K) := by
  refine T.F_law_right.ok sc_law_right (by walk_at "len") (fun cdv A outer s H vs Q E hr h => ?_)
  obtain ⟨t, rfl, hT, k⟩ := h
  refine ⟨_, (pss_cons (ps_set (i := 1) sc_law_right.nd rfl (Or.inl rfl) (pe_call G_law_drawn (hr.mono (by decide)) (by rfl) T.g_law_drawn T.k_law_drawn T.B_law_drawn .nil pass0 (pa_cons (pv 0) (pa_cons pe_int pa_nil))))
      (pss_cons (ps_set (i := 2) sc_law_right.nd rfl (Or.inl rfl) (pe_call G_law_windows (hr.mono (by decide)) (by rfl) T.g_law_windows T.k_law_windows T.B_law_windows .nil pass0 (pa_cons (pv 1) pa_nil)))
      (pss_cons (ps_if (PW.pt (pw_or (pt_cmpR (op_neD hr.units) (pe_callTy call_list_of (by rfl) T.b_list (by decide +kernel) (pa_cons (pe_call G_windows (hr.mono (by decide)) (by rfl) T.g_windows T.k_windows T.B_windows .nil pass0 (pa_cons (pv 1) pa_nil)) pa_nil)) (pv 2) (nomark _)) (pw_or1 (pt_cmpR (op_neD hr.units) (pe_callTy call_list_of (by rfl) T.b_list (by decide +kernel) (pa_cons (pe_call G_pieces (hr.mono (by decide)) (by rfl) T.g_pieces T.k_pieces T.B_pieces .nil pass0 (pa_cons (pv 1) pa_nil)) pa_nil)) (pe_call G_law_pieces (hr.mono (by decide)) (by rfl) T.g_law_pieces T.k_law_pieces T.B_law_pieces .nil pass0 (pa_cons (pv 1) pa_nil)) (nomark _))))) (pss_one (ps_ret pe_bl)) pss_nil)
      (pss_cons (ps_for PassesOwn.never rfl (pi_range1 (by rfl) T.b_range (pa_cons pe_int pa_nil)) (pg_name (i := 3) sc_law_right.nd rfl (Or.inl rfl))
      (pss_cons (ps_set (i := 4) sc_law_right.nd rfl (Or.inr rfl) (pe_call G_law_pluck (hr.mono (by decide)) (by rfl) T.g_law_pluck T.k_law_pluck T.B_law_pluck .nil pass0 (pa_cons (pv 0) (pa_cons (pe_op op_add (pe_callB call_len_str (by rfl) T.b_len (by decide +kernel) (pa_cons (pv 1) pa_nil)) pe_int) pa_nil))))
      (pss_cons (ps_set (i := 5) sc_law_right.nd rfl (Or.inr rfl) (pe_op op_add (pv 4) (pe_call G_law_pluck (hr.mono (by decide)) (by rfl) T.g_law_pluck T.k_law_pluck T.B_law_pluck .nil pass0 (pa_cons (pv 0) (pa_cons (pe_op op_add (pe_op op_sub (pe_callB call_len_str (by rfl) T.b_len (by decide +kernel) (pa_cons (pv 1) pa_nil)) (pv 4)) pe_int) pa_nil)))))
      (pss_cons (ps_if (PW.pt (pw_and (pt_cmpR (op_neD hr.units) (pv 2) (pe_lst pa_nil) (nomark _)) (pw_and1 (pt_cmpR op_eq (pe_call G_law_pluck (hr.mono (by decide)) (by rfl) T.g_law_pluck T.k_law_pluck T.B_law_pluck .nil pass0 (pa_cons (pv 0) (pa_cons pe_int pa_nil))) pe_int (nomark _))))) (pss_cons (ps_set (i := 4) sc_law_right.nd rfl (Or.inr rfl) (pe_op op_add (pe_ix ix_tup (pe_ix ix_list (pv 2) pe_int (fun _ _ => rfl)) pe_int (fun _ _ => rfl)) (pe_call G_law_pluck (hr.mono (by decide)) (by rfl) T.g_law_pluck T.k_law_pluck T.B_law_pluck .nil pass0 (pa_cons (pv 0) (pa_cons pe_int pa_nil)))))
      (pss_one (ps_set (i := 5) sc_law_right.nd rfl (Or.inr rfl) (pe_callB (call_max2 rfl) (by rfl) T.b_max (by decide +kernel) (pa_cons (pv 4) (pa_cons (pe_op op_sub (pe_op op_add (pe_ix ix_tup (pe_ix ix_list (pv 2) (pe_un un_neg pe_int) (fun _ _ => rfl)) pe_int (fun _ _ => rfl)) pe_int) (pe_call G_law_pluck (hr.mono (by decide)) (by rfl) T.g_law_pluck T.k_law_pluck T.B_law_pluck .nil pass0 (pa_cons (pv 0) (pa_cons pe_int pa_nil)))) pa_nil)))))) pss_nil)
      (pss_cons (ps_set (i := 6) sc_law_right.nd rfl (Or.inl rfl) (pe_callTy call_tuple_of (by rfl) T.b_tuple (by decide +kernel) (pa_cons (pe_lc (own := [("place", 7), ("cells", 8)]) (g := gTup K 2 (gCons (gName 7) (gCons (gName 8) gNil))) rfl sc_law_right.nd (pi_list (pv 2)) (blkOk_by (N := n_law_right) (sc := defScope s_law_right) (by decide +kernel)) (fun _ _ _ _ _ => (pg_tup rfl (pgs_cons (pg_name (i := 7) sc_law_right.nd rfl (Or.inl rfl) (.inr rfl)) (pgs_cons (pg_name (i := 8) sc_law_right.nd rfl (Or.inl rfl) (.inr rfl)) pgs_nil)))) (fun _ _ _ _ _ => (pts_one (PW.pt (pw_and (pt_cmpR op_le (pv 4) (pv 7) (nomark _)) (pw_and1 (pt_cmpR op_le (pe_op op_add (pv 7) pe_int) (pv 5) (nomark _))))))) (fun _ _ _ _ _ => (pe_tup (pa_cons (pv 7) (pa_cons (pv 8) pa_nil))))) pa_nil)))
      (pss_cons (ps_if (pt_cmpR (op_neD hr.units) (pe_call G_windows_in (hr.mono (by decide)) (by rfl) T.g_windows_in T.k_windows_in T.B_windows_in .nil pass0 (pa_cons (pv 1) (pa_cons (pv 4) (pa_cons (pv 5) pa_nil)))) (pv 6) (nomark _)) (pss_one (ps_ret pe_bl)) pss_nil)
      (pss_one (ps_if (pt_cmpR (op_neD hr.units) (pv 6) (pe_callTy call_tuple_of (by rfl) T.b_tuple (by decide +kernel) (pa_cons (pe_lc (own := [("place", 7), ("cells", 8)]) (g := gTup K 2 (gCons (gName 7) (gCons (gName 8) gNil))) rfl sc_law_right.nd (pi_list (pe_call G_law_windows (hr.mono (by decide)) (by rfl) T.g_law_windows T.k_law_windows T.B_law_windows .nil pass0 (pa_cons (pe_slice sl_str (pv 1) (po_some (pv 4)) (po_some (pv 5))) pa_nil))) (blkOk_by (N := n_law_right) (sc := defScope s_law_right) (by decide +kernel)) (fun _ _ _ _ _ => (pg_tup rfl (pgs_cons (pg_name (i := 7) sc_law_right.nd rfl (Or.inl rfl) (.inr rfl)) (pgs_cons (pg_name (i := 8) sc_law_right.nd rfl (Or.inl rfl) (.inr rfl)) pgs_nil)))) (fun _ _ _ _ _ => pts_nil) (fun _ _ _ _ _ => (pe_tup (pa_cons (pe_op op_add (pv 7) (pv 4)) (pa_cons (pv 8) pa_nil))))) pa_nil)) (nomark _)) (pss_one (ps_ret pe_bl)) pss_nil))))))))
      (pss_one (ps_ret pe_bl)))))), ?_⟩
  walk_at "rd"
  intro z H1 hp hzl d1
  have hz : z.length ≤ 60000 := by omega
  have hz1 : z.length ≤ sizeLine := sz (by omega)
  have hlt := len_tl z
  have hT1 := d1.2.1
  walk_at "rd"
  intro W ys H2 s2 hW0 hW ta
  have nWt : W ≠ t := by
    obtain ⟨x0, y0, z0, h0⟩ := hT1
    intro e
    rw [e, h0] at hW0
    cases hW0
  have d2 := d1.trans (Dr.same hT1 s2)
  have hwl := wl_length (s := tl z) (b := 0) (e := z.length - 121)
  have hyl := ta.length
  rw [List.length_map] at hyl
  walk_at "rd"
  intro v3 H3 s3 t3
  cases t3 with
  | @tup U us ds3 hU hua =>
  walk_at "rd"
  refine fun L1 hL1 => ?_
  have sL1 : Same H3 (upd H3 L1 (.lst us)) := Same.new hL1
  have hW3 := sL1 _ _ (s3 _ _ hW)
  have ta3 := ta.keep (Kt.of (s3.trans sL1))
  walk_at "rd"
  refine ⟨_, _, dp_lst upd_same (hua.keep (Kt.of sL1)), dp_lst hW3 ta3, shaped_w, shaped_w, ?_⟩
  rw [shaped_eqv shaped_w]
  have d3 := d2.trans (Dr.same d2.2.1 (s3.trans sL1))
  generalize upd H3 L1 (.lst us) = H4 at *
  walk_at "rd"
  intro v5 H5 s5 t5
  cases t5 with
  | @tup U2 us2 ds5 hU2 hua2 =>
  walk_at "rd"
  refine fun L2 hL2 => ?_
  have sL2 : Same H5 (upd H5 L2 (.lst us2)) := Same.new hL2
  have g2 : (upd H5 L2 (.lst us2)) L2 = some (.lst us2) := upd_same
  have hua5 := hua2.keep (Kt.of sL2)
  have s45 := s5.trans sL2
  generalize upd H5 L2 (.lst us2) = H6 at *
  walk_at "rd"
  intro L3 us3 H7 s7 g3 t7
  have hua7 := hua5.keep (Kt.of s7)
  walk_at "rd"
  refine ⟨_, _, dp_lst (s7 _ _ g2) hua7, dp_lst g3 t7, shaped_pcs, shaped_pcs, ?_⟩
  rw [shaped_eqv shaped_pcs]
  have s47 := s45.trans s7
  have hW7 := s47 _ _ hW3
  have ta7 := ta3.keep (Kt.of s47)
  have d7 := d3.trans (Dr.same d3.2.1 s47)
  have hmw : ∀ (i : Nat) (w : Nat × List Int), (wl (tl z) 0 (z.length - 121))[i]? = some w → w.1 + 122 ≤ z.length := fun i w h => by
    have := (mem_wl.mp (List.mem_of_getElem? h)).2.1
    omega
  have hcp := fun (b e : Int) (h0 : 0 ≤ b) (h1 : b ≤ e) (h2 : e ≤ z.length) => cut_part h0 h1 h2
  have hfl := fun (b e : Int) (h0 : 0 ≤ b) (h1 : b ≤ e) (h2 : e ≤ z.length) => filter_wl (s := tl z) (n := z.length - 121) (lo := b.toNat) (hi := e.toNat - 121) (fun w => decide (b ≤ (w.1 : Int)) && decide ((w.1 : Int) + 122 ≤ e)) (fun w => by simp; omega)
  generalize wl (tl z) 0 (z.length - 121) = ws at ta7 hwl hyl hmw hfl
  clear hua7 t7 hua5 hua2 hua
  walk_at "rd"
  refine for_it walk_range (fun i σ H' => ∃ v3 v4 v5 v6 : Option V, σ = [some (.ref t), some (.str z), some (.ref W), v3, v4, v5, v6, none, none] ∧ Dr t H H' ∧ H' W = some (.lst ys) ∧ TpAll K H' ys (ws.map encW)) ⟨none, none, none, none, rfl, d7, hW7, ta7⟩ (fun _ _ _ _ _ => trivial) ?_ ?_
  rotate_left
  · rintro σ H8 ⟨v3, v4, v5, v6, rfl, d8, hW8, ta8⟩
    exact k _ d8
  rintro i v σ H8 H9 hi ⟨v3, v4, v5, v6, rfl, d9, hW9, ta9⟩ ⟨rfl, rfl⟩
  have hT9 := d9.2.1
  walk_at "rd"
  intro r1 H10 r10 r11 d10
  have hT10 := d10.2.1
  walk_at "rd"
  intro r2 H11 r20 r21 d11
  have hT11 := d11.2.1
  have hW11 := d11.1 _ _ nWt (d10.1 _ _ nWt hW9)
  have ta11 := ta9.keep (d10.2.2.trans d11.2.2)
  have d12 := (d9.trans d10).trans d11
  walk_at "rd"
  refine fun L4 hL4 => ?_
  have sL4 : Same H11 (upd H11 L4 (.lst [])) := Same.new hL4
  have hW12 := sL4 _ _ hW11
  have ta12 := ta11.keep (Kt.of sL4)
  refine ⟨_, _, dp_lst hW12 ta12, dp_lst upd_same .nil, shaped_w, rfl, ?_⟩
  rw [eqv_nil]
  have d13 := d12.trans (Dr.same hT11 sL4)
  generalize upd H11 L4 (.lst []) = H12 at *
  have hT13 := d13.2.1
  walk_at "rd"
  refine iteB (fun h1 => ?yes1) (fun h1 => ?no1)
  case' yes1 =>
    have hne : ws ≠ [] := by
      rintro rfl
      simp at h1
    have hyn : ys ≠ [] := by
      rintro rfl
      exact hne (List.eq_nil_of_length_eq_zero (by rw [← hyl]; rfl))
    obtain ⟨x9, hx9, hx9'⟩ := last_at hyn
    obtain ⟨x0, hx0⟩ : ∃ x, ys[0]? = some x := ⟨_, List.getElem?_eq_getElem (List.length_pos_iff.mpr hyn)⟩
    walk_at "rd"
    intro r3 H13 r30 r31 d14
    have hT14 := d14.2.1
    have hW13 := d14.1 _ _ nWt hW12
    have ta13 := ta12.keep d14.2.2
    have d15 := d13.trans d14
    walk_at "rd"
    refine iteB (fun h2 => ?yes2) (fun h2 => ?no2)
  case' yes2 =>
    walk_at "rd"
    obtain ⟨w0, T0, c0, hw0, rfl, hT0, hc0⟩ := win_item ta13 hx0
    have hm0 := hmw _ _ hw0
    refine ⟨_, _, _, _, rfl, rfl, SqL.of hW13, at_of (j := 0) rfl hx0, ?_⟩
    walk_at "rd"
    intro r4 H14 r40 r41 d16
    have hT16 := d16.2.1
    have hW14 := d16.1 _ _ nWt hW13
    have ta14 := ta13.keep d16.2.2
    walk_at "rd"
    obtain ⟨w9, T9, c9, hw9, rfl, hT9', hc9⟩ := win_item ta14 hx9
    have hm9 := hmw _ _ hw9
    refine ⟨_, _, _, _, rfl, rfl, SqL.of hW14, hx9', ?_⟩
    walk_at "rd"
    intro r5 H15 r50 r51 d17
    have hT17 := d17.2.1
    have hW15 := d17.1 _ _ nWt hW14
    have ta15 := ta14.keep d17.2.2
    have dz := (d15.trans d16).trans d17
    clear hW12 ta12 hT13
    walk_at "rd"
    let b : Int := w0.1 + r4
    let e : Int := if w9.1 + 122 - r5 > b then w9.1 + 122 - r5 else b
    have b0 : 0 ≤ b := by show (0 : Int) ≤ w0.1 + r4; omega
    have be : b ≤ e := by show b ≤ if w9.1 + 122 - r5 > b then w9.1 + 122 - r5 else b; split <;> omega
    have ez : e ≤ z.length := by
      show (if w9.1 + 122 - r5 > (w0.1 : Int) + r4 then w9.1 + 122 - r5 else (w0.1 : Int) + r4) ≤ z.length
      split <;> omega
    have hWx := hW15
    have tax := ta15
    have dx := dz
    obtain ⟨Hx, eHx⟩ : ∃ Hx, Hx = H15 := ⟨_, rfl⟩
    subst eHx
  case' no2 =>
    walk_at "rd"
    let b : Int := r1
    let e : Int := r1 + r2
    have b0 : 0 ≤ b := r10
    have be : b ≤ e := by show r1 ≤ r1 + r2; omega
    have ez : e ≤ z.length := by show r1 + r2 ≤ z.length; omega
    have hWx := hW13
    have tax := ta13
    have dx := d15
    obtain ⟨Hx, eHx⟩ : ∃ Hx, Hx = H13 := ⟨_, rfl⟩
    subst eHx
  case' no1 =>
    walk_at "rd"
    let b : Int := r1
    let e : Int := r1 + r2
    have b0 : 0 ≤ b := r10
    have be : b ≤ e := by show r1 ≤ r1 + r2; omega
    have ez : e ≤ z.length := by show r1 + r2 ≤ z.length; omega
    have hWx := hW12
    have tax := ta12
    have dx := d13
    obtain ⟨Hx, eHx⟩ : ∃ Hx, Hx = H12 := ⟨_, rfl⟩
    subst eHx
  all_goals
    refine fun D hD => lc_it walk_list (fun i H' => ∃ acc, Same Hx H' ∧ H' D = some (.lst acc) ∧ TpAll K H' acc (((ws.take i).filter fun w => decide (b ≤ (w.1 : Int)) && decide ((w.1 : Int) + 122 ≤ e)).map encW)) ⟨[], Same.new hD, upd_same, .nil⟩ (fun i H' _ ⟨_, s2, _⟩ => SqL.of (s2 _ _ hWx)) ?_ ?_
    · rintro i v H16 H17 hi ⟨acc, s16, hD16, ta16⟩ ⟨rfl, hv⟩
      obtain ⟨w, T1, c, hw, rfl, hT1', hc⟩ := win_item (tax.keep (Kt.of s16)) hv
      have hal : acc.length ≤ 60000 := by
        rw [ta16.length, List.length_map]
        refine Nat.le_trans (List.length_filter_le _ _) ?_
        rw [List.length_take]
        omega
      have skip : (decide (b ≤ (w.1 : Int)) && decide ((w.1 : Int) + 122 ≤ e)) = false → ∃ acc, Same Hx H17 ∧ H17 D = some (.lst acc) ∧ TpAll K H17 acc (((ws.take (i + 1)).filter fun w => decide (b ≤ (w.1 : Int)) && decide ((w.1 : Int) + 122 ≤ e)).map encW) := fun g => by
        refine ⟨acc, s16, hD16, ?_⟩
        rw [take_snoc hw, List.filter_append, List.filter_cons_of_neg (by rw [g]; exact Bool.false_ne_true), List.filter_nil, List.append_nil]
        exact ta16
      refine ⟨_, _, rfl, hT1', rfl, ?_⟩
      walk_at "rd"
      refine iteB (fun c1 => ?_) (fun c1 => ?_)
      · have c1' : decide (b ≤ (w.1 : Int)) = true := c1
        walk_at "rd"
        refine iteB (fun c2 => ?_) (fun c2 => ?_)
        · have c2' : decide ((w.1 : Int) + 122 ≤ e) = true := c2
          walk_at "rd"
          refine fun T2 hT2 => ?_
          have nDT : D ≠ T2 := ne_of_none hD16 hT2
          have hD3 : (upd H17 T2 (.tup [.int w.1, .ref c])) D = some (.lst acc) := (upd_ne nDT).trans hD16
          have kk : Kt H17 (upd (upd H17 T2 (.tup [.int w.1, .ref c])) D (.lst (acc ++ [.ref T2]))) := (Kt.of (Same.new hT2)).trans (Kt.lst (.inr ⟨acc, hD3⟩))
          refine ⟨_, hD3, szl (by omega), _, fun b o e => ?_, upd_same, ?_⟩
          · rw [upd_ne (ne_of_none e hD), upd_ne (ne_of_none (s16 b o e) hT2)]; exact s16 b o e
          · rw [take_snoc hw, List.filter_append, List.filter_cons_of_pos (by rw [c1', c2']; rfl), List.map_append]
            exact (ta16.keep kk).snoc (.tup (SqT.of ((upd_ne nDT.symm).trans upd_same)) (tp_w (kt_t kk hc)))
        · have c2' : decide ((w.1 : Int) + 122 ≤ e) = false := c2
          walk_at "rd"
          exact skip (by rw [c1', c2']; rfl)
      · have c1' : decide (b ≤ (w.1 : Int)) = false := c1
        walk_at "rd"
        exact skip (by rw [c1']; rfl)
    rintro H16 ⟨acc, s16, hD16, ta16⟩
    rw [hyl, List.take_length, hfl b e b0 be ez, show min (e.toNat - 121) (z.length - 121) = e.toNat - 121 by omega] at ta16
    walk_at "rd"
    refine ⟨_, _, rfl, .inl ⟨SqL.of hD16, fun l hl => ?_⟩⟩
    have sl := Same.new (o := .tup acc) hl
    have tin := tp_new hl ta16
    have d16 := dx.trans (Dr.same dx.2.1 (s16.trans sl))
    have hW16 := (s16.trans sl) _ _ hWx
    have tax16 := tax.keep (Kt.of (s16.trans sl))
    generalize upd H16 l (.tup acc) = H18 at *
    walk_at "rd"
    refine ⟨z, b.toNat, e.toNat, by show [V.str z, V.int b, V.int e] = _; rw [Int.toNat_of_nonneg b0, Int.toNat_of_nonneg (Int.le_trans b0 be)], hp, hz, by omega, by omega, fun v17 H19 s19 t19 => ?_⟩
    have tin2 := tin.keep (Kt.of s19)
    walk_at "rd"
    refine ⟨_, _, t19.dp, tin2.dp, shaped_wt, shaped_wt, ?_⟩
    rw [shaped_eqv shaped_wt]
    walk_at "rd"
    refine ⟨pr_cut hp (some b) (some e), Nat.le_trans (cutS_length z (some b) (some e)) hz, fun L6 us6 H20 s20 hn20 g20 t20 => ?_⟩
    have hcpx := hcp b e b0 be ez
    have t20' : TpAll K H20 us6 ((wl (tl (cutS z (some b) (some e))) 0 ((cutS z (some b) (some e)).length - 121)).map encW) := t20
    have hwl6 := wl_length (s := tl (cutS z (some b) (some e))) (b := 0) (e := (cutS z (some b) (some e)).length - 121)
    have hcl := cutS_length z (some b) (some e)
    clear t20
    generalize wl (tl (cutS z (some b) (some e))) 0 ((cutS z (some b) (some e)).length - 121) = wy at t20' hcpx hwl6
    have hul6 := t20'.length
    rw [List.length_map] at hul6
    walk_at "rd"
    refine fun E2 hE => lc_it walk_list (fun i H' => ∃ acc2, Same H20 H' ∧ H' E2 = some (.lst acc2) ∧ TpAll K H' acc2 (((wy.take i).map fun w => (w.1 + b.toNat, w.2)).map encW)) ⟨[], Same.new hE, upd_same, .nil⟩ (fun i H' _ ⟨_, s6, _⟩ => SqL.of (s6 _ _ g20)) ?_ ?_
    · rintro i v H21 H22 hi ⟨acc2, s21, hE21, ta21⟩ ⟨rfl, hv⟩
      obtain ⟨w, T1, c, hw, rfl, hT1', hc⟩ := win_item (t20'.keep (Kt.of s21)) hv
      have hal : acc2.length ≤ 60000 := by rw [ta21.length, List.length_map, List.length_map, List.length_take]; omega
      refine ⟨_, _, rfl, hT1', rfl, ?_⟩
      walk_at "rd"
      refine fun T2 hT2 => ?_
      have nET : E2 ≠ T2 := ne_of_none hE21 hT2
      have hE7 := (upd_ne (o := .tup [.int ((w.1 : Int) + b), .ref c]) nET).trans hE21
      have kk : Kt H22 (upd (upd H22 T2 (.tup [.int ((w.1 : Int) + b), .ref c])) E2 (.lst (acc2 ++ [.ref T2]))) := (Kt.of (Same.new hT2)).trans (Kt.lst (.inr ⟨acc2, hE7⟩))
      refine ⟨_, hE7, szl (by omega), _, fun b o e => ?_, upd_same, ?_⟩
      · rw [upd_ne (ne_of_none e hE), upd_ne (ne_of_none (s21 b o e) hT2)]; exact s21 b o e
      · rw [take_snoc hw, List.map_append, List.map_append]
        refine (ta21.keep kk).snoc (.tup (SqT.of ((upd_ne nET.symm).trans upd_same)) ?_)
        show TpAll K _ [.int ((w.1 : Int) + b), .ref c] [.int ((w.1 + b.toNat : Nat) : Int), encT w.2]
        rw [show ((w.1 + b.toNat : Nat) : Int) = (w.1 : Int) + b by omega]
        exact .cons (.int _) (.cons (tp_ints (kt_t kk hc)) .nil)
    rintro H21 ⟨acc2, s21, hE21, ta21⟩
    rw [hul6, List.take_length, hcpx] at ta21
    walk_at "rd"
    refine ⟨_, _, rfl, .inl ⟨SqL.of hE21, fun l2 hl2 => ?_⟩⟩
    have sx := (s20.trans s21).trans (Same.new (o := .tup acc2) hl2)
    refine ⟨_, _, (tin2.keep (Kt.of sx)).dp, (tp_new hl2 ta21).dp, shaped_wt, shaped_wt, ?_⟩
    rw [shaped_eqv shaped_wt]
    have sy := s19.trans sx
    walk_at "rd"
    exact ⟨_, _, _, _, rfl, d16.trans (Dr.same d16.2.1 sy), sy _ _ hW16, tax16.keep (Kt.of sy)⟩
end
end
section
local macro_rules | `(tactic| walk_at "len") => `(tactic| (intro vs H Q E h; first
  | (obtain ⟨_, e, _⟩ := h; subst e; rfl) | (obtain ⟨_, _, e, _⟩ := h; subst e; rfl) | (obtain ⟨_, _, _, e, _⟩ := h; subst e; rfl) | (obtain ⟨_, _, _, _, e, _⟩ := h; subst e; rfl)))
local macro_rules | `(tactic| walk_at "rd1") => `(tactic| first
  | refine ⟨_, rfl, ?_⟩
  | refine ⟨rfl, ?_⟩
  | refine ⟨trivial, ?_⟩
  | refine ⟨_, _, rfl, rfl, ?_⟩
  | refine ⟨_, rfl, rfl, ?_⟩
  | refine ⟨_, _, _, _, true, rfl, .ty _, .base (.str _), kit_ty (by decide +kernel), ?_⟩
  | refine ⟨_, _, _, _, true, rfl, .ty _, .base (.int _), kit_ty (by decide +kernel), ?_⟩
  | refine ⟨_, _, _, _, false, rfl, .ty _, .base (.int _), kit_ty (by decide +kernel), ?_⟩
  | refine ⟨_, rfl, rfl, trivial, ?_⟩
  | refine ⟨_, _, rfl, ?_⟩
  | refine ⟨_, _, rfl, rfl, by decide, ?_⟩
  | refine ⟨_, _, rfl, rfl, sz (by omega), ?_⟩
  | refine ⟨_, _, rfl, rfl, ⟨by decide, by decide⟩, ?_⟩
  | refine ⟨_, _, _, rfl, rfl, ?_⟩
  | refine ⟨_, _, _, rfl, ?_⟩
  | refine And.intro (Nat.zero_le _) ?_
  | refine And.intro (show List.length _ ≤ sizeLine from Nat.le_of_ble_eq_true rfl) ?_
  | refine And.intro (.inl ⟨rfl, _, SqL.of (by assumption)⟩) ?_
  | refine And.intro (by assumption) ?_
  | refine And.intro (sz (by omega)) ?_
  | refine And.intro (by omega) ?_
  | refine Or.inl ⟨_, rfl, ?_⟩
  | refine Or.inr ⟨_, rfl, ?_⟩
  | refine ⟨_, _, rfl, .inl (SqL.of (by assumption)), ?_⟩
  | refine ⟨_, _, rfl, .inl (by assumption), ?_⟩
  | refine ⟨_, _, rfl, .inr (by assumption), ?_⟩
  | refine ⟨_, _, _, _, rfl, rfl, SqL.of (by assumption), rfl, ?_⟩
  | refine ⟨_, _, _, _, rfl, rfl, SqL.of upd_same, rfl, ?_⟩
  | refine ⟨_, _, _, _, rfl, rfl, by assumption, rfl, ?_⟩
  | refine ⟨_, _, _, _, rfl, rfl, upd_same, rfl, ?_⟩
  | refine And.intro (show CPow _ _ from ⟨by decide, by decide, by decide⟩) ?_
  | refine And.intro (show CDiv _ _ from ⟨by decide, by decide⟩) ?_
  | refine And.intro (show CMul _ _ from .inl ⟨by decide, by decide⟩) ?_
  | refine And.intro (show CMul _ _ from .inr ⟨by decide, by decide⟩) ?_)
local macro_rules | `(tactic| walk_at "rd") => `(tactic| repeat (walk_at "rd1"))
section
variable {P : Program} {w : World} {K : PySem.W.Frag} {mg : Str → Option Value} {base : Heap} {a : Ad} {d : Fd}
def c7 : List Int := List.replicate 40 7
def c9 : List Int := List.replicate 40 9
theorem v7 : (List.replicate (40 : Int).toNat [V.int 7]).flatten = c7.map V.int := rfl
theorem v9 : (List.replicate (40 : Int).toNat [V.int 9]).flatten = c9.map V.int := rfl
def prb (z : Str) : Bool := (tl z).all fun c => decide (32 ≤ c) && decide (c ≤ 126)
theorem pr_b {z : Str} (h : prb z = true) : pr z := fun c hc => by
  have := List.all_eq_true.mp h c hc
  simpa using this
def wls (z : Str) : List (Nat × List Int) := wl (tl z) 0 (z.length - 121)
def Z1 : Str := Str.ofString "a#" ++ winS c7 ++ winS c9 ++ Str.ofString "#"
def Z2 : Str := cutS (winS c7) none (some (-1))
def Z3 : Str := Str.ofString "#" ++ Txt.mul (Str.ofString "000") 39 ++ Str.ofString "997;"
def Z4 : Str := Str.ofString "#" ++ Txt.mul (Str.ofString "000") 39 ++ Str.ofString "996;"
def c996 : List Int := List.replicate 39 0 ++ [996]
theorem ev1 : wls Z1 = [(2, c7), (124, c9)] := by decide +kernel
theorem ev2 : wls Z2 = [] := by decide +kernel
theorem ev3 : wls Z3 = [] := by decide +kernel
theorem ev4 : wls Z4 = [(0, c996)] := by decide +kernel
theorem ev5 : wls (Str.ofString "") = [] := by decide +kernel
theorem ev6 : wls (Str.ofString "##") = [] := by decide +kernel
theorem ev7 : wl (tl (winS c7 ++ winS c9)) 1 (244 - 121) = [(122, c9)] := by decide +kernel
theorem ev8 : wl (tl (winS c7)) 0 (121 - 121) = [] := wl_nil (Nat.le_refl _)
theorem pZ : pr Z1 ∧ pr Z2 ∧ pr Z3 ∧ pr Z4 ∧ pr (Str.ofString "") ∧ pr (Str.ofString "##") := ⟨pr_b (by decide +kernel), pr_b (by decide +kernel), pr_b (by decide +kernel), pr_b (by decide +kernel), pr_b (by decide +kernel), pr_b (by decide +kernel)⟩
theorem lZ : Z1.length ≤ 60000 ∧ Z2.length ≤ 60000 ∧ Z3.length ≤ 60000 ∧ Z4.length ≤ 60000 ∧ (winS c7).length = 122 ∧ (winS c9).length = 122 ∧ (winS c7 ++ winS c9).length = 244 := by decide +kernel
theorem lM : (Txt.mul (Str.ofString "000") 39).length = 117 := by decide +kernel
theorem okM : MulOk (Str.ofString "000") 39 := ⟨by decide +kernel, fun _ _ => by decide +kernel, fun _ _ => by decide +kernel⟩
theorem ev9 : pcs (Str.ofString "").length (wls (Str.ofString "")) = [] := by rw [ev5]; rfl
theorem ev10 : pcs (Str.ofString "##").length (wls (Str.ofString "##")) = [pO 0 2] := by rw [ev6]; rfl
end
end
section
local macro_rules | `(tactic| walk_at "len") => `(tactic| (intro vs H Q E h; first
  | (obtain ⟨_, e, _⟩ := h; subst e; rfl) | (obtain ⟨_, _, e, _⟩ := h; subst e; rfl) | (obtain ⟨_, _, _, e, _⟩ := h; subst e; rfl) | (obtain ⟨_, _, _, _, e, _⟩ := h; subst e; rfl)))
local macro_rules | `(tactic| walk_at "rd1") => `(tactic| first
  | refine ⟨_, rfl, ?_⟩
  | refine ⟨rfl, ?_⟩
  | refine ⟨trivial, ?_⟩
  | refine ⟨_, _, rfl, rfl, ?_⟩
  | refine ⟨_, rfl, rfl, ?_⟩
  | refine ⟨_, _, _, _, true, rfl, .ty _, .base (.str _), kit_ty (by decide +kernel), ?_⟩
  | refine ⟨_, _, _, _, true, rfl, .ty _, .base (.int _), kit_ty (by decide +kernel), ?_⟩
  | refine ⟨_, _, _, _, false, rfl, .ty _, .base (.int _), kit_ty (by decide +kernel), ?_⟩
  | refine ⟨_, rfl, rfl, trivial, ?_⟩
  | refine ⟨_, _, rfl, ?_⟩
  | refine ⟨_, _, rfl, rfl, by decide, ?_⟩
  | refine ⟨_, _, rfl, rfl, sz (by omega), ?_⟩
  | refine ⟨_, _, rfl, rfl, ⟨by decide, by decide⟩, ?_⟩
  | refine ⟨_, _, _, rfl, rfl, ?_⟩
  | refine ⟨_, _, _, rfl, ?_⟩
  | refine And.intro (Nat.zero_le _) ?_
  | refine And.intro (show List.length _ ≤ sizeLine from Nat.le_of_ble_eq_true rfl) ?_
  | refine And.intro (.inl ⟨rfl, _, SqL.of (by assumption)⟩) ?_
  | refine And.intro (by assumption) ?_
  | refine And.intro (sz (by omega)) ?_
  | refine And.intro (by omega) ?_
  | refine Or.inl ⟨_, rfl, ?_⟩
  | refine Or.inr ⟨_, rfl, ?_⟩
  | refine ⟨_, _, rfl, .inl (SqL.of (by assumption)), ?_⟩
  | refine ⟨_, _, rfl, .inl (by assumption), ?_⟩
  | refine ⟨_, _, rfl, .inr (by assumption), ?_⟩
  | refine ⟨_, _, _, _, rfl, rfl, SqL.of (by assumption), rfl, ?_⟩
  | refine ⟨_, _, _, _, rfl, rfl, SqL.of upd_same, rfl, ?_⟩
  | refine ⟨_, _, _, _, rfl, rfl, by assumption, rfl, ?_⟩
  | refine ⟨_, _, _, _, rfl, rfl, upd_same, rfl, ?_⟩
  | refine And.intro (show CPow _ _ from ⟨by decide, by decide, by decide⟩) ?_
  | refine And.intro (show CDiv _ _ from ⟨by decide, by decide⟩) ?_
  | refine And.intro (show CMul _ _ from .inl ⟨by decide, by decide⟩) ?_
  | refine And.intro (show CMul _ _ from .inr ⟨by decide, by decide⟩) ?_)
local macro_rules | `(tactic| walk_at "rd") => `(tactic| repeat (walk_at "rd1"))
section
variable {P : Program} {w : World} {K : PySem.W.Frag} {mg : Str → Option Value} {base : Heap} {a : Ad} {d : Fd}
local macro_rules | `(tactic| walk_at "rd1") => `(tactic| first
  | refine And.intro ⟨_, rfl⟩ ?_
  | refine And.intro ⟨_, by assumption⟩ ?_
  | refine And.intro ⟨_, SqL.of (by assumption)⟩ ?_)
def sp_law (K : PySem.W.Frag) : Sp := fun vs H Q _ => ∃ (a : Addr) (ns : List Int), vs = [.ref a] ∧ SqL K H a (ns.map V.int) ∧ ns.length ≤ 63 ∧ ∀ H', Q (.bl true) H'
theorem ok_law (T : Txt K mg a d) (G_law_right : FnOk P w K mg base CX0 6 a.law_right d.law_right ["tray"] (sp_law_right K)) (G_law_tray : FnOk P w K mg base CX0 1 a.law_tray d.law_tray ["script", "spot"] (sp_law_tray K)) (G_law_window : FnOk P w K mg base CX0 2 a.law_window d.law_window ["cells"] (sp_law_window K)) (G_pieces : FnOk P w K mg base CX0 5 a.pieces d.pieces ["text"] (sp_pieces K)) (G_windows : FnOk P w K mg base CX0 4 a.windows d.windows ["text"] (sp_windows K)) (G_windows_in : FnOk P w K mg base CX0 4 a.windows_in d.windows_in ["text", "begin", "end"] (sp_windows_in K)) : FnOk P w K mg base CX0 7 a.law d.law ["script"] (sp_law K) := by
  refine T.F_law.ok sc_law (by walk_at "len") (fun cdv A outer s H vs Q E hr h => ?_)
  obtain ⟨l, ns, rfl, hS, hl, k⟩ := h
  refine ⟨_, (pss_cons (ps_for PassesOwn.never rfl (pi_range1 (by rfl) T.b_range (pa_cons (pe_callB (call_max2 rfl) (by rfl) T.b_max (by decide +kernel) (pa_cons pe_int (pa_cons (pe_callB (call_min2 rfl) (by rfl) T.b_min (by decide +kernel) (pa_cons pe_int (pa_cons (pe_callB call_len_seq (by rfl) T.b_len (by decide +kernel) (pa_cons (pv 0) pa_nil)) pa_nil))) pa_nil))) pa_nil)) (pg_name (i := 1) sc_law.nd rfl (Or.inl rfl))
      (pss_cons (ps_set (i := 2) sc_law.nd rfl (Or.inl rfl) (pe_call G_law_tray (hr.mono (by decide)) (by rfl) T.g_law_tray T.k_law_tray T.B_law_tray .nil pass0 (pa_cons (pv 0) (pa_cons (pv 1) pa_nil))))
      (pss_one (ps_for PassesOwn.never rfl (pi_range1 (by rfl) T.b_range (pa_cons pe_int pa_nil)) (pg_name (i := 3) sc_law.nd rfl (Or.inl rfl))
      (pss_one (ps_if (pt_not (pt_val (pe_call G_law_right (hr.mono (by decide)) (by rfl) T.g_law_right T.k_law_right T.B_law_right .nil pass0 (pa_cons (pv 2) pa_nil)))) (pss_one (ps_ret pe_bl)) pss_nil))))))
      (pss_cons (ps_par (i := 4) (j := 5) (by rfl) sc_law.nd rfl rfl (by decide) rfl rfl (pa_cons (pe_call G_law_window (hr.mono (by decide)) (by rfl) T.g_law_window T.k_law_window T.B_law_window .nil pass0 (pa_cons (pe_op op_repT (pe_tup (pa_cons pe_int pa_nil)) pe_int) pa_nil)) (pa_cons (pe_call G_law_window (hr.mono (by decide)) (by rfl) T.g_law_window T.k_law_window T.B_law_window .nil pass0 (pa_cons (pe_op op_repT (pe_tup (pa_cons pe_int pa_nil)) pe_int) pa_nil)) pa_nil)) (by rfl))
      (pss_cons (ps_set (i := 6) sc_law.nd rfl (Or.inl rfl) (pe_lst (pa_cons (pe_lc (own := [("place", 7), ("cells", 8)]) (g := gTup K 2 (gCons (gName 7) (gCons (gName 8) gNil))) rfl sc_law.nd (pi_tup (pe_call G_windows (hr.mono (by decide)) (by rfl) T.g_windows T.k_windows T.B_windows .nil pass0 (pa_cons (pe_op op_add_str (pe_op op_add_str (pe_op op_add_str pe_str (pv 4)) (pv 5)) pe_str) pa_nil))) (blkOk_by (N := n_law) (sc := defScope s_law) (by decide +kernel)) (fun _ _ _ _ _ => (pg_tup rfl (pgs_cons (pg_name (i := 7) sc_law.nd rfl (Or.inl rfl) (.inr rfl)) (pgs_cons (pg_name (i := 8) sc_law.nd rfl (Or.inl rfl) (.inr rfl)) pgs_nil)))) (fun _ _ _ _ _ => pts_nil) (fun _ _ _ _ _ => (pv 7))) (pa_cons (pe_call G_windows (hr.mono (by decide)) (by rfl) T.g_windows T.k_windows T.B_windows .nil pass0 (pa_cons (pe_slice sl_str (pv 4) po_none (po_some (pe_un un_neg pe_int))) pa_nil)) (pa_cons (pe_call G_windows (hr.mono (by decide)) (by rfl) T.g_windows T.k_windows T.B_windows .nil pass0 (pa_cons pe_str pa_nil)) pa_nil)))))
      (pss_cons (ps_if (PW.pt (pw_or (pt_cmpR (op_neD hr.units) (pv 6) (pe_lst (pa_cons (pe_lst (pa_cons pe_int (pa_cons pe_int pa_nil))) (pa_cons (pe_tup pa_nil) (pa_cons (pe_tup pa_nil) pa_nil)))) (nomark _)) (pw_or (pt_cmpR (op_neD hr.units) (pe_call G_pieces (hr.mono (by decide)) (by rfl) T.g_pieces T.k_pieces T.B_pieces .nil pass0 (pa_cons pe_str pa_nil)) (pe_tup pa_nil) (nomark _)) (pw_or1 (pt_cmpR (op_neD hr.units) (pe_call G_pieces (hr.mono (by decide)) (by rfl) T.g_pieces T.k_pieces T.B_pieces .nil pass0 (pa_cons pe_str pa_nil)) (pe_tup (pa_cons (pe_tup (pa_cons pe_str (pa_cons pe_int (pa_cons pe_int pa_nil)))) pa_nil)) (nomark _)))))) (pss_one (ps_ret pe_bl)) pss_nil)
      (pss_cons (ps_if (PW.pt (pw_or (pt_cmpR (op_neD hr.units) (pe_call G_windows (hr.mono (by decide)) (by rfl) T.g_windows T.k_windows T.B_windows .nil pass0 (pa_cons (pe_op op_add_str (pe_op op_add_str pe_str (pe_op op_repS pe_str pe_int)) pe_str) pa_nil)) (pe_tup pa_nil) (nomark _)) (pw_or1 (pt_cmpR op_ne (pe_ix ix_tup (pe_ix ix_tup (pe_call G_windows (hr.mono (by decide)) (by rfl) T.g_windows T.k_windows T.B_windows .nil pass0 (pa_cons (pe_op op_add_str (pe_op op_add_str pe_str (pe_op op_repS pe_str pe_int)) pe_str) pa_nil)) pe_int (fun _ _ => rfl)) pe_int (fun _ _ => rfl)) pe_int (nomark _))))) (pss_one (ps_ret pe_bl)) pss_nil)
      (pss_one (ps_ret (pe_and (pe_cmpR (op_eqD hr.units) (pe_call G_windows_in (hr.mono (by decide)) (by rfl) T.g_windows_in T.k_windows_in T.B_windows_in .nil pass0 (pa_cons (pe_op op_add_str (pv 4) (pv 5)) (pa_cons pe_int (pa_cons pe_int pa_nil)))) (pe_tup (pa_cons (pe_tup (pa_cons pe_int (pa_cons (pe_op op_repT (pe_tup (pa_cons pe_int pa_nil)) pe_int) pa_nil))) pa_nil)) (nomark _)) (pe_one (pe_cmpR (op_eqD hr.units) (pe_call G_windows_in (hr.mono (by decide)) (by rfl) T.g_windows_in T.k_windows_in T.B_windows_in .nil pass0 (pa_cons (pv 4) (pa_cons pe_int (pa_cons pe_int pa_nil)))) (pe_tup pa_nil) (nomark _))))))))))), ?_⟩
  walk_at "rd"
  refine for_it walk_range (fun i σ H' => ∃ v1 v2 v3 : Option V, σ = [some (.ref l), v1, v2, v3, none, none, none, none, none] ∧ Same H H') ⟨none, none, none, rfl, Same.refl H⟩ (fun _ _ _ _ _ => trivial) ?_ ?_
  · rintro i v σ H1 H2 hi ⟨v1, v2, v3, rfl, s1⟩ ⟨rfl, rfl⟩
    have hi3 : i ≤ 3 := by
      revert hi
      split <;> (try split) <;> intro hi <;> omega
    have hS1 := s1.seq hS
    walk_at "rd"
    refine ⟨l, ns, i, by show [V.ref l, V.int ((0 : Int) + i)] = _; rw [Int.zero_add], hS1, hi3, fun p H3 s3 hp hTp => ?_⟩
    have d0 : Dr p H3 H3 := Dr.refl hTp
    have fin : ∀ H4, Dr p H3 H4 → Same H H4 := fun H4 d b o e => d.1 b o (ne_of_none (s1 b o e) hp) (s3 b o (s1 b o e))
    walk_at "rd"
    refine for_it walk_range (fun j σ H' => ∃ v3 : Option V, σ = [some (.ref l), some (.int ((0 : Int) + (i : Int))), some (.ref p), v3, none, none, none, none, none] ∧ Dr p H3 H') ⟨v3, rfl, d0⟩ (fun _ _ _ _ _ => trivial) ?_ ?_
    · rintro j v σ H4 H5 hj ⟨v3, rfl, d5⟩ ⟨rfl, rfl⟩
      have hT5 := d5.2.1
      walk_at "rd"
      intro H6 d6
      walk_at "rd"
      exact d5.trans d6
    · rintro σ H4 ⟨v3, rfl, d4⟩
      exact ⟨_, _, _, rfl, fin H4 d4⟩
  rintro σ H1 ⟨v1, v2, v3, rfl, s1⟩
  walk_at "rd"
  refine fun t1 ht1 => ?_
  walk_at "rd"
  refine ⟨_, _, _, rfl, rfl, SqT.of upd_same, by simp, by decide, by decide, by decide, fun t2 ht2 => ?_⟩
  refine ⟨t2, c7, rfl, SqT.of (upd_same.trans (by rw [v7])), by decide, by decide, fun H2 s2 => ?_⟩
  walk_at "rd"
  refine fun t3 ht3 => ?_
  walk_at "rd"
  refine ⟨_, _, _, rfl, rfl, SqT.of upd_same, by simp, by decide, by decide, by decide, fun t4 ht4 => ?_⟩
  refine ⟨t4, c9, rfl, SqT.of (upd_same.trans (by rw [v9])), by decide, by decide, fun H3 s3 => ?_⟩
  have lz := lZ
  have p7 : pr (winS c7) := pr_win
  have p9 : pr (winS c9) := pr_win
  have pz := pZ
  have f1 : pr (Str.ofString "a#" ++ winS c7 ++ winS c9 ++ Str.ofString "#") ∧ wls (Str.ofString "a#" ++ winS c7 ++ winS c9 ++ Str.ofString "#") = [(2, c7), (124, c9)] := ⟨pz.1, ev1⟩
  have f2 : pr (cutS (winS c7) none (some (-1))) ∧ wls (cutS (winS c7) none (some (-1))) = [] := ⟨pz.2.1, ev2⟩
  have f3 : pr (Str.ofString "#" ++ Txt.mul (Str.ofString "000") 39 ++ Str.ofString "997;") ∧ wls (Str.ofString "#" ++ Txt.mul (Str.ofString "000") 39 ++ Str.ofString "997;") = [] := ⟨pz.2.2.1, ev3⟩
  have f4 : pr (Str.ofString "#" ++ Txt.mul (Str.ofString "000") 39 ++ Str.ofString "996;") ∧ wls (Str.ofString "#" ++ Txt.mul (Str.ofString "000") 39 ++ Str.ofString "996;") = [(0, c996)] := ⟨pz.2.2.2.1, ev4⟩
  have pz5 : pr (Str.ofString "") := pz.2.2.2.2.1
  have pz6 : pr (Str.ofString "##") := pz.2.2.2.2.2
  clear pz
  have f7 : wl (tl (winS c7 ++ winS c9)) 1 (244 - 121) = [(122, c9)] := ev7
  have l7 : (winS c7).length = 122 := lz.2.2.2.2.1
  have l9 : (winS c9).length = 122 := lz.2.2.2.2.2.1
  clear lz
  generalize winS c7 = S7 at *
  generalize winS c9 = S9 at *
  have l5 := lM
  generalize hM : Txt.mul (Str.ofString "000") 39 = M at *
  have l1 : (Str.ofString "a#").length = 2 := rfl
  have l2 : (Str.ofString "#").length = 1 := rfl
  have l3 : (Str.ofString "997;").length = 4 := rfl
  have l4 : (Str.ofString "996;").length = 4 := rfl
  have z7 : S7.length ≤ sizeLine := sz (by omega)
  have z9 : S9.length ≤ sizeLine := sz (by omega)
  have lx1 := len_app (Str.ofString "a#") S7
  have lx2 := len_app (Str.ofString "a#" ++ S7) S9
  have lx3 := len_app (Str.ofString "#") M
  have lx4 := len_app (Str.ofString "a#" ++ S7 ++ S9) (Str.ofString "#")
  have lx5 := len_app (Str.ofString "#" ++ M) (Str.ofString "997;")
  have lx6 := len_app (Str.ofString "#" ++ M) (Str.ofString "996;")
  have lx7 := len_app S7 S9
  have p79 : pr (S7 ++ S9) := pr_app p7 p9
  have pz1 := f1.1
  have lz1 : (Str.ofString "a#" ++ S7 ++ S9 ++ Str.ofString "#").length ≤ 60000 := by omega
  have pz2 := f2.1
  have lz2 : (cutS S7 none (some (-1))).length ≤ 60000 := Nat.le_trans (cutS_length _ _ _) (by omega)
  have pz3 := f3.1
  have lz3 : (Str.ofString "#" ++ M ++ Str.ofString "997;").length ≤ 60000 := by omega
  have pz4 := f4.1
  have lz4 : (Str.ofString "#" ++ M ++ Str.ofString "996;").length ≤ 60000 := by omega
  have lz5 : (Str.ofString "").length ≤ 60000 := Nat.zero_le _
  have lz6 : (Str.ofString "##").length ≤ 60000 := Nat.le_of_ble_eq_true rfl
  walk_at "rd"
  intro v H4 s4 t4
  have t4' : Tp K H4 v (.tuple ((wls (Str.ofString "a#" ++ S7 ++ S9 ++ Str.ofString "#")).map encW)) := t4
  rw [f1.2] at t4'
  clear t4
  generalize hws : ([(2, c7), (124, c9)] : List (Nat × List Int)) = ws at t4'
  have hwn : ws.length = 2 := by rw [← hws]; rfl
  cases t4' with
  | @tup U us ds hU hua =>
  have hul := hua.length
  rw [List.length_map, hwn] at hul
  walk_at "rd"
  refine fun D hD => lc_it walk_tup (fun i H' => Same H4 H' ∧ H' D = some (.lst ((ws.take i).map fun w => V.int w.1))) ⟨Same.new hD, upd_same⟩ (fun i H' _ ⟨s2, _⟩ => kt_t (Kt.of s2) hU) ?_ ?_
  · rintro i y H5 H6 hi ⟨s5, hD5⟩ ⟨rfl, hy⟩
    obtain ⟨w, T1, c, hw, rfl, hT, hc⟩ := win_item (hua.keep (Kt.of s5)) hy
    refine ⟨_, _, rfl, hT, rfl, ?_⟩
    walk_at "rd"
    refine ⟨_, hD5, szl (by rw [List.length_map, List.length_take]; omega), fun b o e => ?_, ?_⟩
    · rw [upd_ne (ne_of_none e hD)]; exact s5 b o e
    · rw [upd_same, take_snoc hw, List.map_append]; rfl
  rintro H5 ⟨s5, hD5⟩
  have hD5' : H5 D = some (.lst [.int 2, .int 124]) := by
    rw [hul, List.take_of_length_le (by omega), ← hws] at hD5
    exact hD5
  clear hD5
  walk_at "rd"
  intro v6 H6 s6 t6
  have t6' : Tp K H6 v6 (.tuple ((wls (cutS S7 none (some (-1)))).map encW)) := t6
  rw [f2.2] at t6'
  clear t6
  walk_at "rd"
  intro v8 H7 s7 t7
  have t7' : Tp K H7 v8 (.tuple ((wls (Str.ofString "")).map encW)) := t7
  rw [ev5] at t7'
  clear t7
  walk_at "rd"
  refine fun L hL => ?_
  have sL := Same.new (o := .lst [.ref D, v6, v8]) hL
  have gL := upd_same (H := H7) (a := L) (o := .lst [.ref D, v6, v8])
  have gD := sL _ _ (s7 _ _ (s6 _ _ hD5'))
  have t6'' := t6'.keep (Kt.of (s7.trans sL))
  have t7'' := t7'.keep (Kt.of sL)
  generalize upd H7 L (.lst [.ref D, v6, v8]) = H8 at *
  walk_at "rd"
  refine fun M1 hM1 => ?_
  walk_at "rd"
  refine fun M2 hM2 => ?_
  walk_at "rd"
  refine fun M3 hM3 => ?_
  walk_at "rd"
  refine fun M4 hM4 => ?_
  have m1 := Same.new (o := .lst [.int 2, .int 124]) hM1
  have m2 := Same.new (o := .tup []) hM2
  have m3 := Same.new (o := .tup []) hM3
  have m4 := Same.new (o := .lst [.ref M1, .ref M2, .ref M3]) hM4
  have ma := ((m1.trans m2).trans m3).trans m4
  have sh : SeqAt.shaped (.list [.list [.int 2, .int 124], .tuple [], .tuple []]) = true := by decide +kernel
  refine ⟨.list [.list [.int 2, .int 124], .tuple [], .tuple []], .list [.list [.int 2, .int 124], .tuple [], .tuple []], .lst (SqL.of (ma _ _ gL)) (.cons (.lst (SqL.of (ma _ _ gD)) (.cons (.int _) (.cons (.int _) .nil))) (.cons (t6''.keep (Kt.of ma)).dp (.cons (t7''.keep (Kt.of ma)).dp .nil))),
    .lst (SqL.of upd_same) (.cons (.lst (SqL.of (((m2.trans m3).trans m4) _ _ upd_same)) (.cons (.int _) (.cons (.int _) .nil))) (.cons (.tup (SqT.of ((m3.trans m4) _ _ upd_same)) .nil) (.cons (.tup (SqT.of (m4 _ _ upd_same)) .nil) .nil))), sh, sh, ?_⟩
  rw [shaped_eqv sh]
  generalize upd (upd (upd (upd H8 M1 (.lst [.int 2, .int 124])) M2 (.tup [])) M3 (.tup [])) M4 (.lst [.ref M1, .ref M2, .ref M3]) = H9 at *
  clear gL gD t6'' t7'' t6' t7' hM1 hM2 hM3 hM4 m1 m2 m3 m4
  walk_at "rd"
  intro v9 H10 s10 t10
  have t10' : Tp K H10 v9 (.tuple (pcs (Str.ofString "").length (wls (Str.ofString "")))) := t10
  rw [ev9] at t10'
  clear t10
  walk_at "rd"
  refine fun q1 hq1 => ?_
  refine ⟨_, _, (t10'.keep (Kt.of (Same.new (o := .tup []) hq1))).dp, (Tp.tup (SqT.of upd_same) .nil : Tp K _ _ (.tuple [])).dp, rfl, rfl, ?_⟩
  generalize upd H10 q1 (.tup []) = H11 at *
  walk_at "rd"
  intro v11 H12 s12 t12
  have t12' : Tp K H12 v11 (.tuple (pcs (Str.ofString "##").length (wls (Str.ofString "##")))) := t12
  rw [ev10] at t12'
  clear t12
  walk_at "rd"
  refine fun q2 hq2 => ?_
  walk_at "rd"
  refine fun q3 hq3 => ?_
  have m5 := (Same.new (o := .tup [.str "other", .int 0, .int 2]) hq2).trans (Same.new (o := .tup [.ref q2]) hq3)
  have sh2 : SeqAt.shaped (.tuple [pO 0 2]) = true := by decide +kernel
  refine ⟨_, .tuple [pO 0 2], (t12'.keep (Kt.of m5)).dp, .tup (SqT.of upd_same) (.cons (tp_piece (SqT.of ((Same.new hq3) _ _ upd_same))).dp .nil), sh2, sh2, ?_⟩
  rw [shaped_eqv sh2]
  generalize upd (upd H12 q2 (.tup [.str "other", .int 0, .int 2])) q3 (.tup [.ref q2]) = H13 at *
  walk_at "rd"
  refine ⟨okM, ?_⟩
  rw [hM]
  walk_at "rd"
  intro v14 H14 s14 t14
  have t14' : Tp K H14 v14 (.tuple ((wls (Str.ofString "#" ++ M ++ Str.ofString "997;")).map encW)) := t14
  rw [f3.2] at t14'
  clear t14
  walk_at "rd"
  refine fun q4 hq4 => ?_
  refine ⟨_, _, (t14'.keep (Kt.of (Same.new (o := .tup []) hq4))).dp, (Tp.tup (SqT.of upd_same) .nil : Tp K _ _ (.tuple [])).dp, rfl, rfl, ?_⟩
  generalize upd H14 q4 (.tup []) = H15 at *
  walk_at "rd"
  refine ⟨okM, ?_⟩
  rw [hM]
  walk_at "rd"
  intro v16 H16 s16 t16
  have t16' : Tp K H16 v16 (.tuple ((wls (Str.ofString "#" ++ M ++ Str.ofString "996;")).map encW)) := t16
  rw [f4.2] at t16'
  clear t16
  cases t16' with
  | @tup U2 us2 ds2 hU2 hua2 =>
  have hul2 : us2.length = 1 := hua2.length
  obtain ⟨u, rfl⟩ : ∃ u, us2 = [u] := by
    match us2, hul2 with
    | [u], _ => exact ⟨u, rfl⟩
  obtain ⟨w, T1, c, hw, rfl, hT, hc⟩ := win_item hua2 (i := 0) rfl
  obtain rfl : w = (0, c996) := (Option.some.inj hw).symm
  walk_at "rd"
  refine ⟨by decide, by show (244 : Nat) ≤ _; omega, fun v17 H17 s17 t17 => ?_⟩
  rw [f7] at t17
  walk_at "rd"
  refine fun q5 hq5 => ?_
  walk_at "rd"
  refine ⟨_, _, _, rfl, rfl, SqT.of upd_same, by simp, by decide, by decide, by decide, fun q6 hq6 => ?_⟩
  have m6 := (Same.new (o := .tup [.int 9]) hq5).trans (Same.new (o := .tup (List.replicate (40 : Int).toNat [V.int 9]).flatten) hq6)
  have t17' := t17.keep (Kt.of m6)
  generalize hH8 : upd (upd H17 q5 (.tup [.int 9])) q6 (.tup (List.replicate (40 : Int).toNat [V.int 9]).flatten) = H18 at *
  have hq6' : H18 q6 = some (.tup (c9.map V.int)) := by rw [← hH8, ← My.v9]; exact upd_same
  walk_at "rd"
  refine fun q7 hq7 => ?_
  walk_at "rd"
  refine fun q8 hq8 => ?_
  have m7 := Same.new (o := .tup [.int 122, .ref q6]) hq7
  have m8 := Same.new (o := .tup [.ref q7]) hq8
  have t18 := t17'.keep (Kt.of (m7.trans m8))
  have g6 := m8 _ _ (m7 _ _ hq6')
  have g7 := m8 _ _ (upd_same (H := H18) (a := q7) (o := .tup [.int 122, .ref q6]))
  have e18 : Tp K (upd (upd H18 q7 (.tup [.int 122, .ref q6])) q8 (.tup [.ref q7])) (.ref q8) (.tuple (([(122, c9)] : List (Nat × List Int)).map encW)) :=
    .tup (SqT.of upd_same) (.cons (.tup (SqT.of g7) (.cons (.int _) (.cons (tp_ints (SqT.of g6)) .nil))) .nil)
  have sh3 : SeqAt.shaped (.tuple (([(122, c9)] : List (Nat × List Int)).map encW)) = true := shaped_wt
  refine ⟨_, _, t18.dp, e18.dp, sh3, sh3, ?_⟩
  rw [shaped_eqv sh3]
  generalize upd (upd H18 q7 (.tup [.int 122, .ref q6])) q8 (.tup [.ref q7]) = H19 at *
  walk_at "rd"
  refine ⟨by show (121 : Nat) ≤ _; omega, fun v20 H20 s20 t20 => ?_⟩
  rw [wl_nil (Nat.le_refl _)] at t20
  walk_at "rd"
  refine fun q9 hq9 => ?_
  have t21 := t20.keep (Kt.of (Same.new (o := .tup []) hq9))
  refine ⟨_, _, t21.dp, (Tp.tup (SqT.of upd_same) .nil : Tp K _ _ (.tuple [])).dp, rfl, rfl, ?_⟩
  exact k _
end
end
local macro_rules | `(tactic| walk_at "len") => `(tactic| (intro vs H Q E h; first
  | (obtain ⟨_, e, _⟩ := h; subst e; rfl) | (obtain ⟨_, _, e, _⟩ := h; subst e; rfl) | (obtain ⟨_, _, _, e, _⟩ := h; subst e; rfl) | (obtain ⟨_, _, _, _, e, _⟩ := h; subst e; rfl)))
local macro_rules | `(tactic| walk_at "rd1") => `(tactic| first
  | refine ⟨_, rfl, ?_⟩
  | refine ⟨rfl, ?_⟩
  | refine ⟨trivial, ?_⟩
  | refine ⟨_, _, rfl, rfl, ?_⟩
  | refine ⟨_, rfl, rfl, ?_⟩
  | refine ⟨_, _, _, _, true, rfl, .ty _, .base (.str _), kit_ty (by decide +kernel), ?_⟩
  | refine ⟨_, _, _, _, true, rfl, .ty _, .base (.int _), kit_ty (by decide +kernel), ?_⟩
  | refine ⟨_, _, _, _, false, rfl, .ty _, .base (.int _), kit_ty (by decide +kernel), ?_⟩
  | refine ⟨_, rfl, rfl, trivial, ?_⟩
  | refine ⟨_, _, rfl, ?_⟩
  | refine ⟨_, _, rfl, rfl, by decide, ?_⟩
  | refine ⟨_, _, rfl, rfl, sz (by omega), ?_⟩
  | refine ⟨_, _, rfl, rfl, ⟨by decide, by decide⟩, ?_⟩
  | refine ⟨_, _, _, rfl, rfl, ?_⟩
  | refine ⟨_, _, _, rfl, ?_⟩
  | refine And.intro (Nat.zero_le _) ?_
  | refine And.intro (show List.length _ ≤ sizeLine from Nat.le_of_ble_eq_true rfl) ?_
  | refine And.intro (.inl ⟨rfl, _, SqL.of (by assumption)⟩) ?_
  | refine And.intro (by assumption) ?_
  | refine And.intro (sz (by omega)) ?_
  | refine And.intro (by omega) ?_
  | refine Or.inl ⟨_, rfl, ?_⟩
  | refine Or.inr ⟨_, rfl, ?_⟩
  | refine ⟨_, _, rfl, .inl (SqL.of (by assumption)), ?_⟩
  | refine ⟨_, _, rfl, .inl (by assumption), ?_⟩
  | refine ⟨_, _, rfl, .inr (by assumption), ?_⟩
  | refine ⟨_, _, _, _, rfl, rfl, SqL.of (by assumption), rfl, ?_⟩
  | refine ⟨_, _, _, _, rfl, rfl, SqL.of upd_same, rfl, ?_⟩
  | refine ⟨_, _, _, _, rfl, rfl, by assumption, rfl, ?_⟩
  | refine ⟨_, _, _, _, rfl, rfl, upd_same, rfl, ?_⟩
  | refine And.intro (show CPow _ _ from ⟨by decide, by decide, by decide⟩) ?_
  | refine And.intro (show CDiv _ _ from ⟨by decide, by decide⟩) ?_
  | refine And.intro (show CMul _ _ from .inl ⟨by decide, by decide⟩) ?_
  | refine And.intro (show CMul _ _ from .inr ⟨by decide, by decide⟩) ?_)
local macro_rules | `(tactic| walk_at "rd") => `(tactic| repeat (walk_at "rd1"))
section
variable {P : Program} {w : World} {K : PySem.W.Frag} {mg : Str → Option Value} {base : Heap} {a : Ad} {d : Fd}
end
section
theorem all_mk {l : PySem.W.OpenLaw} {w : World} {K : PySem.W.Frag} {h : Heap} {mg : Str → Option Value} {fa : Addr} (X : K.In h) (G : h.Ns mainGlobals mg) (hfa : mg "law" = some (.ref fa))
    {f0 : Addr} {f1 : Addr} {f2 : Addr} {f3 : Addr} {f4 : Addr} {f5 : Addr} {f6 : Addr} {f7 : Addr} {f8 : Addr} {f9 : Addr} {f10 : Addr} {f11 : Addr} {f12 : Addr} {f13 : Addr} {f14 : Addr} {f15 : Addr} {f16 : Addr} {f17 : Addr} {f18 : Addr} {f19 : Addr} {f20 : Addr} {f21 : Addr} {f22 : Addr}
    {od0 an0 : Option Addr} {sl0 : Array (Option Value)} {oc0 kV0 dc0 pm0 cd0 ct0 : Value}
    (a0 : PySem.W.nsIn K mainGlobals "is_number" = some (some (.ref f0))) (l0 : K.lookup f0 = some ⟨oc0, od0, .func (PySem.W.fnOf "is_number" "is_number" (defArgs s_is_number) (defBody s_is_number) (defScope s_is_number) .none kV0 dc0 pm0 an0 cd0 ct0), sl0⟩) (c0 : PySem.W.codeIn K cd0 "is_number" = true) (k0 : PySem.W.keepIn K (.ref f0) = true)
    {od1 an1 : Option Addr} {sl1 : Array (Option Value)} {oc1 kV1 dc1 pm1 cd1 ct1 : Value}
    (a1 : PySem.W.nsIn K mainGlobals "check_number" = some (some (.ref f1))) (l1 : K.lookup f1 = some ⟨oc1, od1, .func (PySem.W.fnOf "check_number" "check_number" (defArgs s_check_number) (defBody s_check_number) (defScope s_check_number) .none kV1 dc1 pm1 an1 cd1 ct1), sl1⟩) (c1 : PySem.W.codeIn K cd1 "check_number" = true) (k1 : PySem.W.keepIn K (.ref f1) = true)
    {od2 an2 : Option Addr} {sl2 : Array (Option Value)} {oc2 kV2 dc2 pm2 cd2 ct2 : Value}
    (a2 : PySem.W.nsIn K mainGlobals "is_text" = some (some (.ref f2))) (l2 : K.lookup f2 = some ⟨oc2, od2, .func (PySem.W.fnOf "is_text" "is_text" (defArgs s_is_text) (defBody s_is_text) (defScope s_is_text) .none kV2 dc2 pm2 an2 cd2 ct2), sl2⟩) (c2 : PySem.W.codeIn K cd2 "is_text" = true) (k2 : PySem.W.keepIn K (.ref f2) = true)
    {od3 an3 : Option Addr} {sl3 : Array (Option Value)} {oc3 kV3 dc3 pm3 cd3 ct3 : Value}
    (a3 : PySem.W.nsIn K mainGlobals "check_text" = some (some (.ref f3))) (l3 : K.lookup f3 = some ⟨oc3, od3, .func (PySem.W.fnOf "check_text" "check_text" (defArgs s_check_text) (defBody s_check_text) (defScope s_check_text) .none kV3 dc3 pm3 an3 cd3 ct3), sl3⟩) (c3 : PySem.W.codeIn K cd3 "check_text" = true) (k3 : PySem.W.keepIn K (.ref f3) = true)
    {od4 an4 : Option Addr} {sl4 : Array (Option Value)} {oc4 kV4 dc4 pm4 cd4 ct4 : Value}
    (a4 : PySem.W.nsIn K mainGlobals "digits_cells" = some (some (.ref f4))) (l4 : K.lookup f4 = some ⟨oc4, od4, .func (PySem.W.fnOf "digits_cells" "digits_cells" (defArgs s_digits_cells) (defBody s_digits_cells) (defScope s_digits_cells) .none kV4 dc4 pm4 an4 cd4 ct4), sl4⟩) (c4 : PySem.W.codeIn K cd4 "digits_cells" = true) (k4 : PySem.W.keepIn K (.ref f4) = true)
    {od5 an5 : Option Addr} {sl5 : Array (Option Value)} {oc5 kV5 dc5 pm5 cd5 ct5 : Value}
    (a5 : PySem.W.nsIn K mainGlobals "cells_from" = some (some (.ref f5))) (l5 : K.lookup f5 = some ⟨oc5, od5, .func (PySem.W.fnOf "cells_from" "cells_from" (defArgs s_cells_from) (defBody s_cells_from) (defScope s_cells_from) .none kV5 dc5 pm5 an5 cd5 ct5), sl5⟩) (c5 : PySem.W.codeIn K cd5 "cells_from" = true) (k5 : PySem.W.keepIn K (.ref f5) = true)
    {od6 an6 : Option Addr} {sl6 : Array (Option Value)} {oc6 kV6 dc6 pm6 cd6 ct6 : Value}
    (a6 : PySem.W.nsIn K mainGlobals "windows" = some (some (.ref f6))) (l6 : K.lookup f6 = some ⟨oc6, od6, .func (PySem.W.fnOf "windows" "windows" (defArgs s_windows) (defBody s_windows) (defScope s_windows) .none kV6 dc6 pm6 an6 cd6 ct6), sl6⟩) (c6 : PySem.W.codeIn K cd6 "windows" = true) (k6 : PySem.W.keepIn K (.ref f6) = true)
    {od7 an7 : Option Addr} {sl7 : Array (Option Value)} {oc7 kV7 dc7 pm7 cd7 ct7 : Value}
    (a7 : PySem.W.nsIn K mainGlobals "standing" = some (some (.ref f7))) (l7 : K.lookup f7 = some ⟨oc7, od7, .func (PySem.W.fnOf "standing" "standing" (defArgs s_standing) (defBody s_standing) (defScope s_standing) .none kV7 dc7 pm7 an7 cd7 ct7), sl7⟩) (c7 : PySem.W.codeIn K cd7 "standing" = true) (k7 : PySem.W.keepIn K (.ref f7) = true)
    {od8 an8 : Option Addr} {sl8 : Array (Option Value)} {oc8 kV8 dc8 pm8 cd8 ct8 : Value}
    (a8 : PySem.W.nsIn K mainGlobals "pieces" = some (some (.ref f8))) (l8 : K.lookup f8 = some ⟨oc8, od8, .func (PySem.W.fnOf "pieces" "pieces" (defArgs s_pieces) (defBody s_pieces) (defScope s_pieces) .none kV8 dc8 pm8 an8 cd8 ct8), sl8⟩) (c8 : PySem.W.codeIn K cd8 "pieces" = true) (k8 : PySem.W.keepIn K (.ref f8) = true)
    {od9 an9 : Option Addr} {sl9 : Array (Option Value)} {oc9 kV9 dc9 pm9 cd9 ct9 : Value}
    (a9 : PySem.W.nsIn K mainGlobals "windows_in" = some (some (.ref f9))) (l9 : K.lookup f9 = some ⟨oc9, od9, .func (PySem.W.fnOf "windows_in" "windows_in" (defArgs s_windows_in) (defBody s_windows_in) (defScope s_windows_in) .none kV9 dc9 pm9 an9 cd9 ct9), sl9⟩) (c9 : PySem.W.codeIn K cd9 "windows_in" = true) (k9 : PySem.W.keepIn K (.ref f9) = true)
    {od10 an10 : Option Addr} {sl10 : Array (Option Value)} {oc10 kV10 dc10 pm10 cd10 ct10 : Value}
    (a10 : PySem.W.nsIn K mainGlobals "_law_tray" = some (some (.ref f10))) (l10 : K.lookup f10 = some ⟨oc10, od10, .func (PySem.W.fnOf "_law_tray" "_law_tray" (defArgs s_law_tray) (defBody s_law_tray) (defScope s_law_tray) .none kV10 dc10 pm10 an10 cd10 ct10), sl10⟩) (c10 : PySem.W.codeIn K cd10 "_law_tray" = true) (k10 : PySem.W.keepIn K (.ref f10) = true)
    {od11 an11 : Option Addr} {sl11 : Array (Option Value)} {oc11 kV11 dc11 pm11 cd11 ct11 : Value}
    (a11 : PySem.W.nsIn K mainGlobals "_law_pluck" = some (some (.ref f11))) (l11 : K.lookup f11 = some ⟨oc11, od11, .func (PySem.W.fnOf "_law_pluck" "_law_pluck" (defArgs s_law_pluck) (defBody s_law_pluck) (defScope s_law_pluck) .none kV11 dc11 pm11 an11 cd11 ct11), sl11⟩) (c11 : PySem.W.codeIn K cd11 "_law_pluck" = true) (k11 : PySem.W.keepIn K (.ref f11) = true)
    {od12 an12 : Option Addr} {sl12 : Array (Option Value)} {oc12 kV12 dc12 pm12 cd12 ct12 : Value}
    (a12 : PySem.W.nsIn K mainGlobals "_law_some" = some (some (.ref f12))) (l12 : K.lookup f12 = some ⟨oc12, od12, .func (PySem.W.fnOf "_law_some" "_law_some" (defArgs s_law_some) (defBody s_law_some) (defScope s_law_some) .none kV12 dc12 pm12 an12 cd12 ct12), sl12⟩) (c12 : PySem.W.codeIn K cd12 "_law_some" = true) (k12 : PySem.W.keepIn K (.ref f12) = true)
    {od13 an13 : Option Addr} {sl13 : Array (Option Value)} {oc13 kV13 dc13 pm13 cd13 ct13 : Value}
    (a13 : PySem.W.nsIn K mainGlobals "_law_three" = some (some (.ref f13))) (l13 : K.lookup f13 = some ⟨oc13, od13, .func (PySem.W.fnOf "_law_three" "_law_three" (defArgs s_law_three) (defBody s_law_three) (defScope s_law_three) .none kV13 dc13 pm13 an13 cd13 ct13), sl13⟩) (c13 : PySem.W.codeIn K cd13 "_law_three" = true) (k13 : PySem.W.keepIn K (.ref f13) = true)
    {od14 an14 : Option Addr} {sl14 : Array (Option Value)} {oc14 kV14 dc14 pm14 cd14 ct14 : Value}
    (a14 : PySem.W.nsIn K mainGlobals "_law_told" = some (some (.ref f14))) (l14 : K.lookup f14 = some ⟨oc14, od14, .func (PySem.W.fnOf "_law_told" "_law_told" (defArgs s_law_told) (defBody s_law_told) (defScope s_law_told) .none kV14 dc14 pm14 an14 cd14 ct14), sl14⟩) (c14 : PySem.W.codeIn K cd14 "_law_told" = true) (k14 : PySem.W.keepIn K (.ref f14) = true)
    {od15 an15 : Option Addr} {sl15 : Array (Option Value)} {oc15 kV15 dc15 pm15 cd15 ct15 : Value}
    (a15 : PySem.W.nsIn K mainGlobals "_law_window" = some (some (.ref f15))) (l15 : K.lookup f15 = some ⟨oc15, od15, .func (PySem.W.fnOf "_law_window" "_law_window" (defArgs s_law_window) (defBody s_law_window) (defScope s_law_window) .none kV15 dc15 pm15 an15 cd15 ct15), sl15⟩) (c15 : PySem.W.codeIn K cd15 "_law_window" = true) (k15 : PySem.W.keepIn K (.ref f15) = true)
    {od16 an16 : Option Addr} {sl16 : Array (Option Value)} {oc16 kV16 dc16 pm16 cd16 ct16 : Value}
    (a16 : PySem.W.nsIn K mainGlobals "_law_windows" = some (some (.ref f16))) (l16 : K.lookup f16 = some ⟨oc16, od16, .func (PySem.W.fnOf "_law_windows" "_law_windows" (defArgs s_law_windows) (defBody s_law_windows) (defScope s_law_windows) .none kV16 dc16 pm16 an16 cd16 ct16), sl16⟩) (c16 : PySem.W.codeIn K cd16 "_law_windows" = true) (k16 : PySem.W.keepIn K (.ref f16) = true)
    {od17 an17 : Option Addr} {sl17 : Array (Option Value)} {oc17 kV17 dc17 pm17 cd17 ct17 : Value}
    (a17 : PySem.W.nsIn K mainGlobals "_law_cells" = some (some (.ref f17))) (l17 : K.lookup f17 = some ⟨oc17, od17, .func (PySem.W.fnOf "_law_cells" "_law_cells" (defArgs s_law_cells) (defBody s_law_cells) (defScope s_law_cells) .none kV17 dc17 pm17 an17 cd17 ct17), sl17⟩) (c17 : PySem.W.codeIn K cd17 "_law_cells" = true) (k17 : PySem.W.keepIn K (.ref f17) = true)
    {od18 an18 : Option Addr} {sl18 : Array (Option Value)} {oc18 kV18 dc18 pm18 cd18 ct18 : Value}
    (a18 : PySem.W.nsIn K mainGlobals "_law_bit" = some (some (.ref f18))) (l18 : K.lookup f18 = some ⟨oc18, od18, .func (PySem.W.fnOf "_law_bit" "_law_bit" (defArgs s_law_bit) (defBody s_law_bit) (defScope s_law_bit) .none kV18 dc18 pm18 an18 cd18 ct18), sl18⟩) (c18 : PySem.W.codeIn K cd18 "_law_bit" = true) (k18 : PySem.W.keepIn K (.ref f18) = true)
    {od19 an19 : Option Addr} {sl19 : Array (Option Value)} {oc19 kV19 dc19 pm19 cd19 ct19 : Value}
    (a19 : PySem.W.nsIn K mainGlobals "_law_drawn" = some (some (.ref f19))) (l19 : K.lookup f19 = some ⟨oc19, od19, .func (PySem.W.fnOf "_law_drawn" "_law_drawn" (defArgs s_law_drawn) (defBody s_law_drawn) (defScope s_law_drawn) .none kV19 dc19 pm19 an19 cd19 ct19), sl19⟩) (c19 : PySem.W.codeIn K cd19 "_law_drawn" = true) (k19 : PySem.W.keepIn K (.ref f19) = true)
    {od20 an20 : Option Addr} {sl20 : Array (Option Value)} {oc20 kV20 dc20 pm20 cd20 ct20 : Value}
    (a20 : PySem.W.nsIn K mainGlobals "_law_pieces" = some (some (.ref f20))) (l20 : K.lookup f20 = some ⟨oc20, od20, .func (PySem.W.fnOf "_law_pieces" "_law_pieces" (defArgs s_law_pieces) (defBody s_law_pieces) (defScope s_law_pieces) .none kV20 dc20 pm20 an20 cd20 ct20), sl20⟩) (c20 : PySem.W.codeIn K cd20 "_law_pieces" = true) (k20 : PySem.W.keepIn K (.ref f20) = true)
    {od21 an21 : Option Addr} {sl21 : Array (Option Value)} {oc21 kV21 dc21 pm21 cd21 ct21 : Value}
    (a21 : PySem.W.nsIn K mainGlobals "_law_right" = some (some (.ref f21))) (l21 : K.lookup f21 = some ⟨oc21, od21, .func (PySem.W.fnOf "_law_right" "_law_right" (defArgs s_law_right) (defBody s_law_right) (defScope s_law_right) .none kV21 dc21 pm21 an21 cd21 ct21), sl21⟩) (c21 : PySem.W.codeIn K cd21 "_law_right" = true) (k21 : PySem.W.keepIn K (.ref f21) = true)
    {od22 an22 : Option Addr} {sl22 : Array (Option Value)} {oc22 kV22 dc22 pm22 cd22 ct22 : Value}
    (a22 : PySem.W.nsIn K mainGlobals "law" = some (some (.ref f22))) (l22 : K.lookup f22 = some ⟨oc22, od22, .func (PySem.W.fnOf "law" "law" (defArgs s_law) (defBody s_law) (defScope s_law) .none kV22 dc22 pm22 an22 cd22 ct22), sl22⟩) (c22 : PySem.W.codeIn K cd22 "law" = true) (k22 : PySem.W.keepIn K (.ref f22) = true)
    (z_abs : PySem.W.nsIn K mainGlobals "abs" = some none)
    (z_bool : PySem.W.nsIn K mainGlobals "bool" = some none)
    (z_int : PySem.W.nsIn K mainGlobals "int" = some none)
    (z_isinstance : PySem.W.nsIn K mainGlobals "isinstance" = some none)
    (z_len : PySem.W.nsIn K mainGlobals "len" = some none)
    (z_list : PySem.W.nsIn K mainGlobals "list" = some none)
    (z_max : PySem.W.nsIn K mainGlobals "max" = some none)
    (z_min : PySem.W.nsIn K mainGlobals "min" = some none)
    (z_range : PySem.W.nsIn K mainGlobals "range" = some none)
    (z_str : PySem.W.nsIn K mainGlobals "str" = some none)
    (z_tuple : PySem.W.nsIn K mainGlobals "tuple" = some none)
    {t_CELL_DIGITS : Tok} (y_CELL_DIGITS : PySem.W.nsIn K mainGlobals "CELL_DIGITS" = some (some (.int 3 t_CELL_DIGITS)))
    {t_LONGEST : Tok} (y_LONGEST : PySem.W.nsIn K mainGlobals "LONGEST" = some (some (.int 999999999999999999999999999999999999999999999999999999999999 t_LONGEST)))
    {t_MAX_CELL : Tok} (y_MAX_CELL : PySem.W.nsIn K mainGlobals "MAX_CELL" = some (some (.int 996 t_MAX_CELL)))
    {t_MOST_SIGNS : Tok} (y_MOST_SIGNS : PySem.W.nsIn K mainGlobals "MOST_SIGNS" = some (some (.int 60000 t_MOST_SIGNS)))
    {t_WINDOW_SIGNS : Tok} (y_WINDOW_SIGNS : PySem.W.nsIn K mainGlobals "WINDOW_SIGNS" = some (some (.int 122 t_WINDOW_SIGNS)))
    : ∃ fd : FuncData, (∀ (s : Shared) (v : Value), BindsTo s fd ⟨[v], []⟩ [("script", v)]) ∧ ∀ base : Heap, K.In base → base.Ns mainGlobals mg → FnOk l.prog w K mg base CX0 7 fa fd ["script"] (sp_law K) := by
  have e := hfa.symm.trans (PySem.W.mg_of X G a22)
  cases e
  have F0 := fun_mk (st := s_is_number) l0 c0 k0
  have F1 := fun_mk (st := s_check_number) l1 c1 k1
  have F2 := fun_mk (st := s_is_text) l2 c2 k2
  have F3 := fun_mk (st := s_check_text) l3 c3 k3
  have F4 := fun_mk (st := s_digits_cells) l4 c4 k4
  have F5 := fun_mk (st := s_cells_from) l5 c5 k5
  have F6 := fun_mk (st := s_windows) l6 c6 k6
  have F7 := fun_mk (st := s_standing) l7 c7 k7
  have F8 := fun_mk (st := s_pieces) l8 c8 k8
  have F9 := fun_mk (st := s_windows_in) l9 c9 k9
  have F10 := fun_mk (st := s_law_tray) l10 c10 k10
  have F11 := fun_mk (st := s_law_pluck) l11 c11 k11
  have F12 := fun_mk (st := s_law_some) l12 c12 k12
  have F13 := fun_mk (st := s_law_three) l13 c13 k13
  have F14 := fun_mk (st := s_law_told) l14 c14 k14
  have F15 := fun_mk (st := s_law_window) l15 c15 k15
  have F16 := fun_mk (st := s_law_windows) l16 c16 k16
  have F17 := fun_mk (st := s_law_cells) l17 c17 k17
  have F18 := fun_mk (st := s_law_bit) l18 c18 k18
  have F19 := fun_mk (st := s_law_drawn) l19 c19 k19
  have F20 := fun_mk (st := s_law_pieces) l20 c20 k20
  have F21 := fun_mk (st := s_law_right) l21 c21 k21
  have F22 := fun_mk (st := s_law) l22 c22 k22
  have T : Txt K mg ⟨f0, f1, f2, f3, f4, f5, f6, f7, f8, f9, f10, f11, f12, f13, f14, f15, f16, f17, f18, f19, f20, f21, fa⟩ ⟨_, _, _, _, _, _, _, _, _, _, _, _, _, _, _, _, _, _, _, _, _, _, _⟩ := {
    b_abs := PySem.W.mg_none_of X G z_abs
    b_bool := PySem.W.mg_none_of X G z_bool
    b_int := PySem.W.mg_none_of X G z_int
    b_isinstance := PySem.W.mg_none_of X G z_isinstance
    b_len := PySem.W.mg_none_of X G z_len
    b_list := PySem.W.mg_none_of X G z_list
    b_max := PySem.W.mg_none_of X G z_max
    b_min := PySem.W.mg_none_of X G z_min
    b_range := PySem.W.mg_none_of X G z_range
    b_str := PySem.W.mg_none_of X G z_str
    b_tuple := PySem.W.mg_none_of X G z_tuple
    c_CELL_DIGITS := ⟨_, PySem.W.mg_of X G y_CELL_DIGITS⟩
    c_LONGEST := ⟨_, PySem.W.mg_of X G y_LONGEST⟩
    c_MAX_CELL := ⟨_, PySem.W.mg_of X G y_MAX_CELL⟩
    c_MOST_SIGNS := ⟨_, PySem.W.mg_of X G y_MOST_SIGNS⟩
    c_WINDOW_SIGNS := ⟨_, PySem.W.mg_of X G y_WINDOW_SIGNS⟩
    g_is_number := PySem.W.mg_of X G a0
    k_is_number := k0
    F_is_number := F0
    B_is_number := F0.binds (ps := ["value", "least", "most"]) fun _ _ _ _ _ _ us hl => match us, hl with | [_, _, _], _ => rfl
    g_check_number := PySem.W.mg_of X G a1
    k_check_number := k1
    F_check_number := F1
    B_check_number := F1.binds (ps := ["given", "least", "most"]) fun _ _ _ _ _ _ us hl => match us, hl with | [_, _, _], _ => rfl
    g_is_text := PySem.W.mg_of X G a2
    k_is_text := k2
    F_is_text := F2
    B_is_text := F2.binds (ps := ["value"]) fun _ _ _ _ _ _ us hl => match us, hl with | [_], _ => rfl
    g_check_text := PySem.W.mg_of X G a3
    k_check_text := k3
    F_check_text := F3
    B_check_text := F3.binds (ps := ["text"]) fun _ _ _ _ _ _ us hl => match us, hl with | [_], _ => rfl
    g_digits_cells := PySem.W.mg_of X G a4
    k_digits_cells := k4
    F_digits_cells := F4
    B_digits_cells := F4.binds (ps := ["signs"]) fun _ _ _ _ _ _ us hl => match us, hl with | [_], _ => rfl
    g_cells_from := PySem.W.mg_of X G a5
    k_cells_from := k5
    F_cells_from := F5
    B_cells_from := F5.binds (ps := ["text", "place"]) fun _ _ _ _ _ _ us hl => match us, hl with | [_, _], _ => rfl
    g_windows := PySem.W.mg_of X G a6
    k_windows := k6
    F_windows := F6
    B_windows := F6.binds (ps := ["text"]) fun _ _ _ _ _ _ us hl => match us, hl with | [_], _ => rfl
    g_standing := PySem.W.mg_of X G a7
    k_standing := k7
    F_standing := F7
    B_standing := F7.binds (ps := ["text", "begin", "end"]) fun _ _ _ _ _ _ us hl => match us, hl with | [_, _, _], _ => rfl
    g_pieces := PySem.W.mg_of X G a8
    k_pieces := k8
    F_pieces := F8
    B_pieces := F8.binds (ps := ["text"]) fun _ _ _ _ _ _ us hl => match us, hl with | [_], _ => rfl
    g_windows_in := PySem.W.mg_of X G a9
    k_windows_in := k9
    F_windows_in := F9
    B_windows_in := F9.binds (ps := ["text", "begin", "end"]) fun _ _ _ _ _ _ us hl => match us, hl with | [_, _, _], _ => rfl
    g_law_tray := PySem.W.mg_of X G a10
    k_law_tray := k10
    F_law_tray := F10
    B_law_tray := F10.binds (ps := ["script", "spot"]) fun _ _ _ _ _ _ us hl => match us, hl with | [_, _], _ => rfl
    g_law_pluck := PySem.W.mg_of X G a11
    k_law_pluck := k11
    F_law_pluck := F11
    B_law_pluck := F11.binds (ps := ["tray", "total"]) fun _ _ _ _ _ _ us hl => match us, hl with | [_, _], _ => rfl
    g_law_some := PySem.W.mg_of X G a12
    k_law_some := k12
    F_law_some := F12
    B_law_some := F12.binds (ps := ["tray", "items"]) fun _ _ _ _ _ _ us hl => match us, hl with | [_, _], _ => rfl
    g_law_three := PySem.W.mg_of X G a13
    k_law_three := k13
    F_law_three := F13
    B_law_three := F13.binds (ps := ["cell"]) fun _ _ _ _ _ _ us hl => match us, hl with | [_], _ => rfl
    g_law_told := PySem.W.mg_of X G a14
    k_law_told := k14
    F_law_told := F14
    B_law_told := F14.binds (ps := ["digits"]) fun _ _ _ _ _ _ us hl => match us, hl with | [_], _ => rfl
    g_law_window := PySem.W.mg_of X G a15
    k_law_window := k15
    F_law_window := F15
    B_law_window := F15.binds (ps := ["cells"]) fun _ _ _ _ _ _ us hl => match us, hl with | [_], _ => rfl
    g_law_windows := PySem.W.mg_of X G a16
    k_law_windows := k16
    F_law_windows := F16
    B_law_windows := F16.binds (ps := ["text"]) fun _ _ _ _ _ _ us hl => match us, hl with | [_], _ => rfl
    g_law_cells := PySem.W.mg_of X G a17
    k_law_cells := k17
    F_law_cells := F17
    B_law_cells := F17.binds (ps := ["tray"]) fun _ _ _ _ _ _ us hl => match us, hl with | [_], _ => rfl
    g_law_bit := PySem.W.mg_of X G a18
    k_law_bit := k18
    F_law_bit := F18
    B_law_bit := F18.binds (ps := ["tray"]) fun _ _ _ _ _ _ us hl => match us, hl with | [_], _ => rfl
    g_law_drawn := PySem.W.mg_of X G a19
    k_law_drawn := k19
    F_law_drawn := F19
    B_law_drawn := F19.binds (ps := ["tray", "many"]) fun _ _ _ _ _ _ us hl => match us, hl with | [_, _], _ => rfl
    g_law_pieces := PySem.W.mg_of X G a20
    k_law_pieces := k20
    F_law_pieces := F20
    B_law_pieces := F20.binds (ps := ["text"]) fun _ _ _ _ _ _ us hl => match us, hl with | [_], _ => rfl
    g_law_right := PySem.W.mg_of X G a21
    k_law_right := k21
    F_law_right := F21
    B_law_right := F21.binds (ps := ["tray"]) fun _ _ _ _ _ _ us hl => match us, hl with | [_], _ => rfl
    g_law := PySem.W.mg_of X G a22
    k_law := k22
    F_law := F22
    B_law := F22.binds (ps := ["script"]) fun _ _ _ _ _ _ us hl => match us, hl with | [_], _ => rfl
  }
  refine ⟨PySem.W.fnOf "law" "law" (defArgs s_law) (defBody s_law) (defScope s_law) .none kV22 dc22 pm22 an22 cd22 ct22, fun s v => .of_eq rfl, fun base _ _ => ?_⟩
  have G_is_number := ok_is_number (P := l.prog) (w := w) (base := base) T 
  have G_is_text := ok_is_text (P := l.prog) (w := w) (base := base) T 
  have G_digits_cells := ok_digits_cells (P := l.prog) (w := w) (base := base) T 
  have G_law_tray := ok_law_tray (P := l.prog) (w := w) (base := base) T 
  have G_law_pluck := ok_law_pluck (P := l.prog) (w := w) (base := base) T 
  have G_law_three := ok_law_three (P := l.prog) (w := w) (base := base) T 
  have G_law_told := ok_law_told (P := l.prog) (w := w) (base := base) T 
  have G_check_number := ok_check_number (P := l.prog) (w := w) (base := base) T G_is_number
  have G_check_text := ok_check_text (P := l.prog) (w := w) (base := base) T G_is_text
  have G_cells_from := ok_cells_from (P := l.prog) (w := w) (base := base) T G_digits_cells
  have G_law_some := ok_law_some (P := l.prog) (w := w) (base := base) T G_law_pluck
  have G_law_window := ok_law_window (P := l.prog) (w := w) (base := base) T G_law_three
  have G_law_windows := ok_law_windows (P := l.prog) (w := w) (base := base) T G_law_told
  have G_standing := ok_standing (P := l.prog) (w := w) (base := base) T G_cells_from
  have G_law_cells := ok_law_cells (P := l.prog) (w := w) (base := base) T G_law_pluck G_law_some
  have G_law_pieces := ok_law_pieces (P := l.prog) (w := w) (base := base) T G_law_windows
  have G_windows := ok_windows (P := l.prog) (w := w) (base := base) T G_check_text G_standing
  have G_windows_in := ok_windows_in (P := l.prog) (w := w) (base := base) T G_check_number G_check_text G_standing
  have G_law_bit := ok_law_bit (P := l.prog) (w := w) (base := base) T G_law_cells G_law_pluck G_law_some G_law_window
  have G_pieces := ok_pieces (P := l.prog) (w := w) (base := base) T G_windows
  have G_law_drawn := ok_law_drawn (P := l.prog) (w := w) (base := base) T G_law_bit G_law_pluck
  have G_law_right := ok_law_right (P := l.prog) (w := w) (base := base) T G_law_drawn G_law_pieces G_law_pluck G_law_windows G_pieces G_windows G_windows_in
  have G_law := ok_law (P := l.prog) (w := w) (base := base) T G_law_right G_law_tray G_law_window G_pieces G_windows G_windows_in
  exact G_law
theorem walk {l : PySem.W.OpenLaw} {q : Program} {loose : List Str} {XP : (Str → Option Value) → Heap → Prop} {YP : World → Heap → Prop} {d : DefRec} {K : Params → PySem.W.Frag} (hn : l.most = some 63) (hdf : d.params.defaults = [])
    (hY : ∀ (w : World) (h : Heap), YP w h → (K w.params).In h)
    (F : ∀ (w : World) (mg : Str → Option Value) (fa : Addr) (h : Heap), (K w.params).In h → h.Ns mainGlobals mg → mg d.name = some (.ref fa) →
      ∃ fd : FuncData, (∀ (s : Shared) (u : Value), BindsTo s fd ⟨[u], []⟩ [("script", u)]) ∧ ∀ base : Heap, (K w.params).In base → base.Ns mainGlobals mg → FnOk l.prog w (K w.params) mg base CX0 7 fa fd ["script"] (sp_law (K w.params))) :
    PySem.W.WalkO q loose XP YP l.row.toRowW d [] (fun f vs => PySem.call f vs) :=
  L2.walk_of (n := 63) (k := 7) (x := "script") (CX := fun _ => CX0) (sp := fun w => sp_law (K w.params)) hn (by decide) hdf ⟨rfl, by decide, by decide⟩ hY F (fun _ _ a ns hl _ hS => ⟨a, ns, rfl, hS, hl, fun _ => rfl⟩) fun _ _ _ _ _ z => z
end
end My
open PySem PySem.W PyProof.Rows
set_option maxRecDepth 100000 in
set_option maxHeartbeats 0 in
theorem PySem.Challenge.cw_stillread_k07_whole_windows_found_holds : PySem.Challenge.rw_stillread_k07_whole_windows_found.Holds := by
  w_on; o_law; k_head; (case hw => w_witness2)
  k_fill
  refine My.walk (l := PySem.Challenge.rw_stillread_k07_whole_windows_found) rfl rfl (fun w h Y => PySem.W.kIn_of Y) ?F
  case F =>
    intro w mg fa h KX G hmg
    refine' My.all_mk KX G hmg ?a0 ?l0 ?c0 ?k0 ?a1 ?l1 ?c1 ?k1 ?a2 ?l2 ?c2 ?k2 ?a3 ?l3 ?c3 ?k3 ?a4 ?l4 ?c4 ?k4 ?a5 ?l5 ?c5 ?k5 ?a6 ?l6 ?c6 ?k6 ?a7 ?l7 ?c7 ?k7 ?a8 ?l8 ?c8 ?k8 ?a9 ?l9 ?c9 ?k9 ?a10 ?l10 ?c10 ?k10 ?a11 ?l11 ?c11 ?k11 ?a12 ?l12 ?c12 ?k12 ?a13 ?l13 ?c13 ?k13 ?a14 ?l14 ?c14 ?k14 ?a15 ?l15 ?c15 ?k15 ?a16 ?l16 ?c16 ?k16 ?a17 ?l17 ?c17 ?k17 ?a18 ?l18 ?c18 ?k18 ?a19 ?l19 ?c19 ?k19 ?a20 ?l20 ?c20 ?k20 ?a21 ?l21 ?c21 ?k21 ?a22 ?l22 ?c22 ?k22 ?z_abs ?z_bool ?z_int ?z_isinstance ?z_len ?z_list ?z_max ?z_min ?z_range ?z_str ?z_tuple ?y_CELL_DIGITS ?y_LONGEST ?y_MAX_CELL ?y_MOST_SIGNS ?y_WINDOW_SIGNS
    (case a0 => k_is)
    (case l0 => k_is)
    (case c0 => k_is)
    (case k0 => k_is)
    (case a1 => k_is)
    (case l1 => k_is)
    (case c1 => k_is)
    (case k1 => k_is)
    (case a2 => k_is)
    (case l2 => k_is)
    (case c2 => k_is)
    (case k2 => k_is)
    (case a3 => k_is)
    (case l3 => k_is)
    (case c3 => k_is)
    (case k3 => k_is)
    (case a4 => k_is)
    (case l4 => k_is)
    (case c4 => k_is)
    (case k4 => k_is)
    (case a5 => k_is)
    (case l5 => k_is)
    (case c5 => k_is)
    (case k5 => k_is)
    (case a6 => k_is)
    (case l6 => k_is)
    (case c6 => k_is)
    (case k6 => k_is)
    (case a7 => k_is)
    (case l7 => k_is)
    (case c7 => k_is)
    (case k7 => k_is)
    (case a8 => k_is)
    (case l8 => k_is)
    (case c8 => k_is)
    (case k8 => k_is)
    (case a9 => k_is)
    (case l9 => k_is)
    (case c9 => k_is)
    (case k9 => k_is)
    (case a10 => k_is)
    (case l10 => k_is)
    (case c10 => k_is)
    (case k10 => k_is)
    (case a11 => k_is)
    (case l11 => k_is)
    (case c11 => k_is)
    (case k11 => k_is)
    (case a12 => k_is)
    (case l12 => k_is)
    (case c12 => k_is)
    (case k12 => k_is)
    (case a13 => k_is)
    (case l13 => k_is)
    (case c13 => k_is)
    (case k13 => k_is)
    (case a14 => k_is)
    (case l14 => k_is)
    (case c14 => k_is)
    (case k14 => k_is)
    (case a15 => k_is)
    (case l15 => k_is)
    (case c15 => k_is)
    (case k15 => k_is)
    (case a16 => k_is)
    (case l16 => k_is)
    (case c16 => k_is)
    (case k16 => k_is)
    (case a17 => k_is)
    (case l17 => k_is)
    (case c17 => k_is)
    (case k17 => k_is)
    (case a18 => k_is)
    (case l18 => k_is)
    (case c18 => k_is)
    (case k18 => k_is)
    (case a19 => k_is)
    (case l19 => k_is)
    (case c19 => k_is)
    (case k19 => k_is)
    (case a20 => k_is)
    (case l20 => k_is)
    (case c20 => k_is)
    (case k20 => k_is)
    (case a21 => k_is)
    (case l21 => k_is)
    (case c21 => k_is)
    (case k21 => k_is)
    (case a22 => k_is)
    (case l22 => k_is)
    (case c22 => k_is)
    (case k22 => k_is)
    (case z_abs => k_is)
    (case z_bool => k_is)
    (case z_int => k_is)
    (case z_isinstance => k_is)
    (case z_len => k_is)
    (case z_list => k_is)
    (case z_max => k_is)
    (case z_min => k_is)
    (case z_range => k_is)
    (case z_str => k_is)
    (case z_tuple => k_is)
    (case y_CELL_DIGITS => k_is)
    (case y_LONGEST => k_is)
    (case y_MAX_CELL => k_is)
    (case y_MOST_SIGNS => k_is)
    (case y_WINDOW_SIGNS => k_is)
