import PyProof.Rows.All
import Wide.All
import OpenK.AllK
import Wide.FinOn
import HandS.ForMost
import HandS.StrMore
import HandS.IsInst
import HandS.Wide
import HandS.TupMul
import HandS.Walk
import KE.SortData
import KE.IntTextLaws
import PySem.Challenge.RW_stillread_k08_whole_windows_across_joint
set_option Elab.async false
set_option maxRecDepth 100000
set_option maxHeartbeats 4000000
namespace My
open PySem L2
/-! ### heaps -/
theorem Same.new {H : Hp} {p : Addr} {o : HO} (h : H p = none) : Same H (upd H p o) := fun b u e => by
  rw [upd_ne (ne_of_none e h)]
  exact e
/-- tuples stand as they stood -/
def Kt (H H' : Hp) : Prop := ∀ a xs, Rd H a (.tup xs) → Rd H' a (.tup xs)
theorem Kt.refl (H : Hp) : Kt H H := fun _ _ h => h
theorem Kt.trans {H H1 H2 : Hp} (a : Kt H H1) (b : Kt H1 H2) : Kt H H2 := fun x xs h => b x xs (a x xs h)
theorem Kt.of {H H' : Hp} (s : Same H H') : Kt H H' := fun a xs h => by
  rcases h with h | ⟨o, h⟩
  · exact .inl (s _ _ h)
  · exact .inr ⟨o, s _ _ h⟩
/-- a list (or nothing) at p may change -/
theorem Kt.lst {H : Hp} {p : Addr} {o : HO} (h : H p = none ∨ ∃ xs, H p = some (.lst xs)) : Kt H (upd H p o) := fun a xs r => by
  have ne : a ≠ p := by
    intro e
    subst e
    rcases h with h | ⟨ys, h⟩ <;> rcases r with r | ⟨_, r⟩ <;> rw [h] at r <;> cases r
  rcases r with r | ⟨ob, r⟩
  · exact .inl (by rw [upd_ne ne]; exact r)
  · exact .inr ⟨ob, by rw [upd_ne ne]; exact r⟩
theorem kt_t {K : PySem.W.Frag} {H H' : Hp} {a : Addr} {xs : List V} (k : Kt H H') (h : SqT K H a xs) : SqT K H' a xs := by
  rcases h with h | h
  · exact .inl (k _ _ h)
  · exact .inr h
/-- all but t as it was -/
def But (t : Addr) (H H' : Hp) : Prop := ∀ b o, b ≠ t → H b = some o → H' b = some o
theorem But.refl (t : Addr) (H : Hp) : But t H H := fun _ _ _ h => h
theorem But.trans {t : Addr} {H H1 H2 : Hp} (a : But t H H1) (b : But t H1 H2) : But t H H2 := fun c o n h => b c o n (a c o n h)
theorem But.of {t : Addr} {H H' : Hp} (s : Same H H') : But t H H' := fun b o _ h => s b o h
theorem But.upd {t : Addr} {H : Hp} {o : HO} : But t H (upd H t o) := fun b u n h => by
  rw [upd_ne n]; exact h
/-! ### data that never changes -/
mutual
inductive Tp (K : PySem.W.Frag) (H : Hp) : V → PyData → Prop
  | non : Tp K H .non .none
  | bl (b : Bool) : Tp K H (.bl b) (.bool b)
  | int (i : Int) : Tp K H (.int i) (.int i)
  | str (x : Str) : Tp K H (.str x) (.str x)
  | tup {a : Addr} {xs : List V} {ds : List PyData} : SqT K H a xs → TpAll K H xs ds → Tp K H (.ref a) (.tuple ds)
inductive TpAll (K : PySem.W.Frag) (H : Hp) : List V → List PyData → Prop
  | nil : TpAll K H [] []
  | cons {v : V} {vs : List V} {d : PyData} {ds : List PyData} : Tp K H v d → TpAll K H vs ds → TpAll K H (v :: vs) (d :: ds)
end
section
variable {K : PySem.W.Frag} {H H' : Hp}
mutual
theorem Tp.keep (k : Kt H H') : ∀ {d : PyData} {v : V}, Tp K H v d → Tp K H' v d
  | _, _, .non => .non
  | _, _, .bl b => .bl b
  | _, _, .int i => .int i
  | _, _, .str x => .str x
  | _, _, .tup h t => .tup (kt_t k h) (TpAll.keep k t)
theorem TpAll.keep (k : Kt H H') : ∀ {ds : List PyData} {vs : List V}, TpAll K H vs ds → TpAll K H' vs ds
  | _, _, .nil => .nil
  | _, _, .cons h t => .cons (Tp.keep k h) (TpAll.keep k t)
end
mutual
theorem Tp.dp : ∀ {d : PyData} {v : V}, Tp K H v d → Dp K H v d
  | _, _, .non => .non
  | _, _, .bl b => .bl b
  | _, _, .int i => .int i
  | _, _, .str x => .str x
  | _, _, .tup h t => .tup h (TpAll.dp t)
theorem TpAll.dp : ∀ {ds : List PyData} {vs : List V}, TpAll K H vs ds → DpAll K H vs ds
  | _, _, .nil => .nil
  | _, _, .cons h t => .cons (Tp.dp h) (TpAll.dp t)
end
theorem TpAll.snoc : ∀ {ds : List PyData} {vs : List V} {d : PyData} {v : V}, TpAll K H vs ds → Tp K H v d → TpAll K H (vs ++ [v]) (ds ++ [d])
  | _, _, _, _, .nil, h => .cons h .nil
  | _, _, _, _, .cons a t, h => .cons a (TpAll.snoc t h)
theorem TpAll.append : ∀ {ds es : List PyData} {vs us : List V}, TpAll K H vs ds → TpAll K H us es → TpAll K H (vs ++ us) (ds ++ es)
  | _, _, _, _, .nil, h => h
  | _, _, _, _, .cons a t, h => .cons a (TpAll.append t h)
theorem TpAll.length : ∀ {ds : List PyData} {vs : List V}, TpAll K H vs ds → vs.length = ds.length
  | _, _, .nil => rfl
  | _, _, .cons _ t => by simp [TpAll.length t]
theorem TpAll.ints : ∀ ns : List Int, TpAll K H (ns.map V.int) (ns.map PyData.int)
  | [] => .nil
  | n :: r => .cons (.int n) (TpAll.ints r)
theorem TpAll.get : ∀ {ds : List PyData} {vs : List V} {i : Nat} {v : V}, TpAll K H vs ds → vs[i]? = some v → ∃ d, ds[i]? = some d ∧ Tp K H v d
  | _, _, _, _, .nil, e => by simp at e
  | _, _, 0, _, .cons h _, e => by simp at e; subst e; exact ⟨_, rfl, h⟩
  | _, _, i + 1, _, .cons _ t, e => by
    obtain ⟨d, h1, h2⟩ := TpAll.get (i := i) t (by simpa using e)
    exact ⟨d, by simpa using h1, h2⟩
/-- a tuple of ints that is told by data -/
theorem TpAll.ints_of : ∀ {ns : List Int} {vs : List V}, TpAll K H vs (ns.map PyData.int) → vs = ns.map V.int
  | [], _, h => by cases h; rfl
  | n :: r, _, h => by
    cases h with
    | cons a t =>
      cases a
      rw [TpAll.ints_of t]
      rfl
theorem tp_ints {a : Addr} {ns : List Int} (h : SqT K H a (ns.map V.int)) : Tp K H (.ref a) (.tuple (ns.map PyData.int)) := .tup h (TpAll.ints ns)
theorem tp_new {p : Addr} {xs : List V} {ds : List PyData} (h : H p = none) (t : TpAll K H xs ds) : Tp K (upd H p (.tup xs)) (.ref p) (.tuple ds) :=
  .tup (SqT.of upd_same) (t.keep (Kt.of (Same.new h)))
theorem dp_lst {l : Addr} {xs : List V} {ds : List PyData} (h : H l = some (.lst xs)) (t : TpAll K H xs ds) : Dp K H (.ref l) (.list ds) := .lst (SqL.of h) t.dp
end
/-! ### data that can be compared -/
mutual
/-- no dict within, and at most n deep -/
def flatD : Nat → PyData → Bool
  | _, .none => true
  | _, .bool _ => true
  | _, .int _ => true
  | _, .str x => PyData.strOk x
  | n + 1, .list ds => flatAll n ds
  | n + 1, .tuple ds => flatAll n ds
  | _, _ => false
def flatAll : Nat → List PyData → Bool
  | _, [] => true
  | n, d :: ds => flatD n d && flatAll n ds
end
mutual
theorem flat_lay : ∀ (n : Nat) (d : PyData), flatD n d = true → d.canLay0 = true ∧ d.depth ≤ n
  | n, .none, _ => ⟨by simp [PyData.canLay0], by simp [PyData.depth]⟩
  | n, .bool _, _ => ⟨by simp [PyData.canLay0], by simp [PyData.depth]⟩
  | n, .int _, _ => ⟨by simp [PyData.canLay0], by simp [PyData.depth]⟩
  | n, .str _, h => ⟨by simpa [PyData.canLay0, flatD] using h, by simp [PyData.depth]⟩
  | n + 1, .list ds, h => by
    have h' : flatAll n ds = true := by simpa [flatD] using h
    have q := flatAll_lay n ds h'
    exact ⟨by simpa [PyData.canLay0] using q.1, by simp only [PyData.depth]; omega⟩
  | n + 1, .tuple ds, h => by
    have h' : flatAll n ds = true := by simpa [flatD] using h
    have q := flatAll_lay n ds h'
    exact ⟨by simpa [PyData.canLay0] using q.1, by simp only [PyData.depth]; omega⟩
  | 0, .list _, h => by simp [flatD] at h
  | 0, .tuple _, h => by simp [flatD] at h
  | 0, .dict _, h => by simp [flatD] at h
  | _ + 1, .dict _, h => by simp [flatD] at h
theorem flatAll_lay : ∀ (n : Nat) (ds : List PyData), flatAll n ds = true → PyData.canLayAll0 ds = true ∧ PyData.depthAll ds ≤ n
  | n, [], _ => ⟨by simp [PyData.canLayAll0], by simp [PyData.depthAll]⟩
  | n, d :: ds, h => by
    have h' : flatD n d = true ∧ flatAll n ds = true := by simpa [flatAll] using h
    have a := flat_lay n d h'.1
    have b := flatAll_lay n ds h'.2
    exact ⟨by simp [PyData.canLayAll0, a.1, b.1], by simp only [PyData.depthAll]; omega⟩
end
theorem flat_shaped {n : Nat} {d : PyData} (h : flatD n d = true) (hn : n ≤ 64) : SeqAt.shaped d = true := by
  have q := flat_lay n d h
  unfold SeqAt.shaped
  rw [q.1, decide_eq_true (Nat.le_trans q.2 hn)]
  rfl
theorem flatAll_iff {n : Nat} : ∀ {ds : List PyData}, flatAll n ds = true ↔ ∀ d ∈ ds, flatD n d = true
  | [] => by simp [flatAll]
  | d :: ds => by
    rw [flatAll, Bool.and_eq_true, flatAll_iff (n := n) (ds := ds)]
    simp
theorem flat_ints {n : Nat} (ns : List Int) : flatAll n (ns.map PyData.int) = true := flatAll_iff.mpr fun d hd => by
  obtain ⟨i, _, rfl⟩ := List.mem_map.mp hd
  cases n <;> rfl
theorem shaped_eqv {d : PyData} (h : SeqAt.shaped d = true) : PyData.eqv d d = true := SeqAt.eqv_refl d (SeqAt.canLay_of_shaped h)
/-! ### tests -/
theorem iteB {b : Bool} {A B : Prop} (h1 : b = true → A) (h2 : b = false → B) : if b = true then A else B := by
  cases b with
  | true => exact iteT (h1 rfl)
  | false => exact iteF (h2 rfl)
theorem sz {n : Nat} (h : n ≤ 1000000) : n ≤ sizeLine := Nat.le_trans h (by decide)
theorem szl {n : Nat} (h : n ≤ 1000000) : n < sizeLine := Nat.lt_of_le_of_lt h (by decide)
/-- a power of any size -/
theorem op_powW {X : Cx} : OpR X (binaryOp .Pow) (rI (fun i j => 0 ≤ j ∧ (Builtin.Int.intBits i : Int) * j ≤ 2 ^ 27) fun i j => .int (i ^ j.toNat)) := opI fun _ _ _ _ _ _ _ hc q => PyProof.Rows.pow_int hc.1 hc.2 q
/-! ### a while's test hands on whatever is wanted -/
def MonoE (t : TE) : Prop := ∀ σ H (Q Q' : VK), (∀ v H1, Q v H1 → Q' v H1) → t σ H Q → t σ H Q'
def MonoT (t : TT) : Prop := ∀ σ H (Q Q' : Bool → Hp → Prop), (∀ b H1, Q b H1 → Q' b H1) → t σ H Q → t σ H Q'
def MonoR (r : R2) : Prop := ∀ x y H (Q Q' : VK), (∀ v H1, Q v H1 → Q' v H1) → r x y H Q → r x y H Q'
theorem me_var {i : Nat} : MonoE (tVar i) := fun _ _ _ _ m ⟨v, e, h⟩ => ⟨v, e, m _ _ h⟩
theorem me_c {v : V} : MonoE (tC v) := fun _ _ _ _ m h => m _ _ h
theorem mr_I0 {g : Int → Int → V} : MonoR (rI0 g) := fun _ _ _ _ _ m ⟨i, j, a, b, h⟩ => ⟨i, j, a, b, m _ _ h⟩
theorem mr_I {C : Int → Int → Prop} {g : Int → Int → V} : MonoR (rI C g) := fun _ _ _ _ _ m ⟨i, j, a, b, c, h⟩ => ⟨i, j, a, b, c, m _ _ h⟩
theorem mr_eq : MonoR rEq := fun _ _ _ _ _ m ⟨a, h⟩ => ⟨a, m _ _ h⟩
theorem mr_ne : MonoR rNe := fun _ _ _ _ _ m ⟨a, h⟩ => ⟨a, m _ _ h⟩
theorem mr_ixL {K : PySem.W.Frag} : MonoR (rIxL K) := fun _ _ _ _ _ m ⟨p, xs, i, v, a, b, c, d, h⟩ => ⟨p, xs, i, v, a, b, c, d, m _ _ h⟩
theorem mr_neD {K : PySem.W.Frag} : MonoR (rNeD K) := fun _ _ _ _ _ m ⟨p, q, a, b, c, d, h⟩ => ⟨p, q, a, b, c, d, m _ _ h⟩
theorem me_op {r : R2} {ta tb : TE} (hr : MonoR r) (ha : MonoE ta) (hb : MonoE tb) : MonoE (tOp r ta tb) := fun σ H Q Q' m h =>
  ha σ H _ _ (fun x H1 h1 => hb σ H1 _ _ (fun y H2 h2 => hr x y H2 _ _ m h2) h1) h
theorem me_chain {r r' : R2} {ta tb tc : TE} (hr : MonoR r) (hr' : MonoR r') (ha : MonoE ta) (hb : MonoE tb) (hc : MonoE tc) : MonoE (tChain r r' ta tb tc) := fun σ H Q Q' m h =>
  ha σ H _ _ (fun x H1 h1 => hb σ H1 _ _ (fun y H2 h2 => hr x y H2 _ _ (fun z H3 ⟨k, e, h3⟩ => ⟨k, e, by
    cases k with
    | true => exact iteT (hc σ H3 _ _ (fun w H4 h4 => hr' y w H4 _ _ m h4) (by simpa using h3))
    | false => exact iteF (m _ _ (by simpa using h3))⟩) h2) h1) h
theorem mt_test {t : TE} (h : MonoE t) : MonoT (tTest t) := fun σ H _ _ m g => h σ H _ _ (fun _ _ ⟨k, e, q⟩ => ⟨k, e, m _ _ q⟩) g
theorem mt_B {t : TE} (h : MonoE t) : MonoT (tB t) := fun σ H _ _ m g => h σ H _ _ (fun _ _ ⟨k, e, q⟩ => ⟨k, e, m _ _ q⟩) g
theorem mt_and {t u : TT} (h : MonoT t) (g : MonoT u) : MonoT (tAnd t u) := fun σ H Q Q' m p => h σ H _ _ (fun b H1 q => by
  cases b with
  | true => exact iteT (g σ H1 _ _ m (by simpa using q))
  | false => exact iteF (m _ _ (by simpa using q))) p
theorem mt_or {t u : TT} (h : MonoT t) (g : MonoT u) : MonoT (tOr t u) := fun σ H Q Q' m p => h σ H _ _ (fun b H1 q => by
  cases b with
  | true => exact iteT (m _ _ (by simpa using q))
  | false => exact iteF (g σ H1 _ _ m (by simpa using q))) p
theorem mt_not {t : TT} (h : MonoT t) : MonoT (tNot t) := fun σ H _ _ m p => h σ H _ _ (fun _ _ q => m _ _ q) p
/-! ### sorted(xs), data of any kind -/
def sortD (bs : List (V × PyData)) : List V := (bs.mergeSort (PySem.W.dataLe false Prod.snd)).map Prod.fst
def rSortedD (K : PySem.W.Frag) : List V → Hp → VK → Prop := fun vs H Q => ∃ (a : Addr) (bs : List (V × PyData)), vs = [V.ref a] ∧ SqL K H a (bs.map Prod.fst) ∧ (∀ b ∈ bs, Dp K H b.1 b.2) ∧ PySem.W.AllAlike (bs.map Prod.snd) ∧ PySem.W.Sortable (bs.map Prod.snd) ∧
  (∀ b ∈ bs, b.2.depth ≤ 60) ∧ ∀ p, H p = none → Q (.ref p) (upd H p (.lst (sortD bs)))
theorem each_vals : ∀ {bs : List (V × PyData)} {its : List Value}, Vals (bs.map Prod.fst) its → PySem.W.EachIs (fun v (b : V × PyData) => RelV b.1 v) its bs
  | [], _, h => by cases h; exact .nil
  | b :: r, _, h => by
    cases h with
    | cons h1 h2 => exact .cons h1 (each_vals h2)
theorem vals_each : ∀ {bs : List (V × PyData)} {its : List Value}, PySem.W.EachIs (fun v (b : V × PyData) => RelV b.1 v) its bs → Vals (bs.map Prod.fst) its
  | _, _, .nil => .nil
  | _, _, .cons h t => .cons h (vals_each t)
theorem call_sortedD {X : Cx} (hu : X.A.units + 64 < cLine) : CallR X (.builtin "sorted") (rSortedD X.K) := by
  intro pins s σ H vs us Q I r h
  obtain ⟨a, bs, rfl, hs, hd, hal, hk, hdep, q⟩ := h
  obtain ⟨its, rv, hl, hz⟩ := I.list hs
  rw [Vals.ref1 r]
  have e1 := each_vals rv
  have e2 : ∀ {cs : List (V × PyData)} {jts : List Value}, (∀ b ∈ cs, Dp X.K H b.1 b.2) → PySem.W.EachIs (fun v (b : V × PyData) => RelV b.1 v) jts cs → PySem.W.EachIs (fun v (b : V × PyData) => ∃ as, PySem.Reads s.heap v b.2 as) jts cs := by
    intro cs jts hc e
    induction e with
    | nil => exact .nil
    | @cons v b as bs' h1 t ih => exact .cons (Dp.reads I b.2 b.1 v (hc b (by simp)) h1) (ih fun b hb => hc b (List.mem_cons_of_mem _ hb))
  have hlen : bs.length ≤ sizeLine := by rw [List.length_map] at hz; exact hz
  refine PySem.W.sorted_data hl.isList e1 (e2 hd e1) hal hk hlen (fun b hb => by have := hdep b hb; omega) fun out h1 h2 => ?_
  obtain ⟨ep, he'⟩ := PyProof.Rows.sortedAll_at s.heap its out.toArray
  have hv := vals_each h2
  have hlen' : (sortD bs).length ≤ sizeLine := by
    unfold sortD
    rw [List.length_map, List.length_mergeSort]
    exact hlen
  exact ⟨.ref _, upd H (s.heap.objs.size + 1) (.lst (sortD bs)), I.laid (t' := s.toks) (fun _ _ => PyProof.Rows.sortedAll_old) (Nat.le_succ _) ⟨hlen', out, ep, hv, he'⟩, rfl, q _ (I.hok.fresh (Nat.le_succ _))⟩
theorem sortD_same {bs : List (V × PyData)} (h : bs.Pairwise fun x y => PySem.W.dataLe false Prod.snd x y = true) : sortD bs = bs.map Prod.fst := by
  unfold sortD
  rw [List.mergeSort_of_pairwise h]
end My

set_option autoImplicit false
set_option maxHeartbeats 1000000
namespace My
def dg (c : Nat) : Bool := decide (48 ≤ c) && decide (c ≤ 57)
def digv (l : List Nat) : Nat := l.foldl (fun t c => t * 10 + (c - 48)) 0
def ck (l : List Nat) (i : Nat) : List Nat := (l.drop (3 * i)).take 3
def okc (t : List Nat) : Bool := decide (t.length = 3) && (t.all dg && decide (digv t ≤ 996))
def nck (l : List Nat) : Nat := (l.length + 2) / 3
def vals (l : List Nat) (n : Nat) : List Int := (List.range n).map fun i => ((digv (ck l i) : Nat) : Int)
def oks (l : List Nat) (n : Nat) : Bool := (List.range n).all fun i => okc (ck l i)
def toldL (l : List Nat) : Option (List Int) := if oks l (nck l) = true then some (vals l (nck l)) else none
def winAt (s : List Nat) (p : Nat) : Option (List Int) := if s[p]? = some 35 ∧ s[p + 121]? = some 59 then toldL ((s.drop (p + 1)).take 120) else none
def wf (s : List Nat) (p : Nat) : Option (Nat × List Int) := (winAt s p).map fun c => (p, c)
def wl (s : List Nat) (b e : Nat) : List (Nat × List Int) := (List.range' b (e - b)).filterMap (wf s)

theorem oks_iff {l : List Nat} {n : Nat} : oks l n = true ↔ ∀ i, i < n → okc (ck l i) = true := by
  unfold oks
  rw [List.all_eq_true]
  exact ⟨fun h i hi => h i (List.mem_range.mpr hi), fun h i hi => h i (List.mem_range.mp hi)⟩
theorem oks_succ {l : List Nat} {n : Nat} : oks l (n + 1) = (oks l n && okc (ck l n)) := by
  unfold oks
  rw [List.range_succ, List.all_append]
  simp
theorem vals_succ {l : List Nat} {n : Nat} : vals l (n + 1) = vals l n ++ [((digv (ck l n) : Nat) : Int)] := by
  unfold vals
  rw [List.range_succ, List.map_append]
  rfl
theorem vals_length {l : List Nat} {n : Nat} : (vals l n).length = n := by simp [vals]
/-- all digits where it is told -/
theorem told_dg {l : List Nat} {cs : List Int} (h : toldL l = some cs) : ∀ (j c : Nat), l[j]? = some c → dg c = true := by
  intro j c hj
  unfold toldL at h
  by_cases ho : oks l (nck l) = true
  · have hlt : j < l.length := (List.getElem?_eq_some_iff.mp hj).1
    have hi : j / 3 < nck l := by unfold nck; omega
    have hk := oks_iff.mp ho (j / 3) hi
    unfold okc at hk
    simp only [Bool.and_eq_true, List.all_eq_true] at hk
    refine hk.2.1 c ?_
    unfold ck
    refine List.mem_of_getElem? (i := j % 3) ?_
    rw [List.getElem?_take_of_lt (by omega), List.getElem?_drop]
    have : 3 * (j / 3) + j % 3 = j := by omega
    rw [this]
    exact hj
  · rw [if_neg ho] at h
    cases h
theorem fm_congr {α β : Type} {f g : α → Option β} : ∀ {l : List α}, (∀ x ∈ l, f x = g x) → l.filterMap f = l.filterMap g
  | [], _ => rfl
  | x :: l, h => by
    rw [List.filterMap_cons, List.filterMap_cons, h x (by simp), fm_congr fun y hy => h y (List.mem_cons_of_mem _ hy)]
theorem wl_nil {s : List Nat} {b e : Nat} (h : e ≤ b) : wl s b e = [] := by
  unfold wl
  have : e - b = 0 := by omega
  rw [this]
  rfl
theorem wl_append {s : List Nat} {a b c : Nat} (h1 : a ≤ b) (h2 : b ≤ c) : wl s a c = wl s a b ++ wl s b c := by
  unfold wl
  rw [← List.filterMap_append]
  have e : c - a = (b - a) + (c - b) := by omega
  rw [e, ← List.range'_append_1]
  have e2 : a + (b - a) = b := by omega
  rw [e2]
theorem wl_succ {s : List Nat} {a b : Nat} (h : a ≤ b) : wl s a (b + 1) = wl s a b ++ (wf s b).toList := by
  rw [wl_append h (Nat.le_succ b)]
  congr 1
  unfold wl
  have : b + 1 - b = 1 := by omega
  rw [this]
  simp [List.range'_one, List.filterMap]
  cases wf s b <;> rfl
theorem mem_wl {s : List Nat} {b e : Nat} {x : Nat × List Int} : x ∈ wl s b e ↔ b ≤ x.1 ∧ x.1 < e ∧ winAt s x.1 = some x.2 := by
  obtain ⟨p, c⟩ := x
  unfold wl wf
  rw [List.mem_filterMap]
  constructor
  · rintro ⟨q, hq, e1⟩
    rw [List.mem_range'_1] at hq
    cases hw : winAt s q with
    | none => rw [hw] at e1; cases e1
    | some d =>
      rw [hw] at e1
      cases e1
      exact ⟨hq.1, by omega, hw⟩
  · rintro ⟨h1, h2, h3⟩
    refine ⟨p, List.mem_range'_1.mpr ⟨h1, by show p < b + (e - b); have : b ≤ p := h1; have : p < e := h2; omega⟩, ?_⟩
    have h3' : winAt s p = some c := h3
    rw [h3']
    rfl
theorem win_lt {s : List Nat} {p : Nat} {c : List Int} (h : winAt s p = some c) : s[p]? = some 35 ∧ s[p + 121]? = some 59 ∧ p + 121 < s.length ∧ toldL ((s.drop (p + 1)).take 120) = some c := by
  unfold winAt at h
  by_cases g : s[p]? = some 35 ∧ s[p + 121]? = some 59
  · rw [if_pos g] at h
    exact ⟨g.1, g.2, (List.getElem?_eq_some_iff.mp g.2).1, h⟩
  · rw [if_neg g] at h
    cases h
theorem win_apart {s : List Nat} {p q : Nat} {c d : List Int} (h : winAt s p = some c) (g : winAt s q = some d) (hpq : p < q) : p + 122 ≤ q := by
  obtain ⟨_, h2, h3, h4⟩ := win_lt h
  obtain ⟨g1, _, _, _⟩ := win_lt g
  by_cases hlt : p + 122 ≤ q
  · exact hlt
  · by_cases he : q = p + 121
    · rw [he, h2] at g1
      exact absurd (Option.some.inj g1) (by decide)
    · have hk := told_dg h4 (q - p - 1) 35 (by
        rw [List.getElem?_take_of_lt (by omega), List.getElem?_drop]
        have : p + 1 + (q - p - 1) = q := by omega
        rw [this]; exact g1)
      exact absurd hk (by decide)
theorem wl_apart {s : List Nat} {b : Nat} : ∀ e, (wl s b e).Pairwise (fun x y => x.1 + 122 ≤ y.1)
  | 0 => by rw [wl_nil (Nat.zero_le _)]; exact .nil
  | e + 1 => by
    by_cases h : b ≤ e
    · rw [wl_succ h, List.pairwise_append]
      refine ⟨wl_apart e, ?_, fun x hx y hy => ?_⟩
      · cases wf s e <;> simp
      · have hx' := mem_wl.mp hx
        unfold wf at hy
        cases hw : winAt s e with
        | none => rw [hw] at hy; simp at hy
        | some d =>
          rw [hw] at hy
          simp at hy
          subst hy
          exact win_apart hx'.2.2 hw hx'.2.1
    · rw [wl_nil (by omega)]; exact .nil
theorem len1 {α : Type} {R : α → α → Prop} : ∀ {l : List α}, l.Pairwise R → (∀ x ∈ l, ∀ y ∈ l, ¬ R x y) → l.length ≤ 1
  | [], _, _ => by simp
  | [_], _, _ => by simp
  | x :: y :: r, h, g => by
    have := (List.pairwise_cons.mp h).1 y (by simp)
    exact absurd this (g x (by simp) y (by simp))
theorem winAt_left {s t : List Nat} {p : Nat} (h : p + 122 ≤ s.length) : winAt (s ++ t) p = winAt s p := by
  unfold winAt
  rw [List.getElem?_append_left (by omega), List.getElem?_append_left (by omega)]
  have e : ((s ++ t).drop (p + 1)).take 120 = (s.drop (p + 1)).take 120 := by
    rw [List.drop_append_of_le_length (by omega), List.take_append_of_le_length (by rw [List.length_drop]; omega)]
  rw [e]
theorem winAt_right {s t : List Nat} {p : Nat} : winAt (s ++ t) (s.length + p) = winAt t p := by
  unfold winAt
  rw [List.getElem?_append_right (by omega), List.getElem?_append_right (by omega)]
  have e1 : s.length + p - s.length = p := by omega
  have e2 : s.length + p + 121 - s.length = p + 121 := by omega
  have e : ((s ++ t).drop (s.length + p + 1)) = t.drop (p + 1) := by
    rw [Nat.add_assoc, ← List.drop_drop]
    simp
  rw [e1, e2, e]
theorem wl_left {s t : List Nat} {a b : Nat} (h : b + 121 ≤ s.length ∨ b ≤ a) : wl (s ++ t) a b = wl s a b := by
  rcases h with h | h
  · unfold wl
    refine fm_congr fun p hp => ?_
    rw [List.mem_range'_1] at hp
    unfold wf
    rw [winAt_left (by omega)]
  · rw [wl_nil h, wl_nil h]
theorem wl_right {s t : List Nat} : ∀ b, (wl t 0 b).map (fun x => (x.1 + s.length, x.2)) = wl (s ++ t) s.length (s.length + b)
  | 0 => by rw [wl_nil (Nat.zero_le _), wl_nil (by omega)]; rfl
  | b + 1 => by
    rw [wl_succ (Nat.zero_le _), List.map_append, wl_right b, ← Nat.add_assoc, wl_succ (by omega)]
    congr 1
    unfold wf
    rw [winAt_right]
    cases winAt t b with
    | none => rfl
    | some c =>
      show [(b + s.length, c)] = [(s.length + b, c)]
      rw [Nat.add_comm]
theorem filter_wl {s : List Nat} {n lo hi : Nat} (P : Nat × List Int → Bool) (hP : ∀ x, P x = true ↔ lo ≤ x.1 ∧ x.1 < hi) : (wl s 0 n).filter P = wl s lo (min hi n) := by
  have all_in : ∀ a b, (∀ p, a ≤ p → p < b → lo ≤ p ∧ p < hi) → (wl s a b).filter P = wl s a b := fun a b h => by
    rw [List.filter_eq_self]
    intro x hx
    have := mem_wl.mp hx
    exact (hP x).mpr (h x.1 this.1 this.2.1)
  have none_in : ∀ a b, (∀ p, a ≤ p → p < b → ¬ (lo ≤ p ∧ p < hi)) → (wl s a b).filter P = [] := fun a b h => by
    rw [List.filter_eq_nil_iff]
    intro x hx hp
    have := mem_wl.mp hx
    exact h x.1 this.1 this.2.1 ((hP x).mp hp)
  by_cases h : lo ≤ min hi n
  · rw [wl_append (s := s) (a := 0) (b := min hi n) (c := n) (Nat.zero_le _) (Nat.min_le_right _ _), wl_append (s := s) (a := 0) (b := lo) (Nat.zero_le _) h]
    rw [List.filter_append, List.filter_append, none_in 0 lo (fun p _ h2 => by omega), all_in lo _ (fun p h1 h2 => by omega), none_in (min hi n) n (fun p h1 h2 => by omega)]
    simp
  · rw [none_in 0 n (fun p h1 h2 => by omega), wl_nil (by omega)]
/-- the joint of two texts -/
theorem wl_joint (s t : List Nat) :
    wl s 0 (s.length - 121) ++ wl (s ++ t) (s.length - 121) (min s.length (s.length + t.length - 121)) ++ (wl t 0 (t.length - 121)).map (fun x => (x.1 + s.length, x.2)) = wl (s ++ t) 0 (s.length + t.length - 121) := by
  rw [← wl_left (s := s) (t := t) (a := 0) (b := s.length - 121) (by omega), wl_right]
  by_cases h : 121 ≤ t.length
  · have e1 : min s.length (s.length + t.length - 121) = s.length := by omega
    have e2 : s.length + (t.length - 121) = s.length + t.length - 121 := by omega
    rw [e1, e2, ← wl_append (by omega) (by omega), ← wl_append (by omega) (by omega)]
  · have e2 : s.length + (t.length - 121) = s.length := by omega
    rw [e2, wl_nil (Nat.le_refl _), List.append_nil]
    have e1 : min s.length (s.length + t.length - 121) = s.length + t.length - 121 := by omega
    rw [e1]
    by_cases g : s.length - 121 ≤ s.length + t.length - 121
    · rw [← wl_append (by omega) g]
    · omega
end My
namespace My
theorem nck_of {l : List Nat} (h : l.length % 3 = 0) : nck l = l.length / 3 := by unfold nck; omega
theorem told_mod {l : List Nat} (h : l.length % 3 ≠ 0) : toldL l = none := by
  unfold toldL
  rw [if_neg]
  intro ho
  have hk := oks_iff.mp ho (l.length / 3) (by unfold nck; omega)
  unfold okc ck at hk
  simp only [Bool.and_eq_true, decide_eq_true_eq, List.length_take, List.length_drop] at hk
  omega
theorem told_nd {l : List Nat} (h : l.all dg = false) : toldL l = none := by
  cases e : toldL l with
  | none => rfl
  | some cs =>
    have : l.all dg = true := List.all_eq_true.mpr fun c hc => by
      obtain ⟨j, hj⟩ := List.getElem?_of_mem hc
      exact told_dg e j c hj
    rw [h] at this
    cases this
theorem ck_len {l : List Nat} {i : Nat} (h : l.length % 3 = 0) (hi : i < nck l) : (ck l i).length = 3 := by
  rw [nck_of h] at hi
  unfold ck
  rw [List.length_take, List.length_drop]
  omega
theorem ck_dg {l : List Nat} {i : Nat} (h : l.all dg = true) : (ck l i).all dg = true := List.all_eq_true.mpr fun c hc =>
  List.all_eq_true.mp h c (List.mem_of_mem_drop (List.mem_of_mem_take hc))
theorem told_ok {l : List Nat} (h : l.length % 3 = 0) (hd : l.all dg = true) (m : Int) (hm : ∀ y ∈ vals l (nck l), y ≤ m) (hin : m ∈ vals l (nck l)) :
    toldL l = if m ≤ 996 then some (vals l (nck l)) else none := by
  unfold toldL
  have e : oks l (nck l) = decide (m ≤ 996) := by
    rw [Bool.eq_iff_iff, oks_iff, decide_eq_true_eq]
    constructor
    · intro g
      unfold vals at hin
      obtain ⟨i, hi, e⟩ := List.mem_map.mp hin
      have := g i (List.mem_range.mp hi)
      unfold okc at this
      simp only [Bool.and_eq_true, decide_eq_true_eq] at this
      omega
    · intro g i hi
      unfold okc
      rw [ck_len h hi, ck_dg hd]
      have := hm ((digv (ck l i) : Nat) : Int) (by unfold vals; exact List.mem_map.mpr ⟨i, List.mem_range.mpr hi, rfl⟩)
      simp
      omega
  rw [e]
  by_cases c : m ≤ 996
  · rw [if_pos c, if_pos (decide_eq_true c)]
  · rw [if_neg c, if_neg (by simp [c])]
end My
namespace My
theorem wl_length {s : List Nat} {b e : Nat} : (wl s b e).length ≤ e - b := by
  unfold wl
  refine Nat.le_trans (List.length_filterMap_le _ _) ?_
  rw [List.length_range']
  exact Nat.le_refl _
end My
namespace My
theorem told_bad {l : List Nat} {i : Nat} (hi : i < nck l) (h : okc (ck l i) = false) : toldL l = none := by
  unfold toldL
  rw [if_neg]
  intro ho
  rw [oks_iff.mp ho i hi] at h
  cases h
theorem told_all {l : List Nat} (h : oks l (nck l) = true) : toldL l = some (vals l (nck l)) := by
  unfold toldL
  rw [if_pos h]
theorem take_snoc {α : Type} {l : List α} {i : Nat} {x : α} (h : l[i]? = some x) : l.take (i + 1) = l.take i ++ [x] := by
  rw [List.take_add_one, h]; rfl
end My

set_option Elab.async false
set_option maxRecDepth 100000
set_option maxHeartbeats 4000000
namespace My
open PySem L2 TL
open PySem.StrLaws (At occBody occ_eq subAt_one)
open PySem.NumText (digitsVal AllDigits)
/-! ### texts -/
/-- all signs are printable ascii -/
def pr (z : Str) : Prop := ∀ c ∈ tl z, 32 ≤ c ∧ c ≤ 126
theorem pr_app {x y : Str} (h : pr x) (g : pr y) : pr (x ++ y) := fun c hc => by
  rw [tl_append] at hc
  rcases List.mem_append.mp hc with q | q
  · exact h c q
  · exact g c q
theorem pr_cut {z : Str} (h : pr z) (lo hi : Option Int) : pr (cutS z lo hi) := fun c hc => h c (by
  have hc' : c ∈ ((tl z).drop (HT.sIx z.length 0 lo)).take (HT.sIx z.length z.length hi - HT.sIx z.length 0 lo) := hc
  exact List.mem_of_mem_drop (List.mem_of_mem_take hc'))
theorem tl_cut (z : Str) (lo hi : Option Int) : tl (cutS z lo hi) = ((tl z).drop (HT.sIx z.length 0 lo)).take (HT.sIx z.length z.length hi - HT.sIx z.length 0 lo) := rfl
theorem cut_nat (z : Str) (i j : Nat) : tl (cutS z (some (i : Int)) (some (j : Int))) = ((tl z).drop i).take (j - i) := by
  rw [tl_cut, HT.sIx_nat, HT.sIx_nat, len_tl]
  by_cases h1 : i ≤ (tl z).length
  · rw [Nat.min_eq_left h1]
    by_cases h2 : j ≤ (tl z).length
    · rw [Nat.min_eq_left h2]
    · rw [Nat.min_eq_right (by omega), List.take_of_length_le (by rw [List.length_drop]; omega), List.take_of_length_le (by rw [List.length_drop]; omega)]
  · rw [show min i (tl z).length = (tl z).length by omega, List.drop_of_length_le (Nat.le_refl _), List.drop_of_length_le (by omega)]
    simp
theorem cut_lo (z : Str) (i : Nat) : tl (cutS z (some (i : Int)) none) = (tl z).drop i := by
  rw [tl_cut, HT.sIx_nat, HT.sIx_none, len_tl]
  by_cases h1 : i ≤ (tl z).length
  · rw [Nat.min_eq_left h1, List.take_of_length_le (by rw [List.length_drop]; omega)]
  · rw [Nat.min_eq_right (by omega), List.drop_of_length_le (Nat.le_refl _), List.drop_of_length_le (by omega)]
    simp
theorem cut_hi (z : Str) (j : Nat) : tl (cutS z none (some (j : Int))) = (tl z).take j := by
  rw [tl_cut, HT.sIx_nat, HT.sIx_none, len_tl]
  by_cases h1 : j ≤ (tl z).length
  · rw [Nat.min_eq_left h1]; simp
  · rw [Nat.min_eq_right (by omega), List.drop_zero, Nat.sub_zero, List.take_of_length_le (Nat.le_refl _), List.take_of_length_le (by omega)]
def txtM (z : Str) : Bool := decide ((z.length : Int) ≤ 60000) && (Txt.isascii z && Txt.isprintable z)
theorem print127 : ∀ c, c < 127 → 32 ≤ c → Unicode.isPrintable c = true := by decide +kernel
theorem digit127 : ∀ c, c < 127 → Unicode.isDigit c = dg c := by decide +kernel
theorem txtM_ok {z : Str} (h : pr z) (hl : z.length ≤ 60000) : txtM z = true := by
  unfold txtM
  rw [decide_eq_true (by omega)]
  have a : Txt.isascii z = true := by
    unfold Txt.isascii
    rw [Array.all_eq_true_iff_forall_mem]
    intro c hc
    have := h c (Array.mem_toList_iff.mpr hc)
    exact decide_eq_true (by omega)
  have b : Txt.isprintable z = true := by
    unfold Txt.isprintable
    rw [Array.all_eq_true_iff_forall_mem]
    intro c hc
    have := h c (Array.mem_toList_iff.mpr hc)
    exact print127 c (by omega) this.1
  rw [a, b]
  rfl
theorem isdigit_pr {z : Str} (h : pr z) : Txt.isdigit z = (decide (0 < z.length) && (tl z).all dg) := by
  unfold Txt.isdigit
  have e : z.cps.all Unicode.isDigit = (tl z).all dg := by
    rw [Bool.eq_iff_iff, Array.all_eq_true_iff_forall_mem, List.all_eq_true]
    constructor
    · intro g c hc
      have := h c hc
      rw [← digit127 c (by omega)]
      exact g c (Array.mem_toList_iff.mp hc)
    · intro g c hc
      have hm := Array.mem_toList_iff.mpr hc
      have := h c hm
      rw [digit127 c (by omega)]
      exact g c hm
  rw [e]
/-! ### find -/
theorem occ_full (s sub : Str) (hi : Nat) : ∀ (l : List Nat) (st : Array Nat × Nat), st.fst.size = 1 → (forIn l st (occBody s sub hi 1)).run.fst = st.fst
  | [], st, _ => rfl
  | a :: l, st, h => by
    rw [List.forIn_cons]
    unfold occBody
    have c2 : ¬ (((st.fst.size < 1 ∧ st.snd ≤ a) ∧ a + sub.length ≤ hi) ∧ Builtin.Str.subAt s sub a = true) := fun q => by omega
    rw [if_neg c2]
    exact occ_full s sub hi l st h
theorem occ_first (s sub : Str) (hi : Nat) : ∀ (m cur free : Nat), free ≤ cur →
    ((forIn (List.range' cur m) ((#[] : Array Nat), free) (occBody s sub hi 1)).run.fst = #[] ∧ ∀ i, cur ≤ i → i < cur + m → ¬ At s sub hi i) ∨
    ∃ p, (forIn (List.range' cur m) ((#[] : Array Nat), free) (occBody s sub hi 1)).run.fst = #[p] ∧ cur ≤ p ∧ p < cur + m ∧ At s sub hi p ∧ ∀ i, cur ≤ i → i < p → ¬ At s sub hi i
  | 0, cur, free, _ => .inl ⟨rfl, fun i h1 h2 => by omega⟩
  | m + 1, cur, free, hf => by
    rw [List.range'_succ, List.forIn_cons]
    unfold occBody
    by_cases hc : At s sub hi cur
    · have c1 : ((((#[] : Array Nat), free).fst.size < 1 ∧ ((#[] : Array Nat), free).snd ≤ cur) ∧ cur + sub.length ≤ hi) ∧ Builtin.Str.subAt s sub cur = true := ⟨⟨⟨by simp, hf⟩, hc.1⟩, hc.2⟩
      rw [if_pos c1]
      refine .inr ⟨cur, ?_, Nat.le_refl _, by omega, hc, fun i h1 h2 => by omega⟩
      exact occ_full s sub hi _ _ (by simp)
    · have c2 : ¬ (((((#[] : Array Nat), free).fst.size < 1 ∧ ((#[] : Array Nat), free).snd ≤ cur) ∧ cur + sub.length ≤ hi) ∧ Builtin.Str.subAt s sub cur = true) := fun q => hc ⟨q.1.2, q.2⟩
      rw [if_neg c2]
      rcases occ_first s sub hi m (cur + 1) free (by omega) with ⟨h1, h2⟩ | ⟨p, h1, h2, h3, h4, h5⟩
      · refine .inl ⟨h1, fun i g1 g2 => ?_⟩
        by_cases e : i = cur
        · rw [e]; exact hc
        · exact h2 i (by omega) (by omega)
      · refine .inr ⟨p, h1, by omega, by omega, h4, fun i g1 g2 => ?_⟩
        by_cases e : i = cur
        · rw [e]; exact hc
        · exact h5 i (by omega) g2
theorem find3_sign (z : Str) (c b : Nat) (hb : b ≤ z.length) :
    (Txt.find3 z ⟨#[c]⟩ (b : Int) = -1 ∧ ∀ q : Nat, b ≤ q → (tl z)[q]? ≠ some c) ∨
    ∃ p : Nat, Txt.find3 z ⟨#[c]⟩ (b : Int) = (p : Int) ∧ b ≤ p ∧ (tl z)[p]? = some c ∧ ∀ q : Nat, b ≤ q → q < p → (tl z)[q]? ≠ some c := by
  have ef : fromIndex z.length (b : Int) = b := by
    unfold fromIndex
    rw [if_neg (by omega)]
    omega
  unfold Txt.find3
  rw [ef, occ_eq]
  rcases occ_first z ⟨#[c]⟩ z.length (z.length + 1 - b) b b (Nat.le_refl _) with ⟨h1, h2⟩ | ⟨p, h1, h2, h3, h4, h5⟩
  · refine .inl ⟨by rw [h1], fun q hq e => ?_⟩
    have hlt : q < (tl z).length := (List.getElem?_eq_some_iff.mp e).1
    rw [← len_tl] at hlt
    exact h2 q hq (by omega) ((subAt_one z c q).mpr e)
  · refine .inr ⟨p, by rw [h1], h2, (subAt_one z c p).mp h4, fun q g1 g2 e => h5 q g1 g2 ((subAt_one z c q).mpr e)⟩
/-- no window where no # stands -/
theorem wf_none {s : List Nat} {p : Nat} (h : s[p]? ≠ some 35) : wf s p = none := by
  unfold wf winAt
  rw [if_neg fun q => h q.1]
  rfl
theorem wl_gap {s : List Nat} {a b : Nat} (h : ∀ q, a ≤ q → q < b → s[q]? ≠ some 35) : wl s a b = [] := by
  unfold wl
  rw [List.filterMap_eq_nil_iff]
  intro q hq
  rw [List.mem_range'_1] at hq
  exact wf_none (h q hq.1 (by omega))
theorem int_ck {l : List Nat} (h : l.all dg = true) (hne : l ≠ []) (hl : l.length ≤ 640) : PySem.intText? ⟨l.toArray⟩ = some ((digv l : Nat) : Int) :=
  PySem.intText_digits (x := ⟨l.toArray⟩) (fun c hc => by
    have := List.all_eq_true.mp h c hc
    unfold dg at this
    simpa using this) hne (by show l.toArray.size ≤ 4300; simp; omega)
theorem fits_ {i : Int} (h1 : -(2 ^ 63) ≤ i) (h2 : i < 2 ^ 63) : Builtin.Range.rangeFitsLong i = true := by
  unfold Builtin.Range.rangeFitsLong
  rw [decide_eq_true h1, decide_eq_true h2]
  rfl
theorem rg3 (n : Nat) (h : n ≤ 1000000) : RgC 0 (n : Int) 3 ((n + 2) / 3) := by
  have e : Builtin.Range.rangeSize 0 (n : Int) 3 = (((n + 2) / 3 : Nat) : Int) := by
    unfold Builtin.Range.rangeSize
    rw [if_pos (by decide)]
    split <;> omega
  refine ⟨by decide, by decide, ?_, e⟩
  unfold Builtin.Range.small
  rw [e, if_pos (by decide), fits_ (by decide) (by decide), fits_ (by omega) (by omega), fits_ (by decide) (by decide), fits_ (by omega) (by omega), fits_ (by omega) (by omega)]
  simp
theorem cut_ck (z : Str) (i : Nat) : cutS z (some ((0 : Int) + (i : Nat) * 3)) (some ((0 : Int) + (i : Nat) * 3 + 3)) = ⟨(ck (tl z) i).toArray⟩ := by
  refine ext_tl ?_
  have e := cut_nat z (3 * i) (3 * i + 3)
  have e1 : ((0 : Int) + (i : Nat) * 3) = ((3 * i : Nat) : Int) := by omega
  rw [e1, show (((3 * i : Nat) : Int) + 3) = ((3 * i + 3 : Nat) : Int) by omega, e]
  unfold ck
  rw [show 3 * i + 3 - 3 * i = 3 by omega]
end My

set_option Elab.async false
set_option maxRecDepth 100000
set_option maxHeartbeats 4000000
namespace My
open PySem L2 TL
def top (i : Nat) : Stmt := PySem.Challenge.pw_stillread_k08_whole_windows_across_joint.main.body.getD i (.Pass ⟨0, 0, 0, 0⟩)
abbrev s_is_text : Stmt := top 9
abbrev n_is_text : List Str := ["value"]
theorem sc_is_text : FnScope n_is_text ["value"] (defScope s_is_text) := ⟨rfl, rfl, rfl, by decide +kernel, rfl, by decide +kernel, by decide +kernel⟩
abbrev s_check_text : Stmt := top 10
abbrev n_check_text : List Str := ["text"]
theorem sc_check_text : FnScope n_check_text ["text"] (defScope s_check_text) := ⟨rfl, rfl, rfl, by decide +kernel, rfl, by decide +kernel, by decide +kernel⟩
abbrev s_digits_cells : Stmt := top 11
abbrev n_digits_cells : List Str := ["signs", "cells", "at"]
theorem sc_digits_cells : FnScope n_digits_cells ["signs"] (defScope s_digits_cells) := ⟨rfl, rfl, rfl, by decide +kernel, rfl, by decide +kernel, by decide +kernel⟩
abbrev s_cells_from : Stmt := top 12
abbrev n_cells_from : List Str := ["text", "place", "last"]
theorem sc_cells_from : FnScope n_cells_from ["text", "place"] (defScope s_cells_from) := ⟨rfl, rfl, rfl, by decide +kernel, rfl, by decide +kernel, by decide +kernel⟩
abbrev s_windows : Stmt := top 13
abbrev n_windows : List Str := ["text"]
theorem sc_windows : FnScope n_windows ["text"] (defScope s_windows) := ⟨rfl, rfl, rfl, by decide +kernel, rfl, by decide +kernel, by decide +kernel⟩
abbrev s_standing : Stmt := top 14
abbrev n_standing : List Str := ["text", "begin", "end", "found", "place", "cells"]
theorem sc_standing : FnScope n_standing ["text", "begin", "end"] (defScope s_standing) := ⟨rfl, rfl, rfl, by decide +kernel, rfl, by decide +kernel, by decide +kernel⟩
abbrev s_windows_across : Stmt := top 15
abbrev n_windows_across : List Str := ["one", "other", "joined", "begin", "end"]
theorem sc_windows_across : FnScope n_windows_across ["one", "other"] (defScope s_windows_across) := ⟨rfl, rfl, rfl, by decide +kernel, rfl, by decide +kernel, by decide +kernel⟩
abbrev s_law_tray : Stmt := top 17
abbrev n_law_tray : List Str := ["script", "spot", "cell", "great"]
theorem sc_law_tray : FnScope n_law_tray ["script", "spot"] (defScope s_law_tray) := ⟨rfl, rfl, rfl, by decide +kernel, rfl, by decide +kernel, by decide +kernel⟩
abbrev s_law_pluck : Stmt := top 18
abbrev n_law_pluck : List Str := ["tray", "total", "found", "one", "two"]
theorem sc_law_pluck : FnScope n_law_pluck ["tray", "total"] (defScope s_law_pluck) := ⟨rfl, rfl, rfl, by decide +kernel, rfl, by decide +kernel, by decide +kernel⟩
abbrev s_law_some : Stmt := top 19
abbrev n_law_some : List Str := ["tray", "items"]
theorem sc_law_some : FnScope n_law_some ["tray", "items"] (defScope s_law_some) := ⟨rfl, rfl, rfl, by decide +kernel, rfl, by decide +kernel, by decide +kernel⟩
abbrev s_law_three : Stmt := top 20
abbrev n_law_three : List Str := ["cell"]
theorem sc_law_three : FnScope n_law_three ["cell"] (defScope s_law_three) := ⟨rfl, rfl, rfl, by decide +kernel, rfl, by decide +kernel, by decide +kernel⟩
abbrev s_law_told : Stmt := top 21
abbrev n_law_told : List Str := ["digits", "found", "at", "three", "sign"]
theorem sc_law_told : FnScope n_law_told ["digits"] (defScope s_law_told) := ⟨rfl, rfl, rfl, by decide +kernel, rfl, by decide +kernel, by decide +kernel⟩
abbrev s_law_window : Stmt := top 22
abbrev n_law_window : List Str := ["cells", "cell"]
theorem sc_law_window : FnScope n_law_window ["cells"] (defScope s_law_window) := ⟨rfl, rfl, rfl, by decide +kernel, rfl, by decide +kernel, by decide +kernel⟩
abbrev s_law_windows : Stmt := top 23
abbrev n_law_windows : List Str := ["text", "found", "place", "cells"]
theorem sc_law_windows : FnScope n_law_windows ["text"] (defScope s_law_windows) := ⟨rfl, rfl, rfl, by decide +kernel, rfl, by decide +kernel, by decide +kernel⟩
abbrev s_law_cells : Stmt := top 24
abbrev n_law_cells : List Str := ["tray", "way", "found", "turn"]
theorem sc_law_cells : FnScope n_law_cells ["tray"] (defScope s_law_cells) := ⟨rfl, rfl, rfl, by decide +kernel, rfl, by decide +kernel, by decide +kernel⟩
abbrev s_law_bit : Stmt := top 25
abbrev n_law_bit : List Str := ["tray", "window", "way", "at"]
theorem sc_law_bit : FnScope n_law_bit ["tray"] (defScope s_law_bit) := ⟨rfl, rfl, rfl, by decide +kernel, rfl, by decide +kernel, by decide +kernel⟩
abbrev s_law_drawn : Stmt := top 26
abbrev n_law_drawn : List Str := ["tray", "many", "turn"]
theorem sc_law_drawn : FnScope n_law_drawn ["tray", "many"] (defScope s_law_drawn) := ⟨rfl, rfl, rfl, by decide +kernel, rfl, by decide +kernel, by decide +kernel⟩
abbrev s_law_joint_right : Stmt := top 27
abbrev n_law_joint_right : List Str := ["one", "other", "whole", "due", "told", "later", "place", "cells"]
theorem sc_law_joint_right : FnScope n_law_joint_right ["one", "other"] (defScope s_law_joint_right) := ⟨rfl, rfl, rfl, by decide +kernel, rfl, by decide +kernel, by decide +kernel⟩
abbrev s_law_are_apart : Stmt := top 28
abbrev n_law_are_apart : List Str := ["text", "places", "place", "cells", "one", "other"]
theorem sc_law_are_apart : FnScope n_law_are_apart ["text"] (defScope s_law_are_apart) := ⟨rfl, rfl, rfl, by decide +kernel, rfl, by decide +kernel, by decide +kernel⟩
abbrev s_law_right : Stmt := top 29
abbrev n_law_right : List Str := ["tray", "one", "other", "text", "turn", "at", "first", "last"]
theorem sc_law_right : FnScope n_law_right ["tray"] (defScope s_law_right) := ⟨rfl, rfl, rfl, by decide +kernel, rfl, by decide +kernel, by decide +kernel⟩
abbrev s_law : Stmt := top 30
abbrev n_law : List Str := ["script", "spot", "tray", "turn", "seven", "nine", "told"]
theorem sc_law : FnScope n_law ["script"] (defScope s_law) := ⟨rfl, rfl, rfl, by decide +kernel, rfl, by decide +kernel, by decide +kernel⟩
structure Ad where
  is_text : Addr
  check_text : Addr
  digits_cells : Addr
  cells_from : Addr
  windows : Addr
  standing : Addr
  windows_across : Addr
  law_tray : Addr
  law_pluck : Addr
  law_some : Addr
  law_three : Addr
  law_told : Addr
  law_window : Addr
  law_windows : Addr
  law_cells : Addr
  law_bit : Addr
  law_drawn : Addr
  law_joint_right : Addr
  law_are_apart : Addr
  law_right : Addr
  law : Addr
structure Fd where
  is_text : FuncData
  check_text : FuncData
  digits_cells : FuncData
  cells_from : FuncData
  windows : FuncData
  standing : FuncData
  windows_across : FuncData
  law_tray : FuncData
  law_pluck : FuncData
  law_some : FuncData
  law_three : FuncData
  law_told : FuncData
  law_window : FuncData
  law_windows : FuncData
  law_cells : FuncData
  law_bit : FuncData
  law_drawn : FuncData
  law_joint_right : FuncData
  law_are_apart : FuncData
  law_right : FuncData
  law : FuncData
structure Txt (K : PySem.W.Frag) (mg : Str → Option Value) (a : Ad) (d : Fd) : Prop where
  b_abs : mg "abs" = none
  b_int : mg "int" = none
  b_isinstance : mg "isinstance" = none
  b_len : mg "len" = none
  b_list : mg "list" = none
  b_max : mg "max" = none
  b_min : mg "min" = none
  b_range : mg "range" = none
  b_sorted : mg "sorted" = none
  b_str : mg "str" = none
  b_tuple : mg "tuple" = none
  b_zip : mg "zip" = none
  c_CELL_DIGITS : ∃ t, mg "CELL_DIGITS" = some (.int 3 t)
  c_MAX_CELL : ∃ t, mg "MAX_CELL" = some (.int 996 t)
  c_MOST_SIGNS : ∃ t, mg "MOST_SIGNS" = some (.int 60000 t)
  c_WINDOW_SIGNS : ∃ t, mg "WINDOW_SIGNS" = some (.int 122 t)
  g_is_text : mg "is_text" = some (.ref a.is_text)
  k_is_text : PySem.W.keepIn K (.ref a.is_text) = true
  B_is_text : Binds K d.is_text ["value"] []
  F_is_text : Fun K "is_text" "is_text" s_is_text a.is_text d.is_text
  g_check_text : mg "check_text" = some (.ref a.check_text)
  k_check_text : PySem.W.keepIn K (.ref a.check_text) = true
  B_check_text : Binds K d.check_text ["text"] []
  F_check_text : Fun K "check_text" "check_text" s_check_text a.check_text d.check_text
  g_digits_cells : mg "digits_cells" = some (.ref a.digits_cells)
  k_digits_cells : PySem.W.keepIn K (.ref a.digits_cells) = true
  B_digits_cells : Binds K d.digits_cells ["signs"] []
  F_digits_cells : Fun K "digits_cells" "digits_cells" s_digits_cells a.digits_cells d.digits_cells
  g_cells_from : mg "cells_from" = some (.ref a.cells_from)
  k_cells_from : PySem.W.keepIn K (.ref a.cells_from) = true
  B_cells_from : Binds K d.cells_from ["text", "place"] []
  F_cells_from : Fun K "cells_from" "cells_from" s_cells_from a.cells_from d.cells_from
  g_windows : mg "windows" = some (.ref a.windows)
  k_windows : PySem.W.keepIn K (.ref a.windows) = true
  B_windows : Binds K d.windows ["text"] []
  F_windows : Fun K "windows" "windows" s_windows a.windows d.windows
  g_standing : mg "standing" = some (.ref a.standing)
  k_standing : PySem.W.keepIn K (.ref a.standing) = true
  B_standing : Binds K d.standing ["text", "begin", "end"] []
  F_standing : Fun K "standing" "standing" s_standing a.standing d.standing
  g_windows_across : mg "windows_across" = some (.ref a.windows_across)
  k_windows_across : PySem.W.keepIn K (.ref a.windows_across) = true
  B_windows_across : Binds K d.windows_across ["one", "other"] []
  F_windows_across : Fun K "windows_across" "windows_across" s_windows_across a.windows_across d.windows_across
  g_law_tray : mg "_law_tray" = some (.ref a.law_tray)
  k_law_tray : PySem.W.keepIn K (.ref a.law_tray) = true
  B_law_tray : Binds K d.law_tray ["script", "spot"] []
  F_law_tray : Fun K "_law_tray" "_law_tray" s_law_tray a.law_tray d.law_tray
  g_law_pluck : mg "_law_pluck" = some (.ref a.law_pluck)
  k_law_pluck : PySem.W.keepIn K (.ref a.law_pluck) = true
  B_law_pluck : Binds K d.law_pluck ["tray", "total"] []
  F_law_pluck : Fun K "_law_pluck" "_law_pluck" s_law_pluck a.law_pluck d.law_pluck
  g_law_some : mg "_law_some" = some (.ref a.law_some)
  k_law_some : PySem.W.keepIn K (.ref a.law_some) = true
  B_law_some : Binds K d.law_some ["tray", "items"] []
  F_law_some : Fun K "_law_some" "_law_some" s_law_some a.law_some d.law_some
  g_law_three : mg "_law_three" = some (.ref a.law_three)
  k_law_three : PySem.W.keepIn K (.ref a.law_three) = true
  B_law_three : Binds K d.law_three ["cell"] []
  F_law_three : Fun K "_law_three" "_law_three" s_law_three a.law_three d.law_three
  g_law_told : mg "_law_told" = some (.ref a.law_told)
  k_law_told : PySem.W.keepIn K (.ref a.law_told) = true
  B_law_told : Binds K d.law_told ["digits"] []
  F_law_told : Fun K "_law_told" "_law_told" s_law_told a.law_told d.law_told
  g_law_window : mg "_law_window" = some (.ref a.law_window)
  k_law_window : PySem.W.keepIn K (.ref a.law_window) = true
  B_law_window : Binds K d.law_window ["cells"] []
  F_law_window : Fun K "_law_window" "_law_window" s_law_window a.law_window d.law_window
  g_law_windows : mg "_law_windows" = some (.ref a.law_windows)
  k_law_windows : PySem.W.keepIn K (.ref a.law_windows) = true
  B_law_windows : Binds K d.law_windows ["text"] []
  F_law_windows : Fun K "_law_windows" "_law_windows" s_law_windows a.law_windows d.law_windows
  g_law_cells : mg "_law_cells" = some (.ref a.law_cells)
  k_law_cells : PySem.W.keepIn K (.ref a.law_cells) = true
  B_law_cells : Binds K d.law_cells ["tray"] []
  F_law_cells : Fun K "_law_cells" "_law_cells" s_law_cells a.law_cells d.law_cells
  g_law_bit : mg "_law_bit" = some (.ref a.law_bit)
  k_law_bit : PySem.W.keepIn K (.ref a.law_bit) = true
  B_law_bit : Binds K d.law_bit ["tray"] []
  F_law_bit : Fun K "_law_bit" "_law_bit" s_law_bit a.law_bit d.law_bit
  g_law_drawn : mg "_law_drawn" = some (.ref a.law_drawn)
  k_law_drawn : PySem.W.keepIn K (.ref a.law_drawn) = true
  B_law_drawn : Binds K d.law_drawn ["tray", "many"] []
  F_law_drawn : Fun K "_law_drawn" "_law_drawn" s_law_drawn a.law_drawn d.law_drawn
  g_law_joint_right : mg "_law_joint_right" = some (.ref a.law_joint_right)
  k_law_joint_right : PySem.W.keepIn K (.ref a.law_joint_right) = true
  B_law_joint_right : Binds K d.law_joint_right ["one", "other"] []
  F_law_joint_right : Fun K "_law_joint_right" "_law_joint_right" s_law_joint_right a.law_joint_right d.law_joint_right
  g_law_are_apart : mg "_law_are_apart" = some (.ref a.law_are_apart)
  k_law_are_apart : PySem.W.keepIn K (.ref a.law_are_apart) = true
  B_law_are_apart : Binds K d.law_are_apart ["text"] []
  F_law_are_apart : Fun K "_law_are_apart" "_law_are_apart" s_law_are_apart a.law_are_apart d.law_are_apart
  g_law_right : mg "_law_right" = some (.ref a.law_right)
  k_law_right : PySem.W.keepIn K (.ref a.law_right) = true
  B_law_right : Binds K d.law_right ["tray"] []
  F_law_right : Fun K "_law_right" "_law_right" s_law_right a.law_right d.law_right
  g_law : mg "law" = some (.ref a.law)
  k_law : PySem.W.keepIn K (.ref a.law) = true
  B_law : Binds K d.law ["script"] []
  F_law : Fun K "law" "law" s_law a.law d.law
/-! ### the promises -/
def encT (c : List Int) : PyData := .tuple (c.map .int)
def encO : Option (List Int) → PyData
  | none => .none
  | some c => encT c
def encW (x : Nat × List Int) : PyData := .tuple [.int x.1, encT x.2]
def sp_is_text (K : PySem.W.Frag) : Sp := fun vs H Q _ => ∃ z : Str, vs = [.str z] ∧ z.length ≤ sizeLine ∧ Q (.bl (txtM z)) H
def sp_check_text (K : PySem.W.Frag) : Sp := fun vs H Q _ => ∃ z : Str, vs = [.str z] ∧ pr z ∧ z.length ≤ 60000 ∧ Q .non H
def sp_digits_cells (K : PySem.W.Frag) : Sp := fun vs H Q _ => ∃ z : Str, vs = [.str z] ∧ pr z ∧ z.length ≤ 60000 ∧ ∀ v H', Same H H' → Tp K H' v (encO (toldL (tl z))) → Q v H'
def sp_cells_from (K : PySem.W.Frag) : Sp := fun vs H Q _ => ∃ (z : Str) (p : Nat), vs = [.str z, .int p] ∧ pr z ∧ z.length ≤ 60000 ∧ p + 122 ≤ z.length ∧ ∀ v H', Same H H' → Tp K H' v (encO (winAt (tl z) p)) → Q v H'
def sp_standing (K : PySem.W.Frag) : Sp := fun vs H Q _ => ∃ (z : Str) (b e : Nat), vs = [.str z, .int b, .int e] ∧ pr z ∧ z.length ≤ 60000 ∧ b ≤ z.length ∧ e ≤ z.length ∧
  ∀ v H', Same H H' → Tp K H' v (.tuple ((wl (tl z) b (e - 121)).map encW)) → Q v H'
def sp_windows (K : PySem.W.Frag) : Sp := fun vs H Q _ => ∃ z : Str, vs = [.str z] ∧ pr z ∧ z.length ≤ 60000 ∧ ∀ v H', Same H H' → Tp K H' v (.tuple ((wl (tl z) 0 (z.length - 121)).map encW)) → Q v H'
def sp_windows_across (K : PySem.W.Frag) : Sp := fun vs H Q _ => ∃ x y : Str, vs = [.str x, .str y] ∧ pr x ∧ pr y ∧ x.length + y.length ≤ 60000 ∧
  ∀ v H', Same H H' → Tp K H' v (.tuple ((wl (tl x ++ tl y) (x.length - 121) (min x.length (x.length + y.length - 121))).map encW)) → Q v H'
local macro_rules | `(tactic| walk_at "len") => `(tactic| (intro vs H Q E h; first
  | (obtain ⟨_, e, _⟩ := h; subst e; rfl) | (obtain ⟨_, _, e, _⟩ := h; subst e; rfl) | (obtain ⟨_, _, _, e, _⟩ := h; subst e; rfl) | (obtain ⟨_, _, _, _, e, _⟩ := h; subst e; rfl)))
local macro_rules | `(tactic| walk_at "rd1") => `(tactic| first
  | refine ⟨_, rfl, ?_⟩
  | refine ⟨rfl, ?_⟩
  | refine ⟨trivial, ?_⟩
  | refine ⟨_, _, rfl, rfl, ?_⟩
  | refine ⟨_, rfl, rfl, ?_⟩
  | refine ⟨_, _, _, _, true, rfl, .ty _, .base (.str _), kit_ty (by decide +kernel), ?_⟩
  | refine ⟨_, _, _, _, true, rfl, .ty _, .base (.int _), kit_ty (by decide +kernel), ?_⟩
  | refine ⟨_, _, _, _, false, rfl, .ty _, .base (.int _), kit_ty (by decide +kernel), ?_⟩
  | refine ⟨_, rfl, rfl, trivial, ?_⟩
  | refine ⟨_, _, rfl, ?_⟩
  | refine ⟨_, _, rfl, rfl, by decide, ?_⟩
  | refine ⟨_, _, rfl, rfl, sz (by omega), ?_⟩
  | refine ⟨_, _, rfl, rfl, ⟨by decide, by decide⟩, ?_⟩
  | refine ⟨_, _, _, rfl, rfl, ?_⟩
  | refine And.intro (Nat.zero_le _) ?_
  | refine And.intro (show List.length _ ≤ sizeLine from Nat.le_of_ble_eq_true rfl) ?_
  | refine And.intro (.inl ⟨rfl, _, SqL.of (by assumption)⟩) ?_
  | refine And.intro (by assumption) ?_
  | refine And.intro (sz (by omega)) ?_
  | refine And.intro (by omega) ?_
  | refine Or.inl ⟨_, rfl, ?_⟩
  | refine Or.inr ⟨_, rfl, ?_⟩
  | refine ⟨_, _, rfl, .inl (SqL.of (by assumption)), ?_⟩
  | refine ⟨_, _, rfl, .inl (by assumption), ?_⟩
  | refine ⟨_, _, rfl, .inr (by assumption), ?_⟩
  | refine ⟨_, _, _, _, rfl, rfl, SqL.of (by assumption), rfl, ?_⟩
  | refine ⟨_, _, _, _, rfl, rfl, SqL.of upd_same, rfl, ?_⟩
  | refine ⟨_, _, _, _, rfl, rfl, by assumption, rfl, ?_⟩
  | refine ⟨_, _, _, _, rfl, rfl, upd_same, rfl, ?_⟩
  | refine And.intro (show CPow _ _ from ⟨by decide, by decide, by decide⟩) ?_
  | refine And.intro (show CDiv _ _ from ⟨by decide, by decide⟩) ?_
  | refine And.intro (show CMul _ _ from .inl ⟨by decide, by decide⟩) ?_
  | refine And.intro (show CMul _ _ from .inr ⟨by decide, by decide⟩) ?_)
local macro_rules | `(tactic| walk_at "rd") => `(tactic| repeat (walk_at "rd1"))
section
variable {P : Program} {w : World} {K : PySem.W.Frag} {mg : Str → Option Value} {base : Heap} {a : Ad} {d : Fd}
theorem ok_is_text (T : Txt K mg a d)  : FnOk P w K mg base CX0 1 a.is_text d.is_text ["value"] (sp_is_text K) := by
  refine T.F_is_text.ok sc_is_text (by walk_at "len") (fun cdv A outer s H vs Q E hr h => ?_)
  obtain ⟨z, rfl, hz, k⟩ := h
  refine ⟨_, (pss_one (ps_ret (pe_and (pe_callB call_isi (by rfl) T.b_isinstance (by decide +kernel) (pa_cons (pv 0) (pa_cons (pe_bltn (v := .ty "str") (by rfl) T.b_str (by decide +kernel) rfl) pa_nil))) (pe_and (pe_cmpR op_le (pe_callB call_len_str (by rfl) T.b_len (by decide +kernel) (pa_cons (pv 0) pa_nil)) (pe_glob (v := .int 60000) rfl T.c_MOST_SIGNS.choose_spec ⟨_, rfl⟩) (nomark _)) (pe_and (pe_bm0 PySem.F.plainAttrs_str PySem.F.slot_str_isascii PySem.F.type_str_isascii mt_isascii (pv 0)) (pe_one (pe_bm0 PySem.F.plainAttrs_str PySem.F.slot_str_isprintable PySem.F.type_str_isprintable mt_isprintable (pv 0)))))))), ?_⟩
  walk_at "rd"
  refine iteB (fun h1 => ?_) (fun h1 => ?_)
  · walk_at "rd"
    refine iteB (fun h2 => ?_) (fun h2 => ?_)
    · walk_at "rd"
      unfold txtM at k
      rw [h1, h2] at k
      exact k
    · unfold txtM at k
      rw [h1, h2] at k
      exact k
  · unfold txtM at k
    rw [h1] at k
    exact k
theorem ok_check_text (T : Txt K mg a d) (G_is_text : FnOk P w K mg base CX0 1 a.is_text d.is_text ["value"] (sp_is_text K)) : FnOk P w K mg base CX0 2 a.check_text d.check_text ["text"] (sp_check_text K) := by
  refine T.F_check_text.ok sc_check_text (by walk_at "len") (fun cdv A outer s H vs Q E hr h => ?_)
  obtain ⟨z, rfl, hp, hz, k⟩ := h
  refine ⟨_, (pss_one (ps_if (pt_not (pt_val (pe_call G_is_text (hr.mono (by decide)) (by rfl) T.g_is_text T.k_is_text T.B_is_text .nil pass0 (pa_cons (pv 0) pa_nil)))) (pss_one ps_never) pss_nil)), ?_⟩
  walk_at "rd"
  rw [txtM_ok hp hz]
  exact k
theorem ok_digits_cells (T : Txt K mg a d)  : FnOk P w K mg base CX0 1 a.digits_cells d.digits_cells ["signs"] (sp_digits_cells K) := by
  refine T.F_digits_cells.ok sc_digits_cells (by walk_at "len") (fun cdv A outer s H vs Q E hr h => ?_)
  obtain ⟨z, rfl, hp, hz, k⟩ := h
  have hz1 : z.length ≤ sizeLine := sz (by omega)
  have hlt := len_tl z
  refine ⟨_, (pss_cons (ps_if (pt_cmpR op_eq (pv 0) pe_str (nomark _)) (pss_one (ps_ret (pe_tup pa_nil))) pss_nil)
      (pss_cons (ps_if (PW.pt (pw_or (pt_truth (pe_op op_mod (pe_callB call_len_str (by rfl) T.b_len (by decide +kernel) (pa_cons (pv 0) pa_nil)) (pe_glob (v := .int 3) rfl T.c_CELL_DIGITS.choose_spec ⟨_, rfl⟩)) (by intro _; rfl)) (pw_or1 (pt_not (pt_val (pe_bm0 PySem.F.plainAttrs_str PySem.F.slot_str_isdigit PySem.F.type_str_isdigit mt_isdigit (pv 0))))))) (pss_one (ps_ret pe_non)) pss_nil)
      (pss_cons (ps_setLc (i := 1) (own := [("at", 2)]) rfl sc_digits_cells.nd rfl rfl (sw_true rfl rfl rfl (by decide +kernel)) (pi_range3 (by rfl) T.b_range (pa_cons pe_int (pa_cons (pe_callB call_len_str (by rfl) T.b_len (by decide +kernel) (pa_cons (pv 0) pa_nil)) (pa_cons (pe_glob (v := .int 3) rfl T.c_CELL_DIGITS.choose_spec ⟨_, rfl⟩) pa_nil)))) (blkOk_by (N := n_digits_cells) (sc := defScope s_digits_cells) (by decide +kernel)) (fun _ _ _ _ _ => (pg_name (i := 2) sc_digits_cells.nd rfl (Or.inl rfl))) (fun _ _ _ _ _ => pts_nil) (fun _ _ _ _ _ => (pe_callTy call_int_str (by rfl) T.b_int (by decide +kernel) (pa_cons (pe_slice sl_str (pv 0) (po_some (pv 2)) (po_some (pe_op op_add (pv 2) (pe_glob (v := .int 3) rfl T.c_CELL_DIGITS.choose_spec ⟨_, rfl⟩)))) pa_nil))))
      (pss_one (ps_ret (pe_ifExp (pt_cmpR op_le (pe_callB (cr_max rfl) (by rfl) T.b_max (by decide +kernel) (pa_cons (pv 1) pa_nil)) (pe_glob (v := .int 996) rfl T.c_MAX_CELL.choose_spec ⟨_, rfl⟩) (nomark _)) (pe_callTy call_tuple_of (by rfl) T.b_tuple (by decide +kernel) (pa_cons (pv 1) pa_nil)) pe_non)))))), ?_⟩
  walk_at "rd"
  refine iteB (fun h1 => ?_) (fun h1 => ?_)
  · have ez : z = "" := by simpa using h1
    subst ez
    refine ⟨Nat.zero_le _, fun p hp => ?_⟩
    exact k _ _ (Same.new hp) (.tup (SqT.of upd_same) .nil)
  walk_at "rd"
  refine iteB (fun h2 => ?_) (fun h2 => ?_)
  · have e : toldL (tl z) = none := told_mod (by simp at h2; omega)
    rw [e] at k
    exact k _ _ (Same.refl H) .non
  have hm : (tl z).length % 3 = 0 := by simp at h2; omega
  walk_at "rd"
  rw [isdigit_pr hp]
  have hpos : 0 < z.length := by
    by_cases g : 0 < z.length
    · exact g
    · exfalso
      have : tl z = [] := List.eq_nil_of_length_eq_zero (by omega)
      have ez : z = "" := ext_tl this
      subst ez
      simp at h1
  rw [decide_eq_true hpos, Bool.true_and]
  refine iteB (fun h3 => ?_) (fun h3 => ?_)
  · have e : toldL (tl z) = none := told_nd (by simpa using h3)
    rw [e] at k
    exact k _ _ (Same.refl H) .non
  have hd : (tl z).all dg = true := by simpa using h3
  walk_at "rd"
  refine ⟨_, _, _, _, rfl, rg3 z.length (by omega), fun D hD => ?_⟩
  refine lc_it walk_rangeC (fun i H' => Same H H' ∧ H' D = some (.lst ((vals (tl z) i).map V.int))) ⟨Same.new hD, upd_same⟩ (fun _ _ _ _ => trivial) ?_ ?_
  · rintro i x H1 H2 hi ⟨s1, hD1⟩ ⟨rfl, rfl⟩
    have hi' : i < nck (tl z) := by unfold nck; omega
    walk_at "rd"
    rw [cut_ck]
    have hck : (ck (tl z) i).length = 3 := ck_len hm hi'
    refine ⟨_, _, rfl, int_ck (ck_dg hd) (by intro e; rw [e] at hck; cases hck) (by omega), by show (ck (tl z) i).toArray.size ≤ 640; simp; omega, ?_⟩
    refine ⟨_, hD1, szl (by rw [List.length_map, vals_length]; omega), fun b o e => ?_, ?_⟩
    · rw [upd_ne (ne_of_none e hD)]; exact s1 b o e
    · rw [upd_same, vals_succ, List.map_append]; rfl
  · rintro H1 ⟨s1, hD1⟩
    have hn : (z.length + 2) / 3 = nck (tl z) := by unfold nck; rw [hlt]
    rw [hn] at hD1
    walk_at "rd"
    refine ⟨_, vals (tl z) (nck (tl z)), rfl, SqL.of hD1, by rw [vals_length]; unfold nck; omega, fun m hin hmx => ?_⟩
    have e := told_ok hm hd m hmx hin
    walk_at "rd"
    refine iteB (fun h4 => ?_) (fun h4 => ?_)
    · rw [if_pos (of_decide_eq_true h4)] at e
      rw [e] at k
      walk_at "rd"
      refine ⟨_, _, rfl, .inl ⟨SqL.of hD1, fun l hl => ?_⟩⟩
      exact k _ _ (s1.trans (Same.new hl)) (tp_ints (SqT.of upd_same))
    · rw [if_neg (of_decide_eq_false h4)] at e
      rw [e] at k
      exact k _ _ s1 .non
theorem sgn {c : Nat} {s : Str} {k : Nat} (h : s = ⟨#[k]⟩) : (V.str ⟨#[c]⟩ = V.str s) ↔ c = k := by
  subst h
  constructor
  · intro e
    injection e with e
    injection e with e
    simpa using e
  · rintro rfl; rfl
theorem ok_cells_from (T : Txt K mg a d) (G_digits_cells : FnOk P w K mg base CX0 1 a.digits_cells d.digits_cells ["signs"] (sp_digits_cells K)) : FnOk P w K mg base CX0 2 a.cells_from d.cells_from ["text", "place"] (sp_cells_from K) := by
  refine T.F_cells_from.ok sc_cells_from (by walk_at "len") (fun cdv A outer s H vs Q E hr h => ?_)
  obtain ⟨z, p, rfl, hp, hz, hl, k⟩ := h
  have hz1 : z.length ≤ sizeLine := sz (by omega)
  have hlt := len_tl z
  obtain ⟨c1, hc1⟩ : ∃ c, (tl z)[p]? = some c := ⟨_, List.getElem?_eq_getElem (by omega)⟩
  obtain ⟨c2, hc2⟩ : ∃ c, (tl z)[p + 121]? = some c := ⟨_, List.getElem?_eq_getElem (by omega)⟩
  have e2 : ((p : Int) + 122 - 1) = ((p + 121 : Nat) : Int) := by omega
  refine ⟨_, (pss_cons (ps_set (i := 2) sc_cells_from.nd rfl (Or.inl rfl) (pe_op op_sub (pe_op op_add (pv 1) (pe_glob (v := .int 122) rfl T.c_WINDOW_SIGNS.choose_spec ⟨_, rfl⟩)) pe_int))
      (pss_cons (ps_if (PW.pt (pw_or (pt_cmpR op_ne (pe_ix ix_str (pv 0) (pv 1) (fun _ _ => rfl)) pe_str (nomark _)) (pw_or1 (pt_cmpR op_ne (pe_ix ix_str (pv 0) (pv 2) (fun _ _ => rfl)) pe_str (nomark _))))) (pss_one (ps_ret pe_non)) pss_nil)
      (pss_one (ps_ret (pe_call G_digits_cells (hr.mono (by decide)) (by rfl) T.g_digits_cells T.k_digits_cells T.B_digits_cells .nil pass0 (pa_cons (pe_slice sl_str (pv 0) (po_some (pe_op op_add (pv 1) pe_int)) (po_some (pv 2))) pa_nil)))))), ?_⟩
  walk_at "rd"
  refine ⟨_, _, c1, rfl, rfl, hz1, atI_nat hc1, ?_⟩
  walk_at "rd"
  have no : ¬ ((tl z)[p]? = some 35 ∧ (tl z)[p + 121]? = some 59) → winAt (tl z) p = none := fun g => by unfold winAt; rw [if_neg g]
  refine iteB (fun h1 => ?_) (fun h1 => ?_)
  · walk_at "rd"
    rw [no (by rintro ⟨g, _⟩; rw [hc1] at g; rw [(sgn (s := "#") (k := 35) rfl).mpr (Option.some.inj g)] at h1; simp at h1)] at k
    exact k _ _ (Same.refl H) .non
  have g1 : c1 = 35 := (sgn (s := "#") (k := 35) rfl).mp (by simpa using h1)
  walk_at "rd"
  refine ⟨_, _, c2, rfl, rfl, hz1, by rw [e2]; exact atI_nat hc2, ?_⟩
  walk_at "rd"
  refine iteB (fun h2 => ?_) (fun h2 => ?_)
  · walk_at "rd"
    rw [no (by rintro ⟨_, g⟩; rw [hc2] at g; rw [(sgn (s := ";") (k := 59) rfl).mpr (Option.some.inj g)] at h2; simp at h2)] at k
    exact k _ _ (Same.refl H) .non
  have g2 : c2 = 59 := (sgn (s := ";") (k := 59) rfl).mp (by simpa using h2)
  walk_at "rd"
  have ec : tl (cutS z (some ((p : Int) + 1)) (some ((p : Int) + 122 - 1))) = ((tl z).drop (p + 1)).take 120 := by
    rw [e2, show ((p : Int) + 1) = ((p + 1 : Nat) : Int) by omega, cut_nat, show p + 121 - (p + 1) = 120 by omega]
  have ew : winAt (tl z) p = toldL (((tl z).drop (p + 1)).take 120) := by
    unfold winAt
    rw [if_pos ⟨by rw [hc1, g1], by rw [hc2, g2]⟩]
  refine ⟨pr_cut hp _ _, Nat.le_trans (cutS_length _ _ _) hz, fun v H' s' t => k v H' s' ?_⟩
  rw [ec, ← ew] at t
  exact t
def mu (z : Str) (σ : List (Option V)) : Nat := match σ[4]? with
  | some (some (V.int p)) => if p < 0 then 0 else z.length + 1 - p.toNat
  | _ => 0
theorem ok_standing (T : Txt K mg a d) (G_cells_from : FnOk P w K mg base CX0 2 a.cells_from d.cells_from ["text", "place"] (sp_cells_from K)) : FnOk P w K mg base CX0 3 a.standing d.standing ["text", "begin", "end"] (sp_standing K) := by
  refine T.F_standing.ok sc_standing (by walk_at "len") (fun cdv A outer s H vs Q E hr h => ?_)
  obtain ⟨z, b, e, rfl, hp, hz, hb, he, k⟩ := h
  have hz1 : z.length ≤ sizeLine := sz (by omega)
  have hlt := len_tl z
  refine ⟨_, (pss_cons (ps_set (i := 3) sc_standing.nd rfl (Or.inl rfl) (pe_lst pa_nil))
      (pss_cons (ps_set (i := 4) sc_standing.nd rfl (Or.inl rfl) (pe_bm PySem.F.plainAttrs_str PySem.F.slot_str_find PySem.F.type_str_find mt_find3 (pv 0) (pa_cons pe_str (pa_cons (pv 1) pa_nil))))
      (pss_cons (ps_while PassesOwn.never (pt_chain op_le op_le pe_int (pv 4) (pe_op op_sub (pv 2) (pe_glob (v := .int 122) rfl T.c_WINDOW_SIGNS.choose_spec ⟨_, rfl⟩)))
      (pss_cons (ps_set (i := 5) sc_standing.nd rfl (Or.inl rfl) (pe_call G_cells_from (hr.mono (by decide)) (by rfl) T.g_cells_from T.k_cells_from T.B_cells_from .nil pass0 (pa_cons (pv 0) (pa_cons (pv 4) pa_nil))))
      (pss_cons (ps_if (pt_cmpR op_notN (pv 5) pe_non (nomark _)) (pss_one (ps_expr (pe_bm PySem.F.plainAttrs_list PySem.F.slot_list_append PySem.F.type_list_append mt_append (pv 3) (pa_cons (pe_tup (pa_cons (pv 4) (pa_cons (pv 5) pa_nil))) pa_nil)))) pss_nil)
      (pss_one (ps_set (i := 4) sc_standing.nd rfl (Or.inl rfl) (pe_bm PySem.F.plainAttrs_str PySem.F.slot_str_find PySem.F.type_str_find mt_find3 (pv 0) (pa_cons pe_str (pa_cons (pe_op op_add (pv 4) pe_int) pa_nil))))))))
      (pss_one (ps_ret (pe_callTy call_tuple_of (by rfl) T.b_tuple (by decide +kernel) (pa_cons (pv 3) pa_nil))))))), ?_⟩
  walk_at "rd"
  refine fun L hL => ?_
  walk_at "rd"
  refine while_by (fun σ H' => ∃ (j : Nat) (xs : List V) (v5 : Option V), b ≤ j ∧ j ≤ z.length ∧ (j = b ∨ j ≤ e - 121) ∧ σ = [some (.str z), some (.int b), some (.int e), some (.ref L), some (.int (Txt.find3 z "#" (j : Int))), v5] ∧
    Same H H' ∧ H' L = some (.lst xs) ∧ TpAll K H' xs ((wl (tl z) b j).map encW)) (fun σ _ => mu z σ) ⟨b, [], none, Nat.le_refl _, hb, .inl rfl, rfl, Same.new hL, upd_same, by rw [wl_nil (Nat.le_refl _)]; exact .nil⟩ ?_ ?_
  · rintro σ H1 ⟨j, xs, v5, hbj, hj, hje, rfl, s1, hL1, t1⟩
    rcases find3_sign z 35 j hj with ⟨e1, n1⟩ | ⟨p, e1, g1, g2, g3⟩
    · rw [show Txt.find3 z "#" (j : Int) = -1 from e1]
      walk_at "rd"
      refine ⟨_, _, rfl, .inl ⟨SqL.of hL1, fun l hl => ?_⟩⟩
      have ew : wl (tl z) b (e - 121) = wl (tl z) b j := by
        rcases hje with g | g
        · subst g
          rw [wl_nil (Nat.le_refl _), wl_gap fun q hq _ => n1 q hq]
        · rw [wl_append hbj g, wl_gap (a := j) fun q hq _ => n1 q hq, List.append_nil]
      rw [ew] at k
      exact k _ _ (s1.trans (Same.new hl)) (tp_new hl t1)
    · have e1' : Txt.find3 z "#" (j : Int) = (p : Int) := e1
      have hpz : p < (tl z).length := (List.getElem?_eq_some_iff.mp g2).1
      rw [e1']
      walk_at "rd"
      refine iteB (fun c1 => ?_) (fun c1 => ?_)
      · have c1' := of_decide_eq_true c1
        have hl1 : xs.length ≤ 60000 := by rw [t1.length, List.length_map]; exact Nat.le_trans wl_length (by omega)
        have egap : wl (tl z) b p = wl (tl z) b j := by rw [wl_append hbj g1, wl_gap (a := j) fun q h1 h2 => g3 q h1 h2, List.append_nil]
        have emu : ∀ (x : V) (y : Option V), mu z [some (.str z), some (.int b), some (.int e), some (.ref L), some (.int (Txt.find3 z "#" ((p + 1 : Nat) : Int))), y] < mu z [some (.str z), some (.int b), some (.int e), some (.ref L), some (.int (p : Int)), v5] := fun x y => by
          show (if Txt.find3 z "#" ((p + 1 : Nat) : Int) < 0 then 0 else z.length + 1 - (Txt.find3 z "#" ((p + 1 : Nat) : Int)).toNat) < (if (p : Int) < 0 then 0 else z.length + 1 - (p : Int).toNat)
          rw [if_neg (show ¬ (p : Int) < 0 by omega)]
          rcases find3_sign z 35 (p + 1) (by omega) with ⟨e2, _⟩ | ⟨q, e2, f1, f2, _⟩
          · rw [show Txt.find3 z "#" ((p + 1 : Nat) : Int) = -1 from e2]
            simp; omega
          · have := (List.getElem?_eq_some_iff.mp f2).1
            rw [show Txt.find3 z "#" ((p + 1 : Nat) : Int) = (q : Int) from e2, if_neg (by omega)]
            omega
        walk_at "rd"
        refine fun v H2 s2 t2 => ?_
        have hL2 := s2 _ _ hL1
        have t1' := t1.keep (Kt.of s2)
        cases ew : winAt (tl z) p with
        | none =>
          rw [ew] at t2
          cases t2
          walk_at "rd"
          refine ⟨⟨p + 1, xs, _, by omega, by omega, .inr (by omega), rfl, s1.trans s2, hL2, ?_⟩, emu (.int 0) _⟩
          rw [wl_succ (by omega), egap]
          unfold wf
          rw [ew]
          simpa using t1'
        | some c =>
          rw [ew] at t2
          have t2' : Tp K H2 v (encT c) := t2
          cases t2 with
          | @tup aa ys ds hs ha =>
          walk_at "rd"
          refine fun T2 hT => ?_
          have nLT : L ≠ T2 := ne_of_none hL2 hT
          refine ⟨_, _, _, rfl, rfl, (upd_ne nLT).trans hL2, szl (by omega), ?_⟩
          walk_at "rd"
          have s3 : Same H (upd (upd H2 T2 (.tup [.int p, .ref aa])) L (.lst (xs ++ [.ref T2]))) := fun q o g => by
            rw [upd_ne (ne_of_none g hL), upd_ne (ne_of_none ((s1.trans s2) q o g) hT)]
            exact (s1.trans s2) q o g
          refine ⟨⟨p + 1, _, _, by omega, by omega, .inr (by omega), rfl, s3, upd_same, ?_⟩, emu (.int 0) _⟩
          rw [wl_succ (by omega), egap]
          unfold wf
          rw [ew, List.map_append]
          have kk : Kt H2 (upd (upd H2 T2 (.tup [.int p, .ref aa])) L (.lst (xs ++ [.ref T2]))) := (Kt.of (Same.new hT)).trans (Kt.lst (.inr ⟨xs, (upd_ne nLT).trans hL2⟩))
          refine (t1'.keep kk).snoc (.tup (SqT.of ((upd_ne nLT.symm).trans upd_same)) (.cons (.int _) (.cons (t2'.keep kk) .nil)))
      · have c1' := of_decide_eq_false c1
        walk_at "rd"
        refine ⟨_, _, rfl, .inl ⟨SqL.of hL1, fun l hl => ?_⟩⟩
        have ew : wl (tl z) b (e - 121) = wl (tl z) b j := by
          rcases hje with g | g
          · subst g
            rw [wl_nil (Nat.le_refl _), wl_gap fun q h1 h2 => g3 q h1 (by omega)]
          · rw [wl_append hbj g, wl_gap (a := j) fun q h1 h2 => g3 q h1 (by omega), List.append_nil]
        rw [ew] at k
        exact k _ _ (s1.trans (Same.new hl)) (tp_new hl t1)
  · exact mt_test (me_chain mr_I0 mr_I0 me_c me_var (me_op mr_I0 me_var me_c))
theorem len_app (x y : Str) : (x ++ y).length = x.length + y.length := by rw [len_tl, len_tl, len_tl, tl_append, List.length_append]
theorem ok_windows (T : Txt K mg a d) (G_check_text : FnOk P w K mg base CX0 2 a.check_text d.check_text ["text"] (sp_check_text K)) (G_standing : FnOk P w K mg base CX0 3 a.standing d.standing ["text", "begin", "end"] (sp_standing K)) : FnOk P w K mg base CX0 4 a.windows d.windows ["text"] (sp_windows K) := by
  refine T.F_windows.ok sc_windows (by walk_at "len") (fun cdv A outer s H vs Q E hr h => ?_)
  obtain ⟨z, rfl, hp, hz, k⟩ := h
  have hz1 : z.length ≤ sizeLine := sz (by omega)
  refine ⟨_, (pss_cons (ps_expr (pe_call G_check_text (hr.mono (by decide)) (by rfl) T.g_check_text T.k_check_text T.B_check_text .nil pass0 (pa_cons (pv 0) pa_nil)))
      (pss_one (ps_ret (pe_call G_standing (hr.mono (by decide)) (by rfl) T.g_standing T.k_standing T.B_standing .nil pass0 (pa_cons (pv 0) (pa_cons pe_int (pa_cons (pe_callB call_len_str (by rfl) T.b_len (by decide +kernel) (pa_cons (pv 0) pa_nil)) pa_nil))))))), ?_⟩
  walk_at "rd"
  exact ⟨z, 0, z.length, rfl, hp, hz, Nat.zero_le _, Nat.le_refl _, k⟩
theorem ok_windows_across (T : Txt K mg a d) (G_check_text : FnOk P w K mg base CX0 2 a.check_text d.check_text ["text"] (sp_check_text K)) (G_standing : FnOk P w K mg base CX0 3 a.standing d.standing ["text", "begin", "end"] (sp_standing K)) : FnOk P w K mg base CX0 4 a.windows_across d.windows_across ["one", "other"] (sp_windows_across K) := by
  refine T.F_windows_across.ok sc_windows_across (by walk_at "len") (fun cdv A outer s H vs Q E hr h => ?_)
  obtain ⟨x, y, rfl, hx, hy, hz, k⟩ := h
  have hz1 : x.length ≤ sizeLine := sz (by omega)
  have hz2 : y.length ≤ sizeLine := sz (by omega)
  have hl := len_app x y
  have hz3 : (x ++ y).length ≤ sizeLine := sz (by omega)
  refine ⟨_, (pss_cons (ps_expr (pe_call G_check_text (hr.mono (by decide)) (by rfl) T.g_check_text T.k_check_text T.B_check_text .nil pass0 (pa_cons (pv 0) pa_nil)))
      (pss_cons (ps_expr (pe_call G_check_text (hr.mono (by decide)) (by rfl) T.g_check_text T.k_check_text T.B_check_text .nil pass0 (pa_cons (pv 1) pa_nil)))
      (pss_cons (ps_if (pt_cmpR op_gt (pe_op op_add (pe_callB call_len_str (by rfl) T.b_len (by decide +kernel) (pa_cons (pv 0) pa_nil)) (pe_callB call_len_str (by rfl) T.b_len (by decide +kernel) (pa_cons (pv 1) pa_nil))) (pe_glob (v := .int 60000) rfl T.c_MOST_SIGNS.choose_spec ⟨_, rfl⟩) (nomark _)) (pss_one ps_never) pss_nil)
      (pss_cons (ps_set (i := 2) sc_windows_across.nd rfl (Or.inl rfl) (pe_op op_add_str (pv 0) (pv 1)))
      (pss_cons (ps_set (i := 3) sc_windows_across.nd rfl (Or.inl rfl) (pe_callB (call_max2 rfl) (by rfl) T.b_max (by decide +kernel) (pa_cons pe_int (pa_cons (pe_op op_add (pe_op op_sub (pe_callB call_len_str (by rfl) T.b_len (by decide +kernel) (pa_cons (pv 0) pa_nil)) (pe_glob (v := .int 122) rfl T.c_WINDOW_SIGNS.choose_spec ⟨_, rfl⟩)) pe_int) pa_nil))))
      (pss_cons (ps_set (i := 4) sc_windows_across.nd rfl (Or.inl rfl) (pe_callB (call_min2 rfl) (by rfl) T.b_min (by decide +kernel) (pa_cons (pe_callB call_len_str (by rfl) T.b_len (by decide +kernel) (pa_cons (pv 2) pa_nil)) (pa_cons (pe_op op_sub (pe_op op_add (pe_callB call_len_str (by rfl) T.b_len (by decide +kernel) (pa_cons (pv 0) pa_nil)) (pe_glob (v := .int 122) rfl T.c_WINDOW_SIGNS.choose_spec ⟨_, rfl⟩)) pe_int) pa_nil))))
      (pss_one (ps_ret (pe_call G_standing (hr.mono (by decide)) (by rfl) T.g_standing T.k_standing T.B_standing .nil pass0 (pa_cons (pv 2) (pa_cons (pv 3) (pa_cons (pv 4) pa_nil)))))))))))), ?_⟩
  walk_at "rd"
  refine iteB (fun c => ?_) (fun c => ?_)
  · exact absurd (of_decide_eq_true c) (by omega)
  walk_at "rd"
  refine ⟨x ++ y, x.length - 121, min (x ++ y).length (x.length + 121), ?_, pr_app hx hy, by omega, by omega, by omega, fun v H' s1 t => k v H' s1 ?_⟩
  · have e1 : (if (x.length : Int) - 122 + 1 > 0 then (x.length : Int) - 122 + 1 else 0) = ((x.length - 121 : Nat) : Int) := by split <;> omega
    have e2 : (if (x.length : Int) + 122 - 1 < ((x ++ y).length : Int) then (x.length : Int) + 122 - 1 else ((x ++ y).length : Int)) = ((min (x ++ y).length (x.length + 121) : Nat) : Int) := by split <;> omega
    rw [e1, e2]
    rfl
  · rw [tl_append, show min (x ++ y).length (x.length + 121) - 121 = min x.length (x.length + y.length - 121) by omega] at t
    exact t
/-! ### the law's draws -/
def Tray (H : Hp) (t : Addr) : Prop := ∃ a b c : Int, H t = some (.lst [.int a, .int b, .int c])
theorem Tray.same {H H' : Hp} {t : Addr} (s : Same H H') : Tray H t → Tray H' t := fun ⟨a, b, c, h⟩ => ⟨a, b, c, s _ _ h⟩
theorem Tray.kt {H : Hp} {t : Addr} {o : HO} (h : Tray H t) : Kt H (upd H t o) := by
  obtain ⟨a, b, c, h⟩ := h
  exact Kt.lst (.inr ⟨_, h⟩)
def sp_law_tray (K : PySem.W.Frag) : Sp := fun vs H Q _ => ∃ (a : Addr) (ns : List Int) (i : Nat), vs = [.ref a, .int i] ∧ SqL K H a (ns.map V.int) ∧ i ≤ 3 ∧ ∀ p H', Same H H' → H p = none → Tray H' p → Q (.ref p) H'
/-- behind a draw: r, and all but the tray as it was -/
def Dr (t : Addr) (H H' : Hp) : Prop := But t H H' ∧ Tray H' t ∧ Kt H H'
def sp_law_pluck (K : PySem.W.Frag) : Sp := fun vs H Q _ => ∃ (t : Addr) (n : Int), vs = [.ref t, .int n] ∧ Tray H t ∧ 0 < n ∧ n < 1000000 ∧ ∀ r H', 0 ≤ r → r < n → Dr t H H' → Q (.int r) H'
def sp_law_some (K : PySem.W.Frag) : Sp := fun vs H Q _ => ∃ (t l : Addr) (xs : List V), vs = [.ref t, .ref l] ∧ Tray H t ∧ l ≠ t ∧ H l = some (.lst xs) ∧ xs ≠ [] ∧ xs.length ≤ 1000 ∧ ∀ v H', v ∈ xs → Dr t H H' → Q v H'
theorem ok_law_tray (T : Txt K mg a d)  : FnOk P w K mg base CX0 1 a.law_tray d.law_tray ["script", "spot"] (sp_law_tray K) := by
  refine T.F_law_tray.ok sc_law_tray (by walk_at "len") (fun cdv A outer s H vs Q E hr h => ?_)
  obtain ⟨l, ns, i, rfl, hS, hi, k⟩ := h
  have hp56 : (0 : Int) ≤ 6 ∧ (Builtin.Int.intBits ((10 : Int) ^ (56 : Int).toNat) : Int) * 6 ≤ 2 ^ 27 := by decide +kernel
  have hp0 : (0 : Int) < ((10 : Int) ^ (56 : Int).toNat) ^ (6 : Int).toNat := by decide +kernel
  have fin : ∀ (x y : Int) (p : Addr), H p = none → Q (.ref p) (upd H p (.lst [.int x, .int y, .int 0])) := fun x y p hp => k p _ (Same.new hp) hp ⟨x, y, 0, upd_same⟩
  refine ⟨_, (pss_cons (ps_set (i := 2) sc_law_tray.nd rfl (Or.inl rfl) (pe_ifExp (pt_cmpR op_lt (pv 1) (pe_callB call_len_seq (by rfl) T.b_len (by decide +kernel) (pa_cons (pv 0) pa_nil)) (nomark _)) (pe_callTy call_int1 (by rfl) T.b_int (by decide +kernel) (pa_cons (pe_ix ix_list (pv 0) (pv 1) (fun _ _ => rfl)) pa_nil)) (pe_op op_add (pe_op op_mul pe_int (pv 1)) pe_int)))
      (pss_cons (ps_set (i := 3) sc_law_tray.nd rfl (Or.inl rfl) (pe_op op_mod (pe_callTy call_int1 (by rfl) T.b_int (by decide +kernel) (pa_cons (pe_callB call_abs (by rfl) T.b_abs (by decide +kernel) (pa_cons (pv 2) pa_nil)) pa_nil)) (pe_op op_powW (pe_op op_pow pe_int pe_int) pe_int)))
      (pss_one (ps_ret (pe_lst (pa_cons (pe_callB (call_max2 rfl) (by rfl) T.b_max (by decide +kernel) (pa_cons pe_int (pa_cons (pe_op op_sub (pv 3) (pe_op op_pow pe_int pe_int)) pa_nil))) (pa_cons (pe_op op_add (pe_op op_add (pe_op op_add (pe_op op_mul (pe_op op_mod (pv 3) pe_int) pe_int) (pe_op op_mul pe_int (pv 1))) (pe_op op_mul pe_int (pe_callTy call_int1 (by rfl) T.b_int (by decide +kernel) (pa_cons (pe_cmpR op_lt (pv 2) pe_int (nomark _)) pa_nil)))) pe_int) (pa_cons pe_int pa_nil)))))))), ?_⟩
  walk_at "rd"
  refine iteB (fun c => ?_) (fun c => ?_)
  · have c' := of_decide_eq_true c
    rw [List.length_map] at c'
    obtain ⟨v, hv⟩ : ∃ v, ns[i]? = some v := ⟨_, List.getElem?_eq_getElem (by omega)⟩
    walk_at "rd"
    refine ⟨_, _, _, _, rfl, rfl, hS, atI_nat (v := .int v) (by rw [List.getElem?_map, hv]; rfl), ?_⟩
    walk_at "rd"
    exact fun p hp => fin _ _ p hp
  · walk_at "rd"
    exact fun p hp => fin _ _ p hp
theorem ok_law_pluck (T : Txt K mg a d)  : FnOk P w K mg base CX0 1 a.law_pluck d.law_pluck ["tray", "total"] (sp_law_pluck K) := by
  refine T.F_law_pluck.ok sc_law_pluck (by walk_at "len") (fun cdv A outer s H vs Q E hr h => ?_)
  obtain ⟨t, n, rfl, ⟨x, y, z, hT⟩, hn, hn2, k⟩ := h
  have hdw : CDivW x n := wide_div hn (b := 20) (by omega) (by decide) (by decide)
  have fin : ∀ (r : Int) (x y z : Int), 0 ≤ r → r < n → Q (.int r) (upd H t (.lst [.int x, .int y, .int z])) := fun r x' y' z' h0 h1 => k r _ h0 h1 ⟨But.upd, ⟨x', y', z', upd_same⟩, Tray.kt ⟨x, y, z, hT⟩⟩
  have hone : ∀ w : Int, CMul (w % 2305843009213693951) (w % 2305843009213693951) := fun w => .inl ⟨by have := Int.emod_nonneg w (show (2305843009213693951 : Int) ≠ 0 by decide); omega, by have := Int.emod_lt_of_pos w (show (0 : Int) < 2305843009213693951 by decide); omega⟩
  refine ⟨_, (pss_cons (ps_if (pt_cmpR op_gt (pe_ix ix_list (pv 0) pe_int (fun _ _ => rfl)) pe_int (nomark _)) (pss_cons (ps_set (i := 2) sc_law_pluck.nd rfl (Or.inl rfl) (pe_op op_mod (pe_callTy call_int1 (by rfl) T.b_int (by decide +kernel) (pa_cons (pe_ix ix_list (pv 0) pe_int (fun _ _ => rfl)) pa_nil)) (pv 1)))
      (pss_cons (ps_asg (pe_op op_fdivW (pe_ix ix_list (pv 0) pe_int (fun _ _ => rfl)) (pv 1)) (pg_sub (pv 0) pe_int set_list))
      (pss_one (ps_ret (pv 2))))) pss_nil)
      (pss_cons (ps_asg (pe_op op_add (pe_ix ix_list (pv 0) pe_int (fun _ _ => rfl)) pe_int) (pg_sub (pv 0) pe_int set_list))
      (pss_cons (ps_set (i := 3) sc_law_pluck.nd rfl (Or.inl rfl) (pe_op op_mod (pe_callTy call_int1 (by rfl) T.b_int (by decide +kernel) (pa_cons (pe_op op_add (pe_ix ix_list (pv 0) pe_int (fun _ _ => rfl)) (pe_op op_mul pe_int (pe_ix ix_list (pv 0) pe_int (fun _ _ => rfl)))) pa_nil)) pe_int))
      (pss_cons (ps_set (i := 4) sc_law_pluck.nd rfl (Or.inl rfl) (pe_op op_add (pe_op op_mul (pe_op op_mod (pe_callTy call_int1 (by rfl) T.b_int (by decide +kernel) (pa_cons (pe_op op_add (pe_op op_mul (pv 3) (pv 3)) (pe_op op_mul pe_int (pe_ix ix_list (pv 0) pe_int (fun _ _ => rfl)))) pa_nil)) pe_int) pe_int) (pv 3)))
      (pss_one (ps_ret (pe_op op_mod (pe_callTy call_int1 (by rfl) T.b_int (by decide +kernel) (pa_cons (pe_op op_fdiv (pv 4) pe_int) pa_nil)) (pv 1)))))))), ?_⟩
  walk_at "rd"
  refine iteB (fun c => ?_) (fun c => ?_)
  · walk_at "rd"
    exact fin _ _ _ _ (Int.emod_nonneg _ (by omega)) (Int.emod_lt_of_pos _ hn)
  walk_at "rd"
  refine ⟨hone _, ?_⟩
  walk_at "rd"
  exact fin _ _ _ _ (Int.emod_nonneg _ (by omega)) (Int.emod_lt_of_pos _ hn)
theorem ok_law_some (T : Txt K mg a d) (G_law_pluck : FnOk P w K mg base CX0 1 a.law_pluck d.law_pluck ["tray", "total"] (sp_law_pluck K)) : FnOk P w K mg base CX0 2 a.law_some d.law_some ["tray", "items"] (sp_law_some K) := by
  refine T.F_law_some.ok sc_law_some (by walk_at "len") (fun cdv A outer s H vs Q E hr h => ?_)
  obtain ⟨t, l, xs, rfl, hT, hl, hL, hne, hn, k⟩ := h
  have hx : 0 < xs.length := List.length_pos_iff.mpr hne
  refine ⟨_, (pss_one (ps_ret (pe_ix ix_list (pv 1) (pe_call G_law_pluck (hr.mono (by decide)) (by rfl) T.g_law_pluck T.k_law_pluck T.B_law_pluck .nil pass0 (pa_cons (pv 0) (pa_cons (pe_callB call_len_seq (by rfl) T.b_len (by decide +kernel) (pa_cons (pv 1) pa_nil)) pa_nil))) (fun _ _ => rfl)))), ?_⟩
  walk_at "rd"
  rintro r H' h0 h1 ⟨b1, t1, k1⟩
  obtain ⟨v, hv⟩ : ∃ v, xs[r.toNat]? = some v := ⟨_, List.getElem?_eq_getElem (by omega)⟩
  refine ⟨_, _, _, _, rfl, rfl, SqL.of (b1 _ _ hl hL), at_of (j := r.toNat) (by omega) hv, ?_⟩
  exact k v H' (List.mem_of_getElem? hv) ⟨b1, t1, k1⟩
def three (c : Int) : List Nat := (numL (1000 + c.toNat)).drop 1
def winS (cs : List Int) : Str := ⟨(35 :: (cs.flatMap three ++ [59])).toArray⟩
def sp_law_three (K : PySem.W.Frag) : Sp := fun vs H Q _ => ∃ c : Int, vs = [.int c] ∧ 0 ≤ c ∧ c ≤ 996 ∧ Q (.str ⟨(three c).toArray⟩) H
def sp_law_told (K : PySem.W.Frag) : Sp := fun vs H Q _ => ∃ z : Str, vs = [.str z] ∧ pr z ∧ z.length ≤ 60000 ∧ ∀ v H', Same H H' → Tp K H' v (encO (toldL (tl z))) → Q v H'
def sp_law_window (K : PySem.W.Frag) : Sp := fun vs H Q _ => ∃ (a : Addr) (cs : List Int), vs = [.ref a] ∧ SqT K H a (cs.map V.int) ∧ cs.length ≤ 1000 ∧ (∀ c ∈ cs, 0 ≤ c ∧ c ≤ 996) ∧ ∀ H', Same H H' → Q (.str (winS cs)) H'
def sp_law_windows (K : PySem.W.Frag) : Sp := fun vs H Q _ => ∃ z : Str, vs = [.str z] ∧ pr z ∧ z.length ≤ 60000 ∧ ∀ p xs H', Same H H' → H p = none → H' p = some (.lst xs) → TpAll K H' xs ((wl (tl z) 0 (z.length - 121)).map encW) → Q (.ref p) H'
theorem ok_law_three (T : Txt K mg a d)  : FnOk P w K mg base CX0 1 a.law_three d.law_three ["cell"] (sp_law_three K) := by
  refine T.F_law_three.ok sc_law_three (by walk_at "len") (fun cdv A outer s H vs Q E hr h => ?_)
  obtain ⟨c, rfl, h0, h1, k⟩ := h
  have hlg : (1000 + c).natAbs.log2 < 1920 := Nat.lt_of_lt_of_le (PySem.Flt.log2_lt_of (by decide : 0 < 11) (by omega : (1000 + c).natAbs < 2 ^ 11)) (by decide)
  have en : (1000 + c) = ((1000 + c.toNat : Nat) : Int) := by omega
  have et : tl (Str.ofString (toString (1000 + c))) = numL (1000 + c.toNat) := by rw [en]; exact tl_num _
  have hlen : (Str.ofString (toString (1000 + c))).length ≤ sizeLine := by
    rw [len_tl, et]
    exact sz (Nat.le_trans (numL_len (k := 4) (by decide) (by omega)) (by decide))
  refine ⟨_, (pss_one (ps_ret (pe_slice sl_str (pe_callTy call_str_int (by rfl) T.b_str (by decide +kernel) (pa_cons (pe_op op_add pe_int (pv 0)) pa_nil)) (po_some pe_int) po_none))), ?_⟩
  walk_at "rd"
  have e2 : cutS (Str.ofString (toString (1000 + c))) (some 1) none = ⟨(three c).toArray⟩ := ext_tl (by
    have := cut_lo (Str.ofString (toString (1000 + c))) 1
    rw [et] at this
    exact this)
  rw [← e2] at k
  exact k
theorem in_digits : ∀ c, c < 127 → decide (c ∈ (Str.ofString "0123456789").cps.toList) = dg c := by decide +kernel
def sgV (c : Nat) : V := .str ⟨#[c]⟩
def sgD (c : Nat) : PyData := .str ⟨#[c]⟩
theorem sg_all {K : PySem.W.Frag} {H : Hp} : ∀ l : List Nat, TpAll K H (l.map sgV) (l.map sgD)
  | [] => .nil
  | c :: l => .cons (.str _) (sg_all l)
theorem sg_shaped {l : List Nat} (h : ∀ c ∈ l, c ≤ 126) : SeqAt.shaped (.list (l.map sgD)) = true := flat_shaped (n := 2) (by
  show flatAll 1 (l.map sgD) = true
  rw [flatAll_iff]
  intro d hd
  obtain ⟨c, hc, rfl⟩ := List.mem_map.mp hd
  show PyData.strOk ⟨#[c]⟩ = true
  have := h c hc
  simp [PyData.strOk]
  omega) (by decide)
theorem eqv_nil {ds : List PyData} : PyData.eqv (.list ds) (.list []) = ds.isEmpty := by
  cases ds <;> simp [PyData.eqv, PyData.eqvAll]
theorem ok_law_told (T : Txt K mg a d)  : FnOk P w K mg base CX0 1 a.law_told d.law_told ["digits"] (sp_law_told K) := by
  refine T.F_law_told.ok sc_law_told (by walk_at "len") (fun cdv A outer s H vs Q E hr h => ?_)
  obtain ⟨z, rfl, hp, hz, k⟩ := h
  have hz1 : z.length ≤ sizeLine := sz (by omega)
  have hlt := len_tl z
  refine ⟨_, (pss_cons (ps_set (i := 1) sc_law_told.nd rfl (Or.inl rfl) (pe_lst pa_nil))
      (pss_cons (ps_for PassesOwn.never rfl (pi_range3 (by rfl) T.b_range (pa_cons pe_int (pa_cons (pe_callB call_len_str (by rfl) T.b_len (by decide +kernel) (pa_cons (pv 0) pa_nil)) (pa_cons pe_int pa_nil)))) (pg_name (i := 2) sc_law_told.nd rfl (Or.inl rfl))
      (pss_cons (ps_set (i := 3) sc_law_told.nd rfl (Or.inl rfl) (pe_slice sl_str (pv 0) (po_some (pv 2)) (po_some (pe_op op_add (pv 2) pe_int))))
      (pss_cons (ps_if (PW.pt (pw_or (pt_cmpR op_lt (pe_callB call_len_str (by rfl) T.b_len (by decide +kernel) (pa_cons (pv 3) pa_nil)) pe_int (nomark _)) (pw_or (pt_cmpR (op_neD hr.units) (pe_lc (own := [("sign", 4)]) rfl sc_law_told.nd (pi_str (pv 3)) (blkOk_by (N := n_law_told) (sc := defScope s_law_told) (by decide +kernel)) (fun _ _ _ _ _ => (pg_name (i := 4) sc_law_told.nd rfl (Or.inl rfl))) (fun _ _ _ _ _ => (pts_one (pt_cmpR op_notIn_sign (pv 4) pe_str rfl))) (fun _ _ _ _ _ => (pv 4))) (pe_lst pa_nil) (nomark _)) (pw_or1 (pt_cmpR op_gt (pe_callTy call_int_str (by rfl) T.b_int (by decide +kernel) (pa_cons (pv 3) pa_nil)) pe_int (nomark _)))))) (pss_one (ps_ret pe_non)) pss_nil)
      (pss_one (ps_expr (pe_bm PySem.F.plainAttrs_list PySem.F.slot_list_append PySem.F.type_list_append mt_append (pv 1) (pa_cons (pe_callTy call_int_str (by rfl) T.b_int (by decide +kernel) (pa_cons (pv 3) pa_nil)) pa_nil)))))))
      (pss_one (ps_ret (pe_callTy call_tuple_of (by rfl) T.b_tuple (by decide +kernel) (pa_cons (pv 1) pa_nil)))))), ?_⟩
  walk_at "rd"
  refine fun L hL => ?_
  walk_at "rd"
  refine ⟨_, _, _, _, rfl, rg3 z.length (by omega), ?_⟩
  have hn : (z.length + 2) / 3 = nck (tl z) := by unfold nck; rw [hlt]
  rw [hn]
  refine for_it walk_rangeC (fun i σ H' => ∃ v2 v3 v4 : Option V, σ = [some (.str z), some (.ref L), v2, v3, v4] ∧ Same H H' ∧ H' L = some (.lst ((vals (tl z) i).map V.int)) ∧ oks (tl z) i = true) ⟨none, none, none, rfl, Same.new hL, upd_same, rfl⟩ (fun _ _ _ _ _ => trivial) ?_ ?_
  · rintro i x σ H1 H2 hi ⟨v2, v3, v4, rfl, s1, hL1, ho⟩ ⟨rfl, rfl⟩
    walk_at "rd"
    rw [cut_ck]
    have hcm : ∀ c ∈ ck (tl z) i, 32 ≤ c ∧ c ≤ 126 := fun c hc => hp c (List.mem_of_mem_drop (List.mem_of_mem_take hc))
    have hcl : (ck (tl z) i).length ≤ 3 := by unfold ck; rw [List.length_take]; omega
    have hbad : okc (ck (tl z) i) = false → toldL (tl z) = none := told_bad hi
    have hoks : oks (tl z) (i + 1) = okc (ck (tl z) i) := by rw [oks_succ, ho, Bool.true_and]
    have hvs : vals (tl z) (i + 1) = vals (tl z) i ++ [((digv (ck (tl z) i) : Nat) : Int)] := vals_succ
    generalize ck (tl z) i = t3 at hcm hcl hbad hoks hvs
    have hl3 : (⟨t3.toArray⟩ : Str).length = t3.length := by show t3.toArray.size = _; simp
    have hc1 : (⟨t3.toArray⟩ : Str).length ≤ sizeLine := sz (by omega)
    walk_at "rd"
    refine iteB (fun c => ?_) (fun c => ?_)
    · have c' := of_decide_eq_true c
      rw [hbad (by unfold okc; rw [decide_eq_false (by omega)]; rfl)] at k
      exact k _ _ s1 .non
    have c3 : t3.length = 3 := by have := of_decide_eq_false c; omega
    walk_at "rd"
    refine fun D hD => lc_it walk_str (fun j H' => Same H2 H' ∧ H' D = some (.lst (((t3.take j).filter fun c => !dg c).map sgV))) ⟨Same.new hD, upd_same⟩ (fun _ _ _ _ => trivial) ?_ ?_
    · rintro j x H3 H4 hj ⟨s3, hD3⟩ ⟨rfl, c, hc, rfl⟩
      have hc' : t3[j]? = some c := by simpa using hc
      have hcb := hcm c (List.mem_of_getElem? hc')
      walk_at "rd"
      rw [in_digits c (by omega)]
      refine iteB (fun h1 => ?_) (fun h1 => ?_)
      · walk_at "rd"
        refine ⟨_, hD3, szl (by rw [List.length_map]; exact Nat.le_trans (List.length_filter_le _ _) (by rw [List.length_take]; omega)), fun b o e => ?_, ?_⟩
        · rw [upd_ne (ne_of_none e hD)]; exact s3 b o e
        · rw [upd_same, take_snoc hc', List.filter_append, List.filter_cons_of_pos (by simpa using h1), List.map_append]; rfl
      · refine ⟨s3, ?_⟩
        rw [take_snoc hc', List.filter_append, List.filter_cons_of_neg (by simpa using h1), List.filter_nil, List.append_nil]
        exact hD3
    · rintro H3 ⟨s3, hD3⟩
      rw [show (⟨t3.toArray⟩ : Str).cps.size = t3.length from hl3, List.take_length] at hD3
      walk_at "rd"
      refine fun F hF => ?_
      refine ⟨_, _, dp_lst ((Same.new hF) _ _ hD3) (sg_all _), dp_lst upd_same .nil, sg_shaped (fun c hc => (hcm c (List.mem_filter.mp hc).1).2), rfl, ?_⟩
      walk_at "rd"
      rw [eqv_nil]
      have hL3 := (Same.new (o := .lst []) hF) _ _ (s3 _ _ hL1)
      have s4 : Same H (upd H3 F (.lst [])) := (s1.trans s3).trans (Same.new hF)
      refine iteB (fun h1 => ?_) (fun h1 => ?_)
      · have hnd : t3.all dg = false := by
          rw [Bool.eq_false_iff]
          intro g
          have : (t3.filter fun c => !dg c) = [] := List.filter_eq_nil_iff.mpr fun c hc => by simp [List.all_eq_true.mp g c hc]
          rw [this] at h1
          simp at h1
        rw [hbad (by unfold okc; rw [hnd]; simp)] at k
        exact k _ _ s4 .non
      · have hd : t3.all dg = true := by
          rw [List.all_eq_true]
          intro c hc
          have : (t3.filter fun c => !dg c) = [] := by simpa using h1
          simpa using List.filter_eq_nil_iff.mp this c hc
        have hint := int_ck hd (by intro e; rw [e] at c3; cases c3) (by omega)
        walk_at "rd"
        refine ⟨_, _, rfl, hint, by omega, ?_⟩
        walk_at "rd"
        refine iteB (fun h2 => ?_) (fun h2 => ?_)
        · have h2' := of_decide_eq_true h2
          rw [hbad (by unfold okc; rw [decide_eq_false (show ¬ digv t3 ≤ 996 by omega)]; simp)] at k
          exact k _ _ s4 .non
        · have h2' := of_decide_eq_false h2
          walk_at "rd"
          refine ⟨_, _, rfl, hint, by omega, ?_⟩
          refine ⟨_, _, _, rfl, rfl, hL3, szl (by rw [List.length_map, vals_length]; have : nck (tl z) ≤ 30000 := by { unfold nck; omega }; omega), ?_⟩
          refine ⟨_, _, _, rfl, fun b o e => ?_, ?_, ?_⟩
          · rw [upd_ne (ne_of_none e hL)]; exact s4 b o e
          · rw [upd_same, hvs, List.map_append]; rfl
          · rw [hoks]; unfold okc; rw [hd, decide_eq_true c3, decide_eq_true (show digv t3 ≤ 996 by omega)]; rfl
  · rintro σ H1 ⟨v2, v3, v4, rfl, s1, hL1, ho⟩
    rw [told_all ho] at k
    walk_at "rd"
    refine ⟨_, _, rfl, .inl ⟨SqL.of hL1, fun l hl => ?_⟩⟩
    exact k _ _ (s1.trans (Same.new hl)) (tp_ints (SqT.of upd_same))
local macro_rules | `(tactic| walk_at "rd1") => `(tactic| first
  | refine And.intro ⟨_, rfl⟩ ?_
  | refine And.intro ⟨_, by assumption⟩ ?_
  | refine And.intro ⟨_, SqL.of (by assumption)⟩ ?_)
theorem joinL_nil : ∀ l : List (List Nat), joinL [] l = l.flatten
  | [] => rfl
  | [x] => by simp [joinL]
  | x :: y :: r => by
    have := joinL_nil (y :: r)
    simp [joinL, this]
def thr (c : Int) : Str := ⟨(three c).toArray⟩
theorem three_len {c : Int} (h0 : 0 ≤ c) (h1 : c ≤ 996) : (three c).length ≤ 3 := by
  unfold three
  rw [List.length_drop]
  have := numL_len (n := 1000 + c.toNat) (k := 4) (by decide) (by omega)
  omega
theorem thr_sum : ∀ cs : List Int, (∀ c ∈ cs, 0 ≤ c ∧ c ≤ 996) → ((cs.map thr).map fun x => x.length).sum ≤ 3 * cs.length
  | [], _ => by simp
  | c :: r, h => by
    have h1 := three_len (h c (by simp)).1 (h c (by simp)).2
    have h2 := thr_sum r fun c hc => h c (List.mem_cons_of_mem _ hc)
    have h3 : (thr c).length = (three c).length := by show (three c).toArray.size = _; simp
    simp only [List.map_cons, List.sum_cons, List.length_cons]
    omega
theorem flat_len : ∀ cs : List Int, (∀ c ∈ cs, 0 ≤ c ∧ c ≤ 996) → (cs.flatMap three).length ≤ 3 * cs.length
  | [], _ => by simp
  | c :: r, h => by
    have h1 := three_len (h c (by simp)).1 (h c (by simp)).2
    have h2 := flat_len r fun c hc => h c (List.mem_cons_of_mem _ hc)
    rw [List.flatMap_cons, List.length_append, List.length_cons]
    omega
theorem join_thr (cs : List Int) : tl (Txt.join "" (cs.map thr)) = cs.flatMap three := by
  rw [join_eq, tl_join, show tl ("" : Str) = [] from rfl, joinL_nil, List.map_map, ← List.flatMap_def]
  rfl
theorem ok_law_window (T : Txt K mg a d) (G_law_three : FnOk P w K mg base CX0 1 a.law_three d.law_three ["cell"] (sp_law_three K)) : FnOk P w K mg base CX0 2 a.law_window d.law_window ["cells"] (sp_law_window K) := by
  refine T.F_law_window.ok sc_law_window (by walk_at "len") (fun cdv A outer s H vs Q E hr h => ?_)
  obtain ⟨l, cs, rfl, hS, hl, hc, k⟩ := h
  refine ⟨_, (pss_one (ps_ret (pe_op op_add_str (pe_op op_add_str pe_str (pe_join pe_str (pe_lc (own := [("cell", 1)]) rfl sc_law_window.nd (pi_tup (pv 0)) (blkOk_by (N := n_law_window) (sc := defScope s_law_window) (by decide +kernel)) (fun _ _ _ _ _ => (pg_name (i := 1) sc_law_window.nd rfl (Or.inl rfl))) (fun _ _ _ _ _ => pts_nil) (fun _ _ _ _ _ => (pe_call G_law_three (hr.mono (by decide)) (by rfl) T.g_law_three T.k_law_three T.B_law_three .nil pass0 (pa_cons (pv 1) pa_nil)))))) pe_str))), ?_⟩
  walk_at "rd"
  refine fun D hD => lc_it walk_tup (fun i H' => Same H H' ∧ H' D = some (.lst (((cs.take i).map thr).map V.str))) ⟨Same.new hD, upd_same⟩ (fun i H' _ ⟨s1, _⟩ => kt_t (Kt.of s1) hS) ?_ ?_
  · rintro i x H1 H2 hi ⟨s1, hD1⟩ ⟨rfl, hx⟩
    rw [List.length_map] at hi
    have hci : cs[i]? = some cs[i] := List.getElem?_eq_getElem hi
    rw [List.getElem?_map, hci] at hx
    obtain rfl : x = V.int cs[i] := (Option.some.inj hx).symm
    have hb := hc cs[i] (List.mem_of_getElem? hci)
    walk_at "rd"
    refine ⟨_, hD1, szl (by rw [List.length_map, List.length_map, List.length_take]; omega), fun b o e => ?_, ?_⟩
    · rw [upd_ne (ne_of_none e hD)]; exact s1 b o e
    · rw [upd_same, take_snoc hci, List.map_append, List.map_append]; rfl
  rintro H1 ⟨s1, hD1⟩
  rw [List.length_map, List.take_length] at hD1
  have hsum := thr_sum cs hc
  have hj : (Txt.join "" (cs.map thr)).length ≤ 3 * cs.length := by rw [len_tl, join_thr]; exact flat_len cs hc
  have l1 : (Str.ofString "#").length = 1 := rfl
  have l2 : (Str.ofString ";").length = 1 := rfl
  have l3 := len_app (Str.ofString "#") (Txt.join "" (cs.map thr))
  refine ⟨_, _, cs.map thr, rfl, rfl, .inl (SqL.of hD1), ?_, ?_⟩
  · rw [show (Str.ofString "").length = 0 from rfl, Nat.mul_zero]; omega
  walk_at "rd"
  have e : Str.ofString "#" ++ Txt.join "" (cs.map thr) ++ Str.ofString ";" = winS cs := ext_tl (by
    rw [tl_append, tl_append, join_thr]
    show [35] ++ cs.flatMap three ++ [59] = 35 :: (cs.flatMap three ++ [59])
    rfl)
  rw [← e] at k
  exact k H1 s1
theorem ok_law_windows (T : Txt K mg a d) (G_law_told : FnOk P w K mg base CX0 1 a.law_told d.law_told ["digits"] (sp_law_told K)) : FnOk P w K mg base CX0 2 a.law_windows d.law_windows ["text"] (sp_law_windows K) := by
  refine T.F_law_windows.ok sc_law_windows (by walk_at "len") (fun cdv A outer s H vs Q E hr h => ?_)
  obtain ⟨z, rfl, hp, hz, k⟩ := h
  have hz1 : z.length ≤ sizeLine := sz (by omega)
  have hlt := len_tl z
  refine ⟨_, (pss_cons (ps_set (i := 1) sc_law_windows.nd rfl (Or.inl rfl) (pe_lst pa_nil))
      (pss_cons (ps_for PassesOwn.never rfl (pi_range1 (by rfl) T.b_range (pa_cons (pe_op op_sub (pe_callB call_len_str (by rfl) T.b_len (by decide +kernel) (pa_cons (pv 0) pa_nil)) pe_int) pa_nil)) (pg_name (i := 2) sc_law_windows.nd rfl (Or.inl rfl))
      (pss_one (ps_if (PW.pt (pw_and (pt_cmpR op_eq (pe_ix ix_str (pv 0) (pv 2) (fun _ _ => rfl)) pe_str (nomark _)) (pw_and1 (pt_cmpR op_eq (pe_ix ix_str (pv 0) (pe_op op_add (pv 2) pe_int) (fun _ _ => rfl)) pe_str (nomark _))))) (pss_cons (ps_set (i := 3) sc_law_windows.nd rfl (Or.inl rfl) (pe_call G_law_told (hr.mono (by decide)) (by rfl) T.g_law_told T.k_law_told T.B_law_told .nil pass0 (pa_cons (pe_slice sl_str (pv 0) (po_some (pe_op op_add (pv 2) pe_int)) (po_some (pe_op op_add (pv 2) pe_int))) pa_nil)))
      (pss_one (ps_if (pt_cmpR op_notN (pv 3) pe_non (nomark _)) (pss_one (ps_expr (pe_bm PySem.F.plainAttrs_list PySem.F.slot_list_append PySem.F.type_list_append mt_append (pv 1) (pa_cons (pe_tup (pa_cons (pv 2) (pa_cons (pv 3) pa_nil))) pa_nil)))) pss_nil))) pss_nil)))
      (pss_one (ps_ret (pv 1))))), ?_⟩
  walk_at "rd"
  refine fun L hL => ?_
  walk_at "rd"
  refine for_it walk_range (fun i σ H' => ∃ (v2 v3 : Option V) (xs : List V), σ = [some (.str z), some (.ref L), v2, v3] ∧ Same H H' ∧ H' L = some (.lst xs) ∧ TpAll K H' xs ((wl (tl z) 0 i).map encW)) ⟨none, none, [], rfl, Same.new hL, upd_same, .nil⟩ (fun _ _ _ _ _ => trivial) ?_ ?_
  · rintro i x σ H1 H2 hi ⟨v2, v3, xs, rfl, s1, hL1, t1⟩ ⟨rfl, rfl⟩
    obtain ⟨c1, hc1⟩ : ∃ c, (tl z)[i]? = some c := ⟨_, List.getElem?_eq_getElem (by omega)⟩
    obtain ⟨c2, hc2⟩ : ∃ c, (tl z)[i + 121]? = some c := ⟨_, List.getElem?_eq_getElem (by omega)⟩
    have no : ¬ ((tl z)[i]? = some 35 ∧ (tl z)[i + 121]? = some 59) → winAt (tl z) i = none := fun g => by unfold winAt; rw [if_neg g]
    have keep : winAt (tl z) i = none → TpAll K H2 xs ((wl (tl z) 0 (i + 1)).map encW) := fun g => by
      rw [wl_succ (by omega)]
      unfold wf
      rw [g]
      simpa using t1
    have hl1 : xs.length ≤ 60000 := by rw [t1.length, List.length_map]; exact Nat.le_trans wl_length (by omega)
    walk_at "rd"
    refine ⟨_, (i : Int), c1, rfl, by show V.int ((0 : Int) + i) = V.int i; rw [Int.zero_add], hz1, atI_nat hc1, ?_⟩
    walk_at "rd"
    refine iteB (fun h1 => ?_) (fun h1 => ?_)
    rotate_left
    · refine ⟨_, _, xs, rfl, s1, hL1, keep (no ?_)⟩
      rintro ⟨g, _⟩
      rw [hc1] at g
      rw [(sgn (s := "#") (k := 35) rfl).mpr (Option.some.inj g)] at h1
      simp at h1
    have g1 : c1 = 35 := (sgn (s := "#") (k := 35) rfl).mp (by simpa using h1)
    walk_at "rd"
    refine ⟨_, ((i + 121 : Nat) : Int), c2, rfl, by show V.int ((0 : Int) + i + 121) = _; congr 1; omega, hz1, atI_nat hc2, ?_⟩
    walk_at "rd"
    refine iteB (fun h2 => ?_) (fun h2 => ?_)
    rotate_left
    · refine ⟨_, _, xs, rfl, s1, hL1, keep (no ?_)⟩
      rintro ⟨_, g⟩
      rw [hc2] at g
      rw [(sgn (s := ";") (k := 59) rfl).mpr (Option.some.inj g)] at h2
      simp at h2
    have g2 : c2 = 59 := (sgn (s := ";") (k := 59) rfl).mp (by simpa using h2)
    walk_at "rd"
    have ec : tl (cutS z (some ((0 : Int) + i + 1)) (some ((0 : Int) + i + 121))) = ((tl z).drop (i + 1)).take 120 := by
      rw [show ((0 : Int) + i + 1) = ((i + 1 : Nat) : Int) by omega, show ((0 : Int) + i + 121) = ((i + 121 : Nat) : Int) by omega, cut_nat, show i + 121 - (i + 1) = 120 by omega]
    have ew0 : winAt (tl z) i = toldL (((tl z).drop (i + 1)).take 120) := by
      unfold winAt
      rw [if_pos ⟨by rw [hc1, g1], by rw [hc2, g2]⟩]
    refine ⟨pr_cut hp _ _, Nat.le_trans (cutS_length _ _ _) hz, fun v H3 s2 t2 => ?_⟩
    rw [ec, ← ew0] at t2
    have hL2 := s2 _ _ hL1
    have t1' := t1.keep (Kt.of s2)
    cases ew : winAt (tl z) i with
    | none =>
      rw [ew] at t2
      cases t2
      walk_at "rd"
      exact ⟨_, _, xs, rfl, s1.trans s2, hL2, (keep ew).keep (Kt.of s2)⟩
    | some c =>
      rw [ew] at t2
      have t2' : Tp K H3 v (encT c) := t2
      cases t2 with
      | @tup aa ys ds hs ha =>
      walk_at "rd"
      refine fun T2 hT => ?_
      rw [show (fun i : Nat => V.int ((0 : Int) + (i : Int))) i = V.int (i : Int) by show V.int ((0 : Int) + i) = _; rw [Int.zero_add]]
      have nLT : L ≠ T2 := ne_of_none hL2 hT
      refine ⟨_, _, _, rfl, rfl, (upd_ne nLT).trans hL2, szl (by omega), ?_⟩
      have s3 : Same H (upd (upd H3 T2 (.tup [.int i, .ref aa])) L (.lst (xs ++ [.ref T2]))) := fun q o g => by
        rw [upd_ne (ne_of_none g hL), upd_ne (ne_of_none ((s1.trans s2) q o g) hT)]
        exact (s1.trans s2) q o g
      refine ⟨_, _, _, rfl, s3, upd_same, ?_⟩
      rw [wl_succ (by omega)]
      unfold wf
      rw [ew, List.map_append]
      have kk : Kt H3 (upd (upd H3 T2 (.tup [.int i, .ref aa])) L (.lst (xs ++ [.ref T2]))) := (Kt.of (Same.new hT)).trans (Kt.lst (.inr ⟨xs, (upd_ne nLT).trans hL2⟩))
      refine (t1'.keep kk).snoc (.tup (SqT.of ((upd_ne nLT.symm).trans upd_same)) (.cons (.int _) (.cons (t2'.keep kk) .nil)))
  rintro σ H1 ⟨v2, v3, xs, rfl, s1, hL1, t1⟩
  walk_at "rd"
  have hn : ((z.length : Int) - 121).toNat = z.length - 121 := by omega
  rw [hn] at t1
  exact k L xs H1 s1 hL hL1 t1
theorem Dr.refl {t : Addr} {H : Hp} (h : Tray H t) : Dr t H H := ⟨But.refl t H, h, Kt.refl H⟩
theorem Dr.trans {t : Addr} {H H1 H2 : Hp} (a : Dr t H H1) (b : Dr t H1 H2) : Dr t H H2 := ⟨a.1.trans b.1, b.2.1, a.2.2.trans b.2.2⟩
theorem Dr.same {t : Addr} {H H1 : Hp} (h : Tray H t) (s : Same H H1) : Dr t H H1 := ⟨But.of s, h.same s, Kt.of s⟩
theorem Dr.new {t p : Addr} {H : Hp} {o : HO} (h : Tray H t) (hp : H p = none) : Dr t H (upd H p o) := Dr.same h (Same.new hp)
def sp_law_cells (K : PySem.W.Frag) : Sp := fun vs H Q _ => ∃ t : Addr, vs = [.ref t] ∧ Tray H t ∧ ∀ (p : Addr) (cs : List Int) (H' : Hp), Dr t H H' → SqT K H' p (cs.map V.int) → cs.length = 40 → (∀ c ∈ cs, 0 ≤ c ∧ c ≤ 996) → Q (.ref p) H'
def sp_law_bit (K : PySem.W.Frag) : Sp := fun vs H Q _ => ∃ t : Addr, vs = [.ref t] ∧ Tray H t ∧ ∀ (z : Str) (H' : Hp), pr z → z.length ≤ 300 → Dr t H H' → Q (.str z) H'
def sp_law_drawn (K : PySem.W.Frag) : Sp := fun vs H Q _ => ∃ (t : Addr) (m : Int), vs = [.ref t, .int m] ∧ Tray H t ∧ 0 ≤ m ∧ m ≤ 10 ∧ ∀ (z : Str) (H' : Hp), pr z → z.length ≤ 3000 → Dr t H H' → Q (.str z) H'
theorem Dr.mut {t L : Addr} {H H1 : Hp} {xs ys : List V} (d : Dr t H H1) (hf : ∀ b o, b ≠ t → H b = some o → b ≠ L) (hLt : L ≠ t) (hL : H1 L = some (.lst xs)) : Dr t H (upd H1 L (.lst ys)) := by
  obtain ⟨b1, ⟨x, y, z, h1⟩, k1⟩ := d
  refine ⟨fun b o n e => ?_, ⟨x, y, z, ?_⟩, k1.trans (Kt.lst (.inr ⟨_, hL⟩))⟩
  · rw [upd_ne (hf b o n e)]; exact b1 b o n e
  · rw [upd_ne hLt.symm]; exact h1
theorem Dr.fresh {t L : Addr} {H H1 : Hp} (d : Dr t H H1) (hL : H1 L = none) : ∀ b o, b ≠ t → H b = some o → b ≠ L := fun b o n e => ne_of_none (d.1 b o n e) hL
theorem Tray.ne {t L : Addr} {H : Hp} (h : Tray H t) (hL : H L = none) : L ≠ t := by
  obtain ⟨x, y, z, h⟩ := h
  exact (ne_of_none h hL).symm
theorem ok_law_cells (T : Txt K mg a d) (G_law_pluck : FnOk P w K mg base CX0 1 a.law_pluck d.law_pluck ["tray", "total"] (sp_law_pluck K)) (G_law_some : FnOk P w K mg base CX0 2 a.law_some d.law_some ["tray", "items"] (sp_law_some K)) : FnOk P w K mg base CX0 3 a.law_cells d.law_cells ["tray"] (sp_law_cells K) := by
  refine T.F_law_cells.ok sc_law_cells (by walk_at "len") (fun cdv A outer s H vs Q E hr h => ?_)
  obtain ⟨t, rfl, hT, k⟩ := h
  refine ⟨_, (pss_cons (ps_par (i := 1) (j := 2) (by rfl) sc_law_cells.nd rfl rfl (by decide) rfl rfl (pa_cons (pe_call G_law_pluck (hr.mono (by decide)) (by rfl) T.g_law_pluck T.k_law_pluck T.B_law_pluck .nil pass0 (pa_cons (pv 0) (pa_cons pe_int pa_nil))) (pa_cons (pe_lst pa_nil) pa_nil)) (by rfl))
      (pss_cons (ps_for PassesOwn.never rfl (pi_range1 (by rfl) T.b_range (pa_cons pe_int pa_nil)) (pg_name (i := 3) sc_law_cells.nd rfl (Or.inl rfl))
      (pss_one (ps_expr (pe_bm PySem.F.plainAttrs_list PySem.F.slot_list_append PySem.F.type_list_append mt_append (pv 2) (pa_cons (pe_ifExp (pt_cmpR op_eq (pv 1) pe_int (nomark _)) (pe_call G_law_pluck (hr.mono (by decide)) (by rfl) T.g_law_pluck T.k_law_pluck T.B_law_pluck .nil pass0 (pa_cons (pv 0) (pa_cons pe_int pa_nil))) (pe_call G_law_some (hr.mono (by decide)) (by rfl) T.g_law_some T.k_law_some T.B_law_some .nil pass0 (pa_cons (pv 0) (pa_cons (pe_lst (pa_cons pe_int (pa_cons pe_int (pa_cons pe_int (pa_cons pe_int pa_nil))))) pa_nil)))) pa_nil)))))
      (pss_one (ps_ret (pe_callTy call_tuple_of (by rfl) T.b_tuple (by decide +kernel) (pa_cons (pv 2) pa_nil)))))), ?_⟩
  walk_at "rd"
  rintro r H1 h0 h1 d1
  walk_at "rd"
  refine fun L hL => ?_
  have hLt := d1.2.1.ne hL
  have hfr := d1.fresh hL
  walk_at "rd"
  refine for_it walk_range (fun i σ H' => ∃ (v3 : Option V) (cs : List Int), σ = [some (.ref t), some (.int r), some (.ref L), v3] ∧ Dr t H H' ∧ H' L = some (.lst (cs.map V.int)) ∧ cs.length = i ∧ ∀ c ∈ cs, 0 ≤ c ∧ c ≤ 996)
    ⟨none, [], rfl, d1.trans (Dr.new d1.2.1 hL), upd_same, rfl, fun _ h => nomatch h⟩ (fun _ _ _ _ _ => trivial) ?_ ?_
  · rintro i x σ H2 H3 hi ⟨v3, cs, rfl, d2, hL2, hlen, hb⟩ ⟨rfl, rfl⟩
    have hi' : i < 40 := hi
    have hT2 := d2.2.1
    have fin : ∀ (c : Int) (H4 : Hp), Dr t H3 H4 → 0 ≤ c → c ≤ 996 → ∃ (v3 : Option V) (cs' : List Int), [some (V.ref t), some (.int r), some (.ref L), some (.int (0 + (i : Int)))] = [some (V.ref t), some (.int r), some (.ref L), v3] ∧ Dr t H (upd H4 L (.lst (cs.map V.int ++ [.int c]))) ∧
        (upd H4 L (.lst (cs.map V.int ++ [.int c]))) L = some (.lst (cs'.map V.int)) ∧ cs'.length = i + 1 ∧ ∀ c ∈ cs', 0 ≤ c ∧ c ≤ 996 := fun c H4 d4 c0 c1 => by
      refine ⟨_, cs ++ [c], rfl, Dr.mut (d2.trans d4) hfr hLt (d4.1 _ _ hLt hL2), by rw [upd_same, List.map_append]; rfl, by rw [List.length_append, hlen]; rfl, fun y hy => ?_⟩
      rcases List.mem_append.mp hy with q | q
      · exact hb y q
      · obtain rfl : y = c := by simpa using q
        exact ⟨c0, c1⟩
    walk_at "rd"
    refine iteB (fun c => ?_) (fun c => ?_)
    · walk_at "rd"
      rintro y H4 y0 y1 d4
      walk_at "rd"
      refine ⟨_, _, _, rfl, rfl, d4.1 _ _ hLt hL2, szl (by rw [List.length_map, hlen]; omega), ?_⟩
      exact fin y H4 d4 y0 (by omega)
    · walk_at "rd"
      refine fun M hM => ?_
      have hMt := hT2.ne hM
      have dM : Dr t H3 (upd H3 M (.lst [.int 0, .int 7, .int 996, .int 99])) := Dr.new hT2 hM
      refine ⟨t, M, _, rfl, dM.2.1, hMt, upd_same, by simp, by decide, fun y H4 hy d4 => ?_⟩
      obtain ⟨c, rfl, c0, c1⟩ : ∃ c : Int, y = .int c ∧ 0 ≤ c ∧ c ≤ 996 := by
        simp only [List.mem_cons, List.not_mem_nil, or_false] at hy
        rcases hy with rfl | rfl | rfl | rfl
        · exact ⟨0, rfl, by decide, by decide⟩
        · exact ⟨7, rfl, by decide, by decide⟩
        · exact ⟨996, rfl, by decide, by decide⟩
        · exact ⟨99, rfl, by decide, by decide⟩
      walk_at "rd"
      refine ⟨_, _, _, rfl, rfl, (dM.trans d4).1 _ _ hLt hL2, szl (by rw [List.length_map, hlen]; omega), ?_⟩
      exact fin c H4 (dM.trans d4) c0 c1
  · rintro σ H2 ⟨v3, cs, rfl, d2, hL2, hlen, hb⟩
    walk_at "rd"
    refine ⟨_, _, rfl, .inl ⟨SqL.of hL2, fun p hp => ?_⟩⟩
    exact k p cs _ (d2.trans (Dr.new d2.2.1 hp)) (SqT.of upd_same) hlen hb
def okS (v : V) : Bool := match v with
  | .str z => (tl z).all (fun c => decide (32 ≤ c) && decide (c ≤ 126)) && decide (z.length ≤ 10)
  | _ => false
theorem okS_all {xs : List V} (h : xs.all okS = true) {v : V} (hv : v ∈ xs) : ∃ z : Str, v = .str z ∧ pr z ∧ z.length ≤ 10 := by
  have g := List.all_eq_true.mp h v hv
  cases v with
  | str z =>
    simp only [okS, Bool.and_eq_true, List.all_eq_true, decide_eq_true_eq] at g
    exact ⟨z, rfl, g.1, g.2⟩
  | _ => simp [okS] at g
theorem pr_win {cs : List Int} : pr (winS cs) := fun c hc => by
  have hc' : c ∈ 35 :: (cs.flatMap three ++ [59]) := hc
  rcases List.mem_cons.mp hc' with rfl | q
  · decide
  · rcases List.mem_append.mp q with q | q
    · obtain ⟨i, _, q⟩ := List.mem_flatMap.mp q
      have := numL_digits (1000 + i.toNat) c (List.mem_of_mem_drop q)
      omega
    · obtain rfl : c = 59 := by simpa using q
      decide
theorem len_win {cs : List Int} (h : ∀ c ∈ cs, 0 ≤ c ∧ c ≤ 996) : (winS cs).length ≤ 3 * cs.length + 2 := by
  have := flat_len cs h
  rw [len_tl]
  show (35 :: (cs.flatMap three ++ [59])).length ≤ _
  rw [List.length_cons, List.length_append, List.length_cons, List.length_nil]
  omega
theorem ok_law_bit (T : Txt K mg a d) (G_law_cells : FnOk P w K mg base CX0 3 a.law_cells d.law_cells ["tray"] (sp_law_cells K)) (G_law_pluck : FnOk P w K mg base CX0 1 a.law_pluck d.law_pluck ["tray", "total"] (sp_law_pluck K)) (G_law_some : FnOk P w K mg base CX0 2 a.law_some d.law_some ["tray", "items"] (sp_law_some K)) (G_law_window : FnOk P w K mg base CX0 2 a.law_window d.law_window ["cells"] (sp_law_window K)) : FnOk P w K mg base CX0 4 a.law_bit d.law_bit ["tray"] (sp_law_bit K) := by
  refine T.F_law_bit.ok sc_law_bit (by walk_at "len") (fun cdv A outer s H vs Q E hr h => ?_)
  obtain ⟨t, rfl, hT, k⟩ := h
  refine ⟨_, (pss_cons (ps_par (i := 1) (j := 2) (by rfl) sc_law_bit.nd rfl rfl (by decide) rfl rfl (pa_cons (pe_call G_law_window (hr.mono (by decide)) (by rfl) T.g_law_window T.k_law_window T.B_law_window .nil pass0 (pa_cons (pe_call G_law_cells (hr.mono (by decide)) (by rfl) T.g_law_cells T.k_law_cells T.B_law_cells .nil pass0 (pa_cons (pv 0) pa_nil)) pa_nil)) (pa_cons (pe_call G_law_pluck (hr.mono (by decide)) (by rfl) T.g_law_pluck T.k_law_pluck T.B_law_pluck .nil pass0 (pa_cons (pv 0) (pa_cons pe_int pa_nil))) pa_nil)) (by rfl))
      (pss_cons (ps_if (pt_cmpR op_lt (pv 2) pe_int (nomark _)) (pss_one (ps_ret (pv 1))) pss_nil)
      (pss_cons (ps_set (i := 3) sc_law_bit.nd rfl (Or.inl rfl) (pe_call G_law_pluck (hr.mono (by decide)) (by rfl) T.g_law_pluck T.k_law_pluck T.B_law_pluck .nil pass0 (pa_cons (pv 0) (pa_cons pe_int pa_nil))))
      (pss_cons (ps_if (pt_cmpR op_eq (pv 2) pe_int (nomark _)) (pss_one (ps_ret (pe_slice sl_str (pv 1) po_none (po_some (pv 3))))) pss_nil)
      (pss_cons (ps_if (pt_cmpR op_eq (pv 2) pe_int (nomark _)) (pss_one (ps_ret (pe_slice sl_str (pv 1) (po_some (pv 3)) po_none))) pss_nil)
      (pss_cons (ps_if (pt_cmpR op_eq (pv 2) pe_int (nomark _)) (pss_one (ps_ret (pe_op op_add_str (pe_op op_add_str (pe_slice sl_str (pv 1) po_none (po_some (pv 3))) (pe_call G_law_some (hr.mono (by decide)) (by rfl) T.g_law_some T.k_law_some T.B_law_some .nil pass0 (pa_cons (pv 0) (pa_cons (pe_lst (pa_cons pe_str (pa_cons pe_str (pa_cons pe_str (pa_cons pe_str (pa_cons pe_str (pa_cons pe_str pa_nil))))))) pa_nil)))) (pe_slice sl_str (pv 1) (po_some (pe_op op_add (pv 3) pe_int)) po_none)))) pss_nil)
      (pss_cons (ps_if (pt_cmpR op_eq (pv 2) pe_int (nomark _)) (pss_one (ps_ret (pe_op op_add_str (pe_op op_add_str (pe_slice sl_str (pv 1) po_none (po_some (pv 3))) (pe_call G_law_some (hr.mono (by decide)) (by rfl) T.g_law_some T.k_law_some T.B_law_some .nil pass0 (pa_cons (pv 0) (pa_cons (pe_lst (pa_cons pe_str (pa_cons pe_str (pa_cons pe_str (pa_cons pe_str pa_nil))))) pa_nil)))) (pe_slice sl_str (pv 1) (po_some (pv 3)) po_none)))) pss_nil)
      (pss_one (ps_ret (pe_call G_law_some (hr.mono (by decide)) (by rfl) T.g_law_some T.k_law_some T.B_law_some .nil pass0 (pa_cons (pv 0) (pa_cons (pe_lst (pa_cons pe_str (pa_cons pe_str (pa_cons pe_str (pa_cons pe_str (pa_cons pe_str (pa_cons pe_str (pa_cons pe_str (pa_cons pe_str pa_nil))))))))) pa_nil)))))))))))), ?_⟩
  walk_at "rd"
  rintro p cs H1 d1 hcs hl hb
  refine ⟨p, cs, rfl, hcs, by omega, hb, fun H2 s2 => ?_⟩
  have hW : pr (winS cs) := pr_win
  have hWl := len_win hb
  have d2 := d1.trans (Dr.same d1.2.1 s2)
  generalize winS cs = W at hW hWl
  have hWs : W.length ≤ sizeLine := sz (by omega)
  have hT2 := d2.2.1
  have hcut : ∀ lo hi, (cutS W lo hi).length ≤ W.length := fun lo hi => cutS_length W lo hi
  walk_at "rd"
  rintro r H3 r0 r1 d3
  have d4 := d2.trans d3
  have hT4 := d4.2.1
  walk_at "rd"
  refine iteB (fun c => ?_) (fun c => ?_)
  · walk_at "rd"
    exact k W H3 hW (by omega) d4
  walk_at "rd"
  rintro q H4 q0 q1 d5
  have d6 := d4.trans d5
  have hT6 := d6.2.1
  walk_at "rd"
  refine iteB (fun c => ?_) (fun c => ?_)
  · walk_at "rd"
    exact k _ H4 (pr_cut hW _ _) (by have := hcut none (some q); omega) d6
  walk_at "rd"
  refine iteB (fun c => ?_) (fun c => ?_)
  · walk_at "rd"
    exact k _ H4 (pr_cut hW _ _) (by have := hcut (some q) none; omega) d6
  walk_at "rd"
  refine iteB (fun c => ?_) (fun c => ?_)
  · walk_at "rd"
    refine fun M hM => ?_
    have dM := Dr.new (o := .lst [.str "#", .str ";", .str "9", .str " ", .str "x", .str ""]) hT6 hM
    refine ⟨t, M, _, rfl, dM.2.1, hT6.ne hM, upd_same, by simp, by decide, fun y H5 hy d7 => ?_⟩
    obtain ⟨y, rfl, hy1, hy2⟩ := okS_all (by decide +kernel) hy
    have h1 := hcut none (some q)
    have h2 := hcut (some (q + 1)) none
    have h3 := len_app (cutS W none (some q)) y
    have h4 := len_app (cutS W none (some q) ++ y) (cutS W (some (q + 1)) none)
    walk_at "rd"
    exact k _ H5 (pr_app (pr_app (pr_cut hW _ _) hy1) (pr_cut hW _ _)) (by omega) (d6.trans (dM.trans d7))
  walk_at "rd"
  refine iteB (fun c => ?_) (fun c => ?_)
  · walk_at "rd"
    refine fun M hM => ?_
    have dM := Dr.new (o := .lst [.str "0", .str "#", .str ";", .str "997"]) hT6 hM
    refine ⟨t, M, _, rfl, dM.2.1, hT6.ne hM, upd_same, by simp, by decide, fun y H5 hy d7 => ?_⟩
    obtain ⟨y, rfl, hy1, hy2⟩ := okS_all (by decide +kernel) hy
    have h1 := hcut none (some q)
    have h2 := hcut (some q) none
    have h3 := len_app (cutS W none (some q)) y
    have h4 := len_app (cutS W none (some q) ++ y) (cutS W (some q) none)
    walk_at "rd"
    exact k _ H5 (pr_app (pr_app (pr_cut hW _ _) hy1) (pr_cut hW _ _)) (by omega) (d6.trans (dM.trans d7))
  walk_at "rd"
  refine fun M hM => ?_
  have dM := Dr.new (o := .lst [.str "", .str "#", .str ";", .str "12", .str "#;", .str "~ ", .str "#007", .str "997;"]) hT6 hM
  refine ⟨t, M, _, rfl, dM.2.1, hT6.ne hM, upd_same, by simp, by decide, fun y H5 hy d7 => ?_⟩
  obtain ⟨y, rfl, hy1, hy2⟩ := okS_all (by decide +kernel) hy
  exact k _ H5 hy1 (by omega) (d6.trans (dM.trans d7))
local macro_rules | `(tactic| walk_at "rd1") => `(tactic| first
  | refine And.intro ⟨_, rfl⟩ ?_
  | refine And.intro ⟨_, by assumption⟩ ?_
  | refine And.intro ⟨_, SqL.of (by assumption)⟩ ?_)
theorem pr_join {ys : List Str} (h : ∀ y ∈ ys, pr y) : pr (Txt.join "" ys) := fun c hc => by
  rw [join_eq, tl_join, show tl ("" : Str) = [] from rfl, joinL_nil] at hc
  obtain ⟨l, hl, hcl⟩ := List.mem_flatten.mp hc
  obtain ⟨y, hy, rfl⟩ := List.mem_map.mp hl
  exact h y hy c hcl
theorem len_join {n : Nat} : ∀ {ys : List Str}, (∀ y ∈ ys, y.length ≤ n) → (Txt.join "" ys).length ≤ n * ys.length ∧ (ys.map fun x => x.length).sum ≤ n * ys.length := fun {ys} h => by
  rw [len_tl, join_eq, tl_join, show tl ("" : Str) = [] from rfl, joinL_nil]
  induction ys with
  | nil => simp
  | cons y r ih =>
    have h1 := h y (by simp)
    have h2 := ih fun y hy => h y (List.mem_cons_of_mem _ hy)
    have h3 := len_tl y
    rw [List.map_cons, List.flatten_cons, List.length_append, List.map_cons, List.sum_cons, List.length_cons, Nat.mul_add, Nat.mul_one]
    omega
theorem ok_law_drawn (T : Txt K mg a d) (G_law_bit : FnOk P w K mg base CX0 4 a.law_bit d.law_bit ["tray"] (sp_law_bit K)) (G_law_pluck : FnOk P w K mg base CX0 1 a.law_pluck d.law_pluck ["tray", "total"] (sp_law_pluck K)) : FnOk P w K mg base CX0 5 a.law_drawn d.law_drawn ["tray", "many"] (sp_law_drawn K) := by
  refine T.F_law_drawn.ok sc_law_drawn (by walk_at "len") (fun cdv A outer s H vs Q E hr h => ?_)
  obtain ⟨t, m, rfl, hT, hm0, hm1, k⟩ := h
  refine ⟨_, (pss_one (ps_ret (pe_join pe_str (pe_lc (own := [("turn", 2)]) rfl sc_law_drawn.nd (pi_range1 (by rfl) T.b_range (pa_cons (pe_call G_law_pluck (hr.mono (by decide)) (by rfl) T.g_law_pluck T.k_law_pluck T.B_law_pluck .nil pass0 (pa_cons (pv 0) (pa_cons (pe_op op_add (pv 1) pe_int) pa_nil))) pa_nil)) (blkOk_by (N := n_law_drawn) (sc := defScope s_law_drawn) (by decide +kernel)) (fun _ _ _ _ _ => (pg_name (i := 2) sc_law_drawn.nd rfl (Or.inl rfl))) (fun _ _ _ _ _ => pts_nil) (fun _ _ _ _ _ => (pe_call G_law_bit (hr.mono (by decide)) (by rfl) T.g_law_bit T.k_law_bit T.B_law_bit .nil pass0 (pa_cons (pv 0) pa_nil))))))), ?_⟩
  walk_at "rd"
  rintro r H1 r0 r1 d1
  have hb : -2 ^ 62 ≤ r ∧ r < 2 ^ 62 := by omega
  have hT1 := d1.2.1
  walk_at "rd"
  refine fun D hD => ?_
  have hDt := hT1.ne hD
  have hfr := d1.fresh hD
  refine lc_it walk_range (fun i H' => ∃ ys : List Str, Dr t H H' ∧ H' D = some (.lst (ys.map V.str)) ∧ ys.length = i ∧ ∀ y ∈ ys, pr y ∧ y.length ≤ 300) ⟨[], d1.trans (Dr.new hT1 hD), upd_same, rfl, fun _ h => nomatch h⟩ (fun _ _ _ _ => trivial) ?_ ?_
  · rintro i x H2 H3 hi ⟨ys, d2, hD2, hlen, hy⟩ ⟨rfl, rfl⟩
    have hi' : i < r.toNat := hi
    have hT2 := d2.2.1
    walk_at "rd"
    refine fun z H4 hz hzl d4 => ?_
    have d5 := d2.trans d4
    refine ⟨_, d4.1 _ _ hDt hD2, szl (by rw [List.length_map, hlen]; omega), ys ++ [z], Dr.mut d5 hfr hDt (d4.1 _ _ hDt hD2), by rw [upd_same, List.map_append]; rfl, by rw [List.length_append, hlen]; rfl, fun y h => ?_⟩
    rcases List.mem_append.mp h with q | q
    · exact hy y q
    · obtain rfl : y = z := by simpa using q
      exact ⟨hz, hzl⟩
  · rintro H2 ⟨ys, d2, hD2, hlen, hy⟩
    obtain ⟨j1, j2⟩ := len_join (n := 300) fun y h => (hy y h).2
    have hr : ys.length ≤ 10 := by rw [hlen]; omega
    refine ⟨_, _, ys, rfl, rfl, .inl (SqL.of hD2), ?_, ?_⟩
    · rw [show (Str.ofString "").length = 0 from rfl, Nat.mul_zero]; omega
    · exact k _ H2 (pr_join fun y h => (hy y h).1) (by omega) d2
local macro_rules | `(tactic| walk_at "rd1") => `(tactic| first
  | refine And.intro ⟨_, rfl⟩ ?_
  | refine And.intro ⟨_, by assumption⟩ ?_
  | refine And.intro ⟨_, SqL.of (by assumption)⟩ ?_)
def sp_law_joint_right (K : PySem.W.Frag) : Sp := fun vs H Q _ => ∃ x y : Str, vs = [.str x, .str y] ∧ pr x ∧ pr y ∧ x.length + y.length ≤ 20000 ∧ ∀ H', Same H H' → Q (.bl true) H'
def sp_law_are_apart (K : PySem.W.Frag) : Sp := fun vs H Q _ => ∃ x : Str, vs = [.str x] ∧ pr x ∧ x.length ≤ 20000 ∧ ∀ H', Same H H' → Q (.bl true) H'
theorem win_item {K : PySem.W.Frag} {H : Hp} {ys : List V} {ws : List (Nat × List Int)} {i : Nat} {x : V} (ha : TpAll K H ys (ws.map encW)) (hx : ys[i]? = some x) :
    ∃ (w : Nat × List Int) (T c : Addr), ws[i]? = some w ∧ x = .ref T ∧ SqT K H T [.int w.1, .ref c] ∧ SqT K H c (w.2.map V.int) := by
  obtain ⟨d, hd, ht⟩ := ha.get hx
  rw [List.getElem?_map] at hd
  cases hw : ws[i]? with
  | none => rw [hw] at hd; cases hd
  | some w =>
    rw [hw] at hd
    obtain rfl : encW w = d := Option.some.inj hd
    cases ht with
    | tup h t =>
      cases t with
      | cons h1 t1 =>
        cases h1
        cases t1 with
        | cons h2 t2 =>
          cases t2
          cases h2 with
          | tup h3 t3 =>
            rw [t3.ints_of] at h3
            exact ⟨w, _, _, rfl, rfl, h, h3⟩
theorem tp_w {K : PySem.W.Frag} {H : Hp} {c : Addr} {w : Nat × List Int} (h : SqT K H c (w.2.map V.int)) : TpAll K H [.int w.1, .ref c] [.int w.1, encT w.2] := .cons (.int _) (.cons (tp_ints h) .nil)
theorem cutV_tail (xs : List V) : cutV xs (some 1) none = xs.drop 1 := by
  unfold cutV
  rw [show (1 : Int) = ((1 : Nat) : Int) from rfl, HT.sIx_nat, HT.sIx_none]
  by_cases h : 1 ≤ xs.length
  · rw [Nat.min_eq_left h, List.take_of_length_le (by rw [List.length_drop]; omega)]
  · have : xs = [] := List.eq_nil_of_length_eq_zero (by omega)
    subst this
    rfl
theorem ok_law_are_apart (T : Txt K mg a d) (G_windows : FnOk P w K mg base CX0 4 a.windows d.windows ["text"] (sp_windows K)) : FnOk P w K mg base CX0 5 a.law_are_apart d.law_are_apart ["text"] (sp_law_are_apart K) := by
  refine T.F_law_are_apart.ok sc_law_are_apart (by walk_at "len") (fun cdv A outer s H vs Q E hr h => ?_)
  obtain ⟨x, rfl, hx, hl, k⟩ := h
  have hx1 : x.length ≤ 60000 := by omega
  refine ⟨_, (pss_cons (ps_setLc (i := 1) (own := [("place", 2), ("cells", 3)]) (g := gTup K 2 (gCons (gName 2) (gCons (gName 3) gNil))) rfl sc_law_are_apart.nd rfl rfl (sw_true rfl rfl rfl (by decide +kernel)) (pi_tup (pe_call G_windows (hr.mono (by decide)) (by rfl) T.g_windows T.k_windows T.B_windows .nil pass0 (pa_cons (pv 0) pa_nil))) (blkOk_by (N := n_law_are_apart) (sc := defScope s_law_are_apart) (by decide +kernel)) (fun _ _ _ _ _ => (pg_tup rfl (pgs_cons (pg_name (i := 2) sc_law_are_apart.nd rfl (Or.inl rfl) (.inr rfl)) (pgs_cons (pg_name (i := 3) sc_law_are_apart.nd rfl (Or.inl rfl) (.inr rfl)) pgs_nil)))) (fun _ _ _ _ _ => pts_nil) (fun _ _ _ _ _ => (pv 2)))
      (pss_one (ps_ret (pe_cmpR (op_eqD hr.units) (pe_lc (own := [("one", 4), ("other", 5)]) (g := gTup K 2 (gCons (gName 4) (gCons (gName 5) gNil))) rfl sc_law_are_apart.nd (pi_zip (by rfl) T.b_zip (pa_cons (pv 1) (pa_cons (pe_slice sl_list (pv 1) (po_some pe_int) po_none) pa_nil))) (blkOk_by (N := n_law_are_apart) (sc := defScope s_law_are_apart) (by decide +kernel)) (fun _ _ _ _ _ => (pg_tup rfl (pgs_cons (pg_name (i := 4) sc_law_are_apart.nd rfl (Or.inl rfl) (.inr rfl)) (pgs_cons (pg_name (i := 5) sc_law_are_apart.nd rfl (Or.inl rfl) (.inr rfl)) pgs_nil)))) (fun _ _ _ _ _ => (pts_one (pt_cmpR op_lt (pe_op op_sub (pv 5) (pv 4)) pe_int (nomark _)))) (fun _ _ _ _ _ => pe_int)) (pe_lst pa_nil) (nomark _))))), ?_⟩
  walk_at "rd"
  intro v H1 s1 t1
  have hap := wl_apart (s := tl x) (b := 0) (x.length - 121)
  have hwl := wl_length (s := tl x) (b := 0) (e := x.length - 121)
  generalize wl (tl x) 0 (x.length - 121) = ws at t1 hap hwl
  cases t1 with
  | @tup W ys ds hS ha =>
  have hyl := ha.length
  rw [List.length_map] at hyl
  walk_at "rd"
  refine fun D hD => lc_it walk_tup (fun i H' => Same H1 H' ∧ H' D = some (.lst ((ws.take i).map fun w => V.int w.1))) ⟨Same.new hD, upd_same⟩ (fun i H' _ ⟨s2, _⟩ => kt_t (Kt.of s2) hS) ?_ ?_
  · rintro i y H2 H3 hi ⟨s2, hD2⟩ ⟨rfl, hy⟩
    obtain ⟨w, T1, c, hw, rfl, hT, hc⟩ := win_item (ha.keep (Kt.of s2)) hy
    refine ⟨_, _, rfl, hT, rfl, ?_⟩
    walk_at "rd"
    refine ⟨_, hD2, szl (by rw [List.length_map, List.length_take]; omega), fun b o e => ?_, ?_⟩
    · rw [upd_ne (ne_of_none e hD)]; exact s2 b o e
    · rw [upd_same, take_snoc hw, List.map_append]; rfl
  rintro H2 ⟨s2, hD2⟩
  rw [hyl, List.take_length] at hD2
  walk_at "rd"
  refine ⟨_, _, rfl, SqL.of hD2, fun L hL => ?_⟩
  walk_at "rd"
  rw [cutV_tail]
  have nDL : D ≠ L := ne_of_none hD2 hL
  have hD3 := (Same.new (o := .lst (((ws.map fun w => V.int w.1)).drop 1)) hL) _ _ hD2
  refine ⟨_, _, _, _, rfl, SqL.of hD3, SqL.of upd_same, fun F hF => ?_⟩
  refine lc_it (walk_zip rfl) (fun i H' => Same (upd H2 L (.lst (((ws.map fun w => V.int w.1)).drop 1))) H' ∧ H' F = some (.lst [])) ⟨Same.new hF, upd_same⟩ (fun i H' _ ⟨s3, _⟩ => ⟨SqL.of (s3 _ _ hD3), SqL.of (s3 _ _ upd_same)⟩) ?_ ?_
  · rintro i y H3 H4 hi ⟨s3, hF3⟩ ⟨T1, a1, b1, rfl, hT1, rfl, hx1, hx2⟩
    have hx1' : (ws.map fun w => V.int w.1)[i]? = some a1 := hx1
    have hx2' : ((ws.map fun w => V.int w.1).drop 1)[i]? = some b1 := hx2
    rw [List.getElem?_drop, List.getElem?_map] at hx2'
    rw [List.getElem?_map] at hx1'
    obtain ⟨w1, h1, rfl⟩ := Option.map_eq_some_iff.mp hx1'
    obtain ⟨w2, h2, rfl⟩ := Option.map_eq_some_iff.mp hx2'
    have far : w1.1 + 122 ≤ w2.1 := by
      obtain ⟨g1, e1⟩ := List.getElem?_eq_some_iff.mp h1
      obtain ⟨g2, e2⟩ := List.getElem?_eq_some_iff.mp h2
      rw [← e1, ← e2]
      exact List.pairwise_iff_getElem.mp hap i (1 + i) g1 g2 (by omega)
    refine ⟨_, _, rfl, SqT.of upd_same, rfl, ?_⟩
    walk_at "rd"
    refine iteB (fun c => ?_) (fun c => ?_)
    · exact absurd (of_decide_eq_true c) (by omega)
    · exact ⟨s3.trans (Same.new hT1), (upd_ne (ne_of_none hF3 hT1)).trans hF3⟩
  · rintro H3 ⟨s3, hF3⟩
    walk_at "rd"
    refine fun M hM => ?_
    refine ⟨_, _, dp_lst ((Same.new hM) _ _ hF3) .nil, dp_lst upd_same .nil, rfl, rfl, ?_⟩
    exact k _ ((((s1.trans s2).trans (Same.new hL)).trans s3).trans (Same.new hM))
local macro_rules | `(tactic| walk_at "rd1") => `(tactic| first
  | refine And.intro ⟨_, rfl⟩ ?_
  | refine And.intro ⟨_, by assumption⟩ ?_
  | refine And.intro ⟨_, SqL.of (by assumption)⟩ ?_)
theorem flat_w {ws : List (Nat × List Int)} : flatAll 2 (ws.map encW) = true := flatAll_iff.mpr fun d hd => by
  obtain ⟨w, _, rfl⟩ := List.mem_map.mp hd
  show flatAll 1 [.int w.1, encT w.2] = true
  have h : flatAll 0 (w.2.map PyData.int) = true := flat_ints _
  simp [flatAll, flatD, encT, h]
theorem shaped_w {ws : List (Nat × List Int)} : SeqAt.shaped (.list (ws.map encW)) = true := flat_shaped (n := 3) flat_w (by decide)
theorem alike_w (v w : Nat × List Int) : PySem.W.alike (encW v) (encW w) = true := by
  unfold encW encT
  simp [PySem.W.alike, PySem.W.alikeAll, PySem.W.alike_ints]
theorem le_w {v w : Nat × List Int} (h : v.1 < w.1) : PySem.W.dataLt (encW w) (encW v) = false := by
  unfold encW
  rw [PySem.W.dataLt_pair (by simp [PySem.W.alike]) (by unfold encT; simp [PySem.W.alike, PySem.W.alike_ints])]
  have e : PyData.eqv (.int w.1) (.int v.1) = false := by simp [PyData.eqv]; omega
  rw [e, if_neg Bool.false_ne_true, PySem.W.dataLt_int]
  exact decide_eq_false (by omega)
/-- values and what they are, one by one -/
theorem zip_fst {K : PySem.W.Frag} {H : Hp} : ∀ {ds : List PyData} {vs : List V}, TpAll K H vs ds → (vs.zip ds).map Prod.fst = vs
  | _, _, .nil => rfl
  | _, _, .cons _ t => by rw [List.zip_cons_cons, List.map_cons, zip_fst t]
theorem zip_snd {K : PySem.W.Frag} {H : Hp} : ∀ {ds : List PyData} {vs : List V}, TpAll K H vs ds → (vs.zip ds).map Prod.snd = ds
  | _, _, .nil => rfl
  | _, _, .cons _ t => by rw [List.zip_cons_cons, List.map_cons, zip_snd t]
theorem zip_dp {K : PySem.W.Frag} {H : Hp} : ∀ {ds : List PyData} {vs : List V}, TpAll K H vs ds → ∀ b ∈ vs.zip ds, Dp K H b.1 b.2
  | _, _, .nil, _, h => by simp at h
  | _, _, .cons a t, b, h => by
    rw [List.zip_cons_cons] at h
    rcases List.mem_cons.mp h with rfl | h
    · exact a.dp
    · exact zip_dp t b h
theorem sorted_w {K : PySem.W.Frag} {H : Hp} {vs : List V} {ws : List (Nat × List Int)} (t : TpAll K H vs (ws.map encW)) (hp : ws.Pairwise fun v w => v.1 < w.1) : sortD (vs.zip (ws.map encW)) = vs := by
  rw [sortD_same, zip_fst t]
  have h : ((vs.zip (ws.map encW)).map Prod.snd).Pairwise fun d e => PySem.W.dataLt e d = false := by
    rw [zip_snd t, List.pairwise_map]
    exact hp.imp fun h => le_w h
  rw [List.pairwise_map] at h
  exact h.imp fun h => by
    rw [PySem.W.dataLe_eq]
    show (!PySem.W.dataLt _ _) = true
    rw [h]
    rfl
theorem ok_law_joint_right (T : Txt K mg a d) (G_law_windows : FnOk P w K mg base CX0 2 a.law_windows d.law_windows ["text"] (sp_law_windows K)) (G_windows : FnOk P w K mg base CX0 4 a.windows d.windows ["text"] (sp_windows K)) (G_windows_across : FnOk P w K mg base CX0 4 a.windows_across d.windows_across ["one", "other"] (sp_windows_across K)) : FnOk P w K mg base CX0 5 a.law_joint_right d.law_joint_right ["one", "other"] (sp_law_joint_right K) := by
  refine T.F_law_joint_right.ok sc_law_joint_right (by walk_at "len") (fun cdv A outer s H vs Q E hr h => ?_)
  obtain ⟨x, y, rfl, hx, hy, hl, k⟩ := h
  have hxy := pr_app hx hy
  have hla := len_app x y
  have hl1 : x.length ≤ 60000 := by omega
  have hl2 : y.length ≤ 60000 := by omega
  have hl3 : (x ++ y).length ≤ 60000 := by omega
  have hz1 : x.length ≤ sizeLine := sz (by omega)
  refine ⟨_, (pss_cons (ps_set (i := 2) sc_law_joint_right.nd rfl (Or.inl rfl) (pe_call G_law_windows (hr.mono (by decide)) (by rfl) T.g_law_windows T.k_law_windows T.B_law_windows .nil pass0 (pa_cons (pe_op op_add_str (pv 0) (pv 1)) pa_nil)))
      (pss_cons (ps_setLc (i := 3) (own := [("place", 6), ("cells", 7)]) (g := gTup K 2 (gCons (gName 6) (gCons (gName 7) gNil))) rfl sc_law_joint_right.nd rfl rfl (sw_true rfl rfl rfl (by decide +kernel)) (pi_list (pv 2)) (blkOk_by (N := n_law_joint_right) (sc := defScope s_law_joint_right) (by decide +kernel)) (fun _ _ _ _ _ => (pg_tup rfl (pgs_cons (pg_name (i := 6) sc_law_joint_right.nd rfl (Or.inl rfl) (.inr rfl)) (pgs_cons (pg_name (i := 7) sc_law_joint_right.nd rfl (Or.inl rfl) (.inr rfl)) pgs_nil)))) (fun _ _ _ _ _ => (pts_one (pt_chain op_lt op_lt (pv 6) (pe_callB call_len_str (by rfl) T.b_len (by decide +kernel) (pa_cons (pv 0) pa_nil)) (pe_op op_add (pv 6) pe_int)))) (fun _ _ _ _ _ => (pe_tup (pa_cons (pv 6) (pa_cons (pv 7) pa_nil)))))
      (pss_cons (ps_set (i := 4) sc_law_joint_right.nd rfl (Or.inl rfl) (pe_call G_windows_across (hr.mono (by decide)) (by rfl) T.g_windows_across T.k_windows_across T.B_windows_across .nil pass0 (pa_cons (pv 0) (pa_cons (pv 1) pa_nil))))
      (pss_cons (ps_if (PW.pt (pw_or (pt_cmpR (op_neD hr.units) (pe_callTy call_list_of (by rfl) T.b_list (by decide +kernel) (pa_cons (pv 4) pa_nil)) (pv 3) (nomark _)) (pw_or1 (pt_cmpR op_gt (pe_callB call_len_seq (by rfl) T.b_len (by decide +kernel) (pa_cons (pv 4) pa_nil)) pe_int (nomark _))))) (pss_one (ps_ret pe_bl)) pss_nil)
      (pss_cons (ps_setLc (i := 5) (own := [("place", 6), ("cells", 7)]) (g := gTup K 2 (gCons (gName 6) (gCons (gName 7) gNil))) rfl sc_law_joint_right.nd rfl rfl (sw_true rfl rfl rfl (by decide +kernel)) (pi_tup (pe_call G_windows (hr.mono (by decide)) (by rfl) T.g_windows T.k_windows T.B_windows .nil pass0 (pa_cons (pv 1) pa_nil))) (blkOk_by (N := n_law_joint_right) (sc := defScope s_law_joint_right) (by decide +kernel)) (fun _ _ _ _ _ => (pg_tup rfl (pgs_cons (pg_name (i := 6) sc_law_joint_right.nd rfl (Or.inl rfl) (.inr rfl)) (pgs_cons (pg_name (i := 7) sc_law_joint_right.nd rfl (Or.inl rfl) (.inr rfl)) pgs_nil)))) (fun _ _ _ _ _ => pts_nil) (fun _ _ _ _ _ => (pe_tup (pa_cons (pe_op op_add (pv 6) (pe_callB call_len_str (by rfl) T.b_len (by decide +kernel) (pa_cons (pv 0) pa_nil))) (pa_cons (pv 7) pa_nil)))))
      (pss_one (ps_ret (pe_and (pe_cmpR (op_eqD hr.units) (pe_callB (call_sortedD hr.units) (by rfl) T.b_sorted (by decide +kernel) (pa_cons (pe_op op_cat (pe_op op_cat (pe_callTy call_list_of (by rfl) T.b_list (by decide +kernel) (pa_cons (pe_call G_windows (hr.mono (by decide)) (by rfl) T.g_windows T.k_windows T.B_windows .nil pass0 (pa_cons (pv 0) pa_nil)) pa_nil)) (pv 3)) (pv 5)) pa_nil)) (pv 2) (nomark _)) (pe_one (pe_cmpR (op_eqD hr.units) (pe_callTy call_list_of (by rfl) T.b_list (by decide +kernel) (pa_cons (pe_call G_windows (hr.mono (by decide)) (by rfl) T.g_windows T.k_windows T.B_windows .nil pass0 (pa_cons (pe_op op_add_str (pv 0) (pv 1)) pa_nil)) pa_nil)) (pv 2) (nomark _))))))))))), ?_⟩
  walk_at "rd"
  intro W xs H1 s1 hW hW1 t1
  rw [tl_append, hla] at t1
  have hap := wl_apart (s := tl x ++ tl y) (b := 0) (x.length + y.length - 121)
  have hwl := wl_length (s := tl x ++ tl y) (b := 0) (e := x.length + y.length - 121)
  have hjn := wl_joint (tl x) (tl y)
  have hfl := filter_wl (s := tl x ++ tl y) (n := x.length + y.length - 121) (lo := x.length - 121) (hi := x.length) (fun w => decide ((w.1 : Int) < x.length) && decide ((x.length : Int) < (w.1 : Int) + 122)) (fun w => by simp; omega)
  rw [← len_tl, ← len_tl] at hjn
  walk_at "rd"
  generalize hws : wl (tl x ++ tl y) 0 (x.length + y.length - 121) = ws at t1 hap hwl hjn hfl
  refine fun D hD => lc_it walk_list (fun i H' => ∃ acc, Same H1 H' ∧ H' D = some (.lst acc) ∧ TpAll K H' acc (((ws.take i).filter fun w => decide ((w.1 : Int) < x.length) && decide ((x.length : Int) < (w.1 : Int) + 122)).map encW)) ⟨[], Same.new hD, upd_same, .nil⟩ (fun i H' _ ⟨_, s2, _⟩ => SqL.of (s2 _ _ hW1)) ?_ ?_
  · rintro i v H2 H3 hi ⟨acc, s2, hD2, ta⟩ ⟨rfl, hv⟩
    obtain ⟨w, T1, c, hw, rfl, hT, hc⟩ := win_item (t1.keep (Kt.of s2)) hv
    have hal : acc.length ≤ 60000 := by
      rw [ta.length, List.length_map]
      refine Nat.le_trans (List.length_filter_le _ _) ?_
      rw [List.length_take]
      have := t1.length
      rw [List.length_map] at this
      omega
    have skip : (decide ((w.1 : Int) < x.length) && decide ((x.length : Int) < (w.1 : Int) + 122)) = false → ∃ acc, Same H1 H3 ∧ H3 D = some (.lst acc) ∧ TpAll K H3 acc (((ws.take (i + 1)).filter fun w => decide ((w.1 : Int) < x.length) && decide ((x.length : Int) < (w.1 : Int) + 122)).map encW) := fun g => by
      refine ⟨acc, s2, hD2, ?_⟩
      rw [take_snoc hw, List.filter_append, List.filter_cons_of_neg (by simpa using g), List.filter_nil, List.append_nil]
      exact ta
    refine ⟨_, _, rfl, hT, rfl, ?_⟩
    walk_at "rd"
    refine iteB (fun c1 => ?_) (fun c1 => ?_)
    · walk_at "rd"
      refine iteB (fun c2 => ?_) (fun c2 => ?_)
      · walk_at "rd"
        refine fun T2 hT2 => ?_
        have nDT : D ≠ T2 := ne_of_none hD2 hT2
        have hD3 : (upd H3 T2 (.tup [.int w.1, .ref c])) D = some (.lst acc) := (upd_ne nDT).trans hD2
        have kk : Kt H3 (upd (upd H3 T2 (.tup [.int w.1, .ref c])) D (.lst (acc ++ [.ref T2]))) := (Kt.of (Same.new hT2)).trans (Kt.lst (.inr ⟨acc, hD3⟩))
        refine ⟨_, hD3, szl (by omega), _, fun b o e => ?_, upd_same, ?_⟩
        · rw [upd_ne (ne_of_none e hD), upd_ne (ne_of_none (s2 b o e) hT2)]; exact s2 b o e
        · rw [take_snoc hw, List.filter_append, List.filter_cons_of_pos (by rw [c1, c2]; rfl), List.map_append]
          exact (ta.keep kk).snoc (.tup (SqT.of ((upd_ne nDT.symm).trans upd_same)) (tp_w (kt_t kk hc)))
      · walk_at "rd"
        exact skip (by rw [c1, c2]; rfl)
    · walk_at "rd"
      exact skip (by rw [c1]; rfl)
  rintro H2 ⟨acc, s2, hD2, ta⟩
  rw [t1.length, List.length_map, List.take_length, hfl] at ta
  have hdl := wl_length (s := tl x ++ tl y) (b := x.length - 121) (e := min x.length (x.length + y.length - 121))
  have hdo : (wl (tl x ++ tl y) (x.length - 121) (min x.length (x.length + y.length - 121))).length ≤ 1 := by
    refine len1 (wl_apart (s := tl x ++ tl y) (b := x.length - 121) _) fun v hv w hw g => ?_
    have h1 := mem_wl.mp hv
    have h2 := mem_wl.mp hw
    omega
  walk_at "rd"
  intro v H3 s3 t3
  generalize wl (tl x ++ tl y) (x.length - 121) (min x.length (x.length + y.length - 121)) = due at t3 ta hdl hdo hjn
  cases t3 with
  | @tup U us ds3 hU hua =>
  have hul := hua.length
  rw [List.length_map] at hul
  walk_at "rd"
  refine fun L1 hL1 => ?_
  have sL1 : Same H3 (upd H3 L1 (.lst us)) := Same.new hL1
  have hD4 := sL1 _ _ (s3 _ _ hD2)
  have hU4 := kt_t (Kt.of sL1) hU
  have ta4 := ta.keep (Kt.of (s3.trans sL1))
  walk_at "rd"
  refine ⟨_, _, dp_lst upd_same (hua.keep (Kt.of sL1)), dp_lst hD4 ta4, shaped_w, shaped_w, ?_⟩
  rw [shaped_eqv shaped_w]
  walk_at "rd"
  refine iteB (fun c => ?_) (fun c => ?_)
  · exact absurd (of_decide_eq_true c) (by omega)
  walk_at "rd"
  intro v2 H5 s5 t5
  have hwy := wl_length (s := tl y) (b := 0) (e := y.length - 121)
  generalize wl (tl y) 0 (y.length - 121) = wy at t5 hjn hwy
  cases t5 with
  | @tup U2 us2 ds5 hU2 hua2 =>
  have hul2 := hua2.length
  rw [List.length_map] at hul2
  walk_at "rd"
  refine fun E2 hE => lc_it walk_tup (fun i H' => ∃ acc2, Same H5 H' ∧ H' E2 = some (.lst acc2) ∧ TpAll K H' acc2 (((wy.take i).map fun w => (w.1 + x.length, w.2)).map encW)) ⟨[], Same.new hE, upd_same, .nil⟩ (fun i H' _ ⟨_, s6, _⟩ => kt_t (Kt.of s6) hU2) ?_ ?_
  · rintro i v H6 H7 hi ⟨acc2, s6, hE6, ta6⟩ ⟨rfl, hv⟩
    obtain ⟨w, T1, c, hw, rfl, hT, hc⟩ := win_item (hua2.keep (Kt.of s6)) hv
    have hal : acc2.length ≤ 60000 := by rw [ta6.length, List.length_map, List.length_map, List.length_take]; omega
    refine ⟨_, _, rfl, hT, rfl, ?_⟩
    walk_at "rd"
    refine fun T2 hT2 => ?_
    have nET : E2 ≠ T2 := ne_of_none hE6 hT2
    have hE7 := (upd_ne (o := .tup [.int ((w.1 : Int) + x.length), .ref c]) nET).trans hE6
    have kk : Kt H7 (upd (upd H7 T2 (.tup [.int ((w.1 : Int) + x.length), .ref c])) E2 (.lst (acc2 ++ [.ref T2]))) := (Kt.of (Same.new hT2)).trans (Kt.lst (.inr ⟨acc2, hE7⟩))
    refine ⟨_, hE7, szl (by omega), _, fun b o e => ?_, upd_same, ?_⟩
    · rw [upd_ne (ne_of_none e hE), upd_ne (ne_of_none (s6 b o e) hT2)]; exact s6 b o e
    · rw [take_snoc hw, List.map_append, List.map_append]
      refine (ta6.keep kk).snoc (.tup (SqT.of ((upd_ne nET.symm).trans upd_same)) ?_)
      rw [show ((w.1 : Int) + (x.length : Int)) = ((w.1 + x.length : Nat) : Int) by omega]
      exact tp_w (w := (w.1 + x.length, w.2)) (kt_t kk hc)
  rintro H6 ⟨acc2, s6, hE6, ta6⟩
  rw [hul2, List.take_length] at ta6
  walk_at "rd"
  intro v3 H7 s7 t7
  have hwx := wl_length (s := tl x) (b := 0) (e := x.length - 121)
  generalize wl (tl x) 0 (x.length - 121) = wx at t7 hjn hwx
  cases t7 with
  | @tup U3 us3 ds7 hU3 hua3 =>
  have hul3 := hua3.length
  rw [List.length_map] at hul3
  walk_at "rd"
  refine fun L3 hL3 => ?_
  have sL3 : Same H7 (upd H7 L3 (.lst us3)) := Same.new hL3
  have hD8 := sL3 _ _ (s7 _ _ (s6 _ _ (s5 _ _ hD4)))
  have hE8 := sL3 _ _ (s7 _ _ hE6)
  walk_at "rd"
  have hacl : acc.length = due.length := by rw [ta.length, List.length_map]
  have hac2 : acc2.length = wy.length := by rw [ta6.length, List.length_map, List.length_map]
  refine ⟨_, _, _, _, rfl, rfl, upd_same, hD8, sz (by omega), fun L4 hL4 => ?_⟩
  have sL4 := Same.new (o := .lst (us3 ++ acc)) hL4
  have hE9 := sL4 _ _ hE8
  walk_at "rd"
  refine ⟨_, _, _, _, rfl, rfl, upd_same, hE9, sz (by rw [List.length_append]; omega), fun L5 hL5 => ?_⟩
  have sL5 := Same.new (o := .lst (us3 ++ acc ++ acc2)) hL5
  have hall : TpAll K (upd (upd (upd H7 L3 (.lst us3)) L4 (.lst (us3 ++ acc))) L5 (.lst (us3 ++ acc ++ acc2))) (us3 ++ acc ++ acc2) (ws.map encW) := by
    rw [← hjn, List.map_append, List.map_append]
    exact ((hua3.keep (Kt.of (sL3.trans (sL4.trans sL5)))).append (ta4.keep (Kt.of (((s5.trans s6).trans s7).trans (sL3.trans (sL4.trans sL5)))))).append (ta6.keep (Kt.of (s7.trans (sL3.trans (sL4.trans sL5)))))
  have s8 : Same H1 (upd (upd (upd H7 L3 (.lst us3)) L4 (.lst (us3 ++ acc))) L5 (.lst (us3 ++ acc ++ acc2))) := (((((s2.trans s3).trans sL1).trans s5).trans s6).trans s7).trans (sL3.trans (sL4.trans sL5))
  have hL5' : (upd (upd (upd H7 L3 (.lst us3)) L4 (.lst (us3 ++ acc))) L5 (.lst (us3 ++ acc ++ acc2))) L5 = some (.lst (us3 ++ acc ++ acc2)) := upd_same
  generalize upd (upd (upd H7 L3 (.lst us3)) L4 (.lst (us3 ++ acc))) L5 (.lst (us3 ++ acc ++ acc2)) = H9 at *
  walk_at "rd"
  refine ⟨_, (us3 ++ acc ++ acc2).zip (ws.map encW), rfl, SqL.of (by rw [zip_fst hall]; exact hL5'), zip_dp hall, ?_, ?_, fun b hb => ?_, fun L6 hL6 => ?_⟩
  · rw [zip_snd hall]; exact PySem.W.AllAlike.of alike_w
  · rw [zip_snd hall]; exact PySem.W.Sortable.tuples fun w => ⟨_, _, rfl⟩
  · have hm : b.2 ∈ ws.map encW := by rw [← zip_snd hall]; exact List.mem_map.mpr ⟨b, hb, rfl⟩
    exact Nat.le_trans (flat_lay 2 b.2 (flatAll_iff.mp (flat_w (ws := ws)) _ hm)).2 (by decide)
  rw [sorted_w hall (hap.imp fun h => by omega)]
  have sL6 : Same H9 (upd H9 L6 (.lst (us3 ++ acc ++ acc2))) := Same.new hL6
  have s9 := s8.trans sL6
  have hW9 := s9 _ _ hW1
  have t9 := t1.keep (Kt.of s9)
  walk_at "rd"
  refine ⟨_, _, dp_lst upd_same (hall.keep (Kt.of sL6)), dp_lst hW9 t9, shaped_w, shaped_w, ?_⟩
  rw [shaped_eqv shaped_w]
  generalize upd H9 L6 (.lst (us3 ++ acc ++ acc2)) = H10 at *
  walk_at "rd"
  intro v4 H11 s11 t11
  rw [tl_append, hla, hws] at t11
  cases t11 with
  | @tup U4 us4 ds11 hU4' hua4 =>
  walk_at "rd"
  refine fun L7 hL7 => ?_
  have sL7 : Same H11 (upd H11 L7 (.lst us4)) := Same.new hL7
  walk_at "rd"
  refine ⟨_, _, dp_lst upd_same (hua4.keep (Kt.of sL7)), dp_lst (sL7 _ _ (s11 _ _ hW9)) (t9.keep (Kt.of (s11.trans sL7))), shaped_w, shaped_w, ?_⟩
  rw [shaped_eqv shaped_w]
  exact k _ (((s1.trans s9).trans s11).trans sL7)
def sp_law_right (K : PySem.W.Frag) : Sp := fun vs H Q _ => ∃ t : Addr, vs = [.ref t] ∧ Tray H t ∧ ∀ H', Dr t H H' → Q (.bl true) H'
def sp_law (K : PySem.W.Frag) : Sp := fun vs H Q _ => ∃ (a : Addr) (ns : List Int), vs = [.ref a] ∧ SqL K H a (ns.map V.int) ∧ ns.length ≤ 63 ∧ ∀ H', Q (.bl true) H'
theorem ok_law_right (T : Txt K mg a d) (G_law_are_apart : FnOk P w K mg base CX0 5 a.law_are_apart d.law_are_apart ["text"] (sp_law_are_apart K)) (G_law_cells : FnOk P w K mg base CX0 3 a.law_cells d.law_cells ["tray"] (sp_law_cells K)) (G_law_drawn : FnOk P w K mg base CX0 5 a.law_drawn d.law_drawn ["tray", "many"] (sp_law_drawn K)) (G_law_joint_right : FnOk P w K mg base CX0 5 a.law_joint_right d.law_joint_right ["one", "other"] (sp_law_joint_right K)) (G_law_pluck : FnOk P w K mg base CX0 1 a.law_pluck d.law_pluck ["tray", "total"] (sp_law_pluck K)) (G_law_window : FnOk P w K mg base CX0 2 a.law_window d.law_window ["cells"] (sp_law_window K)) : FnOk P w K mg base CX0 6 a.law_right d.law_right ["tray"] (sp_law_right K) := by
  refine T.F_law_right.ok sc_law_right (by walk_at "len") (fun cdv A outer s H vs Q E hr h => ?_)
  obtain ⟨t, rfl, hT, k⟩ := h
  refine ⟨_, (pss_cons (ps_par (i := 1) (j := 2) (by rfl) sc_law_right.nd rfl rfl (by decide) rfl rfl (pa_cons (pe_call G_law_drawn (hr.mono (by decide)) (by rfl) T.g_law_drawn T.k_law_drawn T.B_law_drawn .nil pass0 (pa_cons (pv 0) (pa_cons pe_int pa_nil))) (pa_cons (pe_call G_law_drawn (hr.mono (by decide)) (by rfl) T.g_law_drawn T.k_law_drawn T.B_law_drawn .nil pass0 (pa_cons (pv 0) (pa_cons pe_int pa_nil))) pa_nil)) (by rfl))
      (pss_cons (ps_if (PW.pt (pw_or (pt_not (pt_val (pe_call G_law_joint_right (hr.mono (by decide)) (by rfl) T.g_law_joint_right T.k_law_joint_right T.B_law_joint_right .nil pass0 (pa_cons (pv 1) (pa_cons (pv 2) pa_nil))))) (pw_or1 (pt_not (pt_val (pe_call G_law_are_apart (hr.mono (by decide)) (by rfl) T.g_law_are_apart T.k_law_are_apart T.B_law_are_apart .nil pass0 (pa_cons (pe_op op_add_str (pv 1) (pv 2)) pa_nil))))))) (pss_one (ps_ret pe_bl)) pss_nil)
      (pss_cons (ps_set (i := 3) sc_law_right.nd rfl (Or.inl rfl) (pe_op op_add_str (pe_op op_add_str (pv 1) (pv 2)) (pe_call G_law_window (hr.mono (by decide)) (by rfl) T.g_law_window T.k_law_window T.B_law_window .nil pass0 (pa_cons (pe_call G_law_cells (hr.mono (by decide)) (by rfl) T.g_law_cells T.k_law_cells T.B_law_cells .nil pass0 (pa_cons (pv 0) pa_nil)) pa_nil))))
      (pss_cons (ps_for PassesOwn.never rfl (pi_range1 (by rfl) T.b_range (pa_cons pe_int pa_nil)) (pg_name (i := 4) sc_law_right.nd rfl (Or.inl rfl))
      (pss_cons (ps_set (i := 5) sc_law_right.nd rfl (Or.inl rfl) (pe_call G_law_pluck (hr.mono (by decide)) (by rfl) T.g_law_pluck T.k_law_pluck T.B_law_pluck .nil pass0 (pa_cons (pv 0) (pa_cons (pe_op op_add (pe_callB call_len_str (by rfl) T.b_len (by decide +kernel) (pa_cons (pv 3) pa_nil)) pe_int) pa_nil))))
      (pss_one (ps_if (pt_not (pt_val (pe_call G_law_joint_right (hr.mono (by decide)) (by rfl) T.g_law_joint_right T.k_law_joint_right T.B_law_joint_right .nil pass0 (pa_cons (pe_slice sl_str (pv 3) po_none (po_some (pv 5))) (pa_cons (pe_slice sl_str (pv 3) (po_some (pv 5)) po_none) pa_nil))))) (pss_one (ps_ret pe_bl)) pss_nil))))
      (pss_cons (ps_set (i := 5) sc_law_right.nd rfl (Or.inl rfl) (pe_op op_add pe_int (pe_call G_law_pluck (hr.mono (by decide)) (by rfl) T.g_law_pluck T.k_law_pluck T.B_law_pluck .nil pass0 (pa_cons (pv 0) (pa_cons pe_int pa_nil)))))
      (pss_cons (ps_par (i := 6) (j := 7) (by rfl) sc_law_right.nd rfl rfl (by decide) rfl rfl (pa_cons (pe_call G_law_window (hr.mono (by decide)) (by rfl) T.g_law_window T.k_law_window T.B_law_window .nil pass0 (pa_cons (pe_call G_law_cells (hr.mono (by decide)) (by rfl) T.g_law_cells T.k_law_cells T.B_law_cells .nil pass0 (pa_cons (pv 0) pa_nil)) pa_nil)) (pa_cons (pe_call G_law_window (hr.mono (by decide)) (by rfl) T.g_law_window T.k_law_window T.B_law_window .nil pass0 (pa_cons (pe_call G_law_cells (hr.mono (by decide)) (by rfl) T.g_law_cells T.k_law_cells T.B_law_cells .nil pass0 (pa_cons (pv 0) pa_nil)) pa_nil)) pa_nil)) (by rfl))
      (pss_one (ps_ret (pe_and (pe_call G_law_joint_right (hr.mono (by decide)) (by rfl) T.g_law_joint_right T.k_law_joint_right T.B_law_joint_right .nil pass0 (pa_cons (pe_slice sl_str (pv 6) po_none (po_some (pv 5))) (pa_cons (pe_slice sl_str (pv 7) (po_some (pv 5)) po_none) pa_nil))) (pe_one (pe_call G_law_joint_right (hr.mono (by decide)) (by rfl) T.g_law_joint_right T.k_law_joint_right T.B_law_joint_right .nil pass0 (pa_cons (pe_slice sl_str (pv 6) po_none (po_some (pv 5))) (pa_cons (pe_slice sl_str (pv 7) (po_some (pe_op op_sub (pv 5) pe_int)) po_none) pa_nil))))))))))))), ?_⟩
  walk_at "rd"
  intro x H1 hx hxl d1
  have hT1 := d1.2.1
  walk_at "rd"
  intro y H2 hy hyl d2
  have d12 := d1.trans d2
  have hT2 := d12.2.1
  have hxy := pr_app hx hy
  have hla := len_app x y
  have hz1 : (x ++ y).length ≤ sizeLine := sz (by omega)
  walk_at "rd"
  intro H3 s3
  have d3 := d12.trans (Dr.same hT2 s3)
  have hT3 := d3.2.1
  walk_at "rd"
  intro H4 s4
  have d4 := d3.trans (Dr.same hT3 s4)
  have hT4 := d4.2.1
  walk_at "rd"
  intro p cs H5 d5 hcs hl hb
  have d6 := d4.trans d5
  refine ⟨p, cs, rfl, hcs, by omega, hb, fun H6 s6 => ?_⟩
  have d7 := d6.trans (Dr.same d6.2.1 s6)
  have hW : pr (winS cs) := pr_win
  have hWl := len_win hb
  generalize winS cs = W at hW hWl
  have hla2 := len_app (x ++ y) W
  have hZ := pr_app hxy hW
  have hz2 : (x ++ y ++ W).length ≤ sizeLine := sz (by omega)
  walk_at "rd"
  generalize hZe : x ++ y ++ W = Z at hla2 hZ hz2
  have hcut : ∀ lo hi, (cutS Z lo hi).length ≤ Z.length := fun lo hi => cutS_length Z lo hi
  refine for_it walk_range (fun i σ H' => ∃ v4 v5 : Option V, σ = [some (.ref t), some (.str x), some (.str y), some (.str Z), v4, v5, none, none] ∧ Dr t H H') ⟨none, none, rfl, d7⟩ (fun _ _ _ _ _ => trivial) ?_ ?_
  · rintro i v σ H7 H8 hi ⟨v4, v5, rfl, d8⟩ ⟨rfl, rfl⟩
    have hT8 := d8.2.1
    walk_at "rd"
    intro r H9 r0 r1 d9
    have d10 := d8.trans d9
    have h1 := hcut none (some r)
    have h2 := hcut (some r) none
    have p1 := pr_cut hZ none (some r)
    have p2 := pr_cut hZ (some r) none
    walk_at "rd"
    intro H10 s10
    walk_at "rd"
    exact d10.trans (Dr.same d10.2.1 s10)
  rintro σ H7 ⟨v4, v5, rfl, d8⟩
  have hT8 := d8.2.1
  walk_at "rd"
  intro r H8 r0 r1 d9
  have d10 := d8.trans d9
  have hT10 := d10.2.1
  walk_at "rd"
  intro p2 cs2 H9 d11 hcs2 hl2 hb2
  have d12' := d10.trans d11
  refine ⟨p2, cs2, rfl, hcs2, by omega, hb2, fun H10 s10 => ?_⟩
  have d13 := d12'.trans (Dr.same d12'.2.1 s10)
  have hT13 := d13.2.1
  have hW2 : pr (winS cs2) := pr_win
  have hWl2 := len_win hb2
  generalize winS cs2 = F at hW2 hWl2
  walk_at "rd"
  intro p3 cs3 H11 d14 hcs3 hl3 hb3
  have d15 := d13.trans d14
  refine ⟨p3, cs3, rfl, hcs3, by omega, hb3, fun H12 s12 => ?_⟩
  have d16 := d15.trans (Dr.same d15.2.1 s12)
  have hW3 : pr (winS cs3) := pr_win
  have hWl3 := len_win hb3
  generalize winS cs3 = G at hW3 hWl3
  have z1 : F.length ≤ sizeLine := sz (by omega)
  have z2 : G.length ≤ sizeLine := sz (by omega)
  have q1 := pr_cut hW2 none (some (1 + r))
  have q2 := pr_cut hW3 (some (1 + r)) none
  have q3 := pr_cut hW3 (some (1 + r - 1)) none
  have l1 := cutS_length F none (some (1 + r))
  have l2 := cutS_length G (some (1 + r)) none
  have l3 := cutS_length G (some (1 + r - 1)) none
  walk_at "rd"
  intro H13 s13
  walk_at "rd"
  intro H14 s14
  exact k _ (d16.trans (Dr.same d16.2.1 (s13.trans s14)))
def c7 : List Int := List.replicate 40 7
def c9 : List Int := List.replicate 40 9
def c79 : List Int := List.replicate 16 7 ++ List.replicate 24 9
def X1 : Str := Str.ofString "xx" ++ cutS (winS c7) none (some 50)
def Y1 : Str := cutS (winS c9) (some 50) none ++ Str.ofString "#"
def acr (x y : Str) : List (Nat × List Int) := wl (tl x ++ tl y) (x.length - 121) (min x.length (x.length + y.length - 121))
theorem ev1 : acr X1 Y1 = [(2, c79)] := by decide +kernel
theorem ev2 : acr (winS c7) (winS c9) = [] := by decide +kernel
theorem ev3 : acr (cutS (winS c7) none (some 1)) (cutS (winS c7) (some 1) none) = [(0, c7)] := by decide +kernel
def prb (z : Str) : Bool := (tl z).all fun c => decide (32 ≤ c) && decide (c ≤ 126)
theorem pr_b {z : Str} (h : prb z = true) : pr z := fun c hc => by
  have := List.all_eq_true.mp h c hc
  simpa using this
theorem pX1 : pr X1 := pr_b (by decide +kernel)
theorem pY1 : pr Y1 := pr_b (by decide +kernel)
theorem lX1 : X1.length ≤ 100 ∧ Y1.length ≤ 100 ∧ (winS c7).length ≤ 200 ∧ (winS c9).length ≤ 200 := by decide +kernel
theorem v7 : (List.replicate (40 : Int).toNat [V.int 7]).flatten = c7.map V.int := rfl
theorem v9 : (List.replicate (40 : Int).toNat [V.int 9]).flatten = c9.map V.int := rfl
theorem ok_law (T : Txt K mg a d) (G_law_right : FnOk P w K mg base CX0 6 a.law_right d.law_right ["tray"] (sp_law_right K)) (G_law_tray : FnOk P w K mg base CX0 1 a.law_tray d.law_tray ["script", "spot"] (sp_law_tray K)) (G_law_window : FnOk P w K mg base CX0 2 a.law_window d.law_window ["cells"] (sp_law_window K)) (G_windows_across : FnOk P w K mg base CX0 4 a.windows_across d.windows_across ["one", "other"] (sp_windows_across K)) : FnOk P w K mg base CX0 7 a.law d.law ["script"] (sp_law K) := by
  refine T.F_law.ok sc_law (by walk_at "len") (fun cdv A outer s H vs Q E hr h => ?_)
  obtain ⟨l, ns, rfl, hS, hl, k⟩ := h
  refine ⟨_, (pss_cons (ps_for PassesOwn.never rfl (pi_range1 (by rfl) T.b_range (pa_cons (pe_callB (call_max2 rfl) (by rfl) T.b_max (by decide +kernel) (pa_cons pe_int (pa_cons (pe_callB (call_min2 rfl) (by rfl) T.b_min (by decide +kernel) (pa_cons pe_int (pa_cons (pe_callB call_len_seq (by rfl) T.b_len (by decide +kernel) (pa_cons (pv 0) pa_nil)) pa_nil))) pa_nil))) pa_nil)) (pg_name (i := 1) sc_law.nd rfl (Or.inl rfl))
      (pss_cons (ps_set (i := 2) sc_law.nd rfl (Or.inl rfl) (pe_call G_law_tray (hr.mono (by decide)) (by rfl) T.g_law_tray T.k_law_tray T.B_law_tray .nil pass0 (pa_cons (pv 0) (pa_cons (pv 1) pa_nil))))
      (pss_one (ps_for PassesOwn.never rfl (pi_range1 (by rfl) T.b_range (pa_cons pe_int pa_nil)) (pg_name (i := 3) sc_law.nd rfl (Or.inl rfl))
      (pss_one (ps_if (pt_not (pt_val (pe_call G_law_right (hr.mono (by decide)) (by rfl) T.g_law_right T.k_law_right T.B_law_right .nil pass0 (pa_cons (pv 2) pa_nil)))) (pss_one (ps_ret pe_bl)) pss_nil))))))
      (pss_cons (ps_par (i := 4) (j := 5) (by rfl) sc_law.nd rfl rfl (by decide) rfl rfl (pa_cons (pe_call G_law_window (hr.mono (by decide)) (by rfl) T.g_law_window T.k_law_window T.B_law_window .nil pass0 (pa_cons (pe_op op_repT (pe_tup (pa_cons pe_int pa_nil)) pe_int) pa_nil)) (pa_cons (pe_call G_law_window (hr.mono (by decide)) (by rfl) T.g_law_window T.k_law_window T.B_law_window .nil pass0 (pa_cons (pe_op op_repT (pe_tup (pa_cons pe_int pa_nil)) pe_int) pa_nil)) pa_nil)) (by rfl))
      (pss_cons (ps_set (i := 6) sc_law.nd rfl (Or.inl rfl) (pe_call G_windows_across (hr.mono (by decide)) (by rfl) T.g_windows_across T.k_windows_across T.B_windows_across .nil pass0 (pa_cons (pe_op op_add_str pe_str (pe_slice sl_str (pv 4) po_none (po_some pe_int))) (pa_cons (pe_op op_add_str (pe_slice sl_str (pv 5) (po_some pe_int) po_none) pe_str) pa_nil))))
      (pss_cons (ps_if (PW.pt (pw_or (pt_cmpR op_ne (pe_callB call_len_seq (by rfl) T.b_len (by decide +kernel) (pa_cons (pv 6) pa_nil)) pe_int (nomark _)) (pw_or (pt_cmpR op_ne (pe_ix ix_tup (pe_ix ix_tup (pv 6) pe_int (fun _ _ => rfl)) pe_int (fun _ _ => rfl)) pe_int (nomark _)) (pw_or1 (pt_cmpR (op_neD hr.units) (pe_ix ix_tup (pe_ix ix_tup (pv 6) pe_int (fun _ _ => rfl)) pe_int (fun _ _ => rfl)) (pe_op op_catT (pe_op op_repT (pe_tup (pa_cons pe_int pa_nil)) pe_int) (pe_op op_repT (pe_tup (pa_cons pe_int pa_nil)) pe_int)) (nomark _)))))) (pss_one (ps_ret pe_bl)) pss_nil)
      (pss_one (ps_ret (pe_and (pe_cmpR (op_eqD hr.units) (pe_call G_windows_across (hr.mono (by decide)) (by rfl) T.g_windows_across T.k_windows_across T.B_windows_across .nil pass0 (pa_cons (pv 4) (pa_cons (pv 5) pa_nil))) (pe_tup pa_nil) (nomark _)) (pe_one (pe_cmpR (op_eqD hr.units) (pe_call G_windows_across (hr.mono (by decide)) (by rfl) T.g_windows_across T.k_windows_across T.B_windows_across .nil pass0 (pa_cons (pe_slice sl_str (pv 4) po_none (po_some pe_int)) (pa_cons (pe_slice sl_str (pv 4) (po_some pe_int) po_none) pa_nil))) (pe_tup (pa_cons (pe_tup (pa_cons pe_int (pa_cons (pe_op op_repT (pe_tup (pa_cons pe_int pa_nil)) pe_int) pa_nil))) pa_nil)) (nomark _)))))))))), ?_⟩
  walk_at "rd"
  refine for_it walk_range (fun i σ H' => ∃ v1 v2 v3 : Option V, σ = [some (.ref l), v1, v2, v3, none, none, none] ∧ Same H H') ⟨none, none, none, rfl, Same.refl H⟩ (fun _ _ _ _ _ => trivial) ?_ ?_
  · rintro i v σ H1 H2 hi ⟨v1, v2, v3, rfl, s1⟩ ⟨rfl, rfl⟩
    have hi3 : i ≤ 3 := by
      revert hi
      split <;> (try split) <;> intro hi <;> omega
    have hS1 := s1.seq hS
    walk_at "rd"
    refine ⟨l, ns, i, by show [V.ref l, V.int ((0 : Int) + i)] = _; rw [Int.zero_add], hS1, hi3, fun p H3 s3 hp hTp => ?_⟩
    have d0 : Dr p H3 H3 := Dr.refl hTp
    have fin : ∀ H4, Dr p H3 H4 → Same H H4 := fun H4 d b o e => d.1 b o (ne_of_none (s1 b o e) hp) (s3 b o (s1 b o e))
    walk_at "rd"
    refine for_it walk_range (fun j σ H' => ∃ v3 : Option V, σ = [some (.ref l), some (.int ((0 : Int) + (i : Int))), some (.ref p), v3, none, none, none] ∧ Dr p H3 H') ⟨v3, rfl, d0⟩ (fun _ _ _ _ _ => trivial) ?_ ?_
    · rintro j v σ H4 H5 hj ⟨v3, rfl, d5⟩ ⟨rfl, rfl⟩
      have hT5 := d5.2.1
      walk_at "rd"
      intro H6 d6
      walk_at "rd"
      exact d5.trans d6
    · rintro σ H4 ⟨v3, rfl, d4⟩
      exact ⟨_, _, _, rfl, fin H4 d4⟩
  rintro σ H1 ⟨v1, v2, v3, rfl, s1⟩
  walk_at "rd"
  refine fun t1 ht1 => ?_
  walk_at "rd"
  refine ⟨_, _, _, rfl, rfl, SqT.of upd_same, by simp, by decide, by decide, by decide, fun t2 ht2 => ?_⟩
  refine ⟨t2, c7, rfl, SqT.of (upd_same.trans (by rw [v7])), by decide, by decide, fun H2 s2 => ?_⟩
  walk_at "rd"
  refine fun t3 ht3 => ?_
  walk_at "rd"
  refine ⟨_, _, _, rfl, rfl, SqT.of upd_same, by simp, by decide, by decide, by decide, fun t4 ht4 => ?_⟩
  refine ⟨t4, c9, rfl, SqT.of (upd_same.trans (by rw [v9])), by decide, by decide, fun H3 s3 => ?_⟩
  have lz := lX1
  have z7 : (winS c7).length ≤ sizeLine := sz (by omega)
  have z9 : (winS c9).length ≤ sizeLine := sz (by omega)
  have lx := cutS_length (winS c7) none (some 50)
  have ly := cutS_length (winS c9) (some 50) none
  have lxx : (Str.ofString "xx").length = 2 := rfl
  have lsh : (Str.ofString "#").length = 1 := rfl
  have pX : pr (Str.ofString "xx" ++ cutS (winS c7) none (some 50)) := pX1
  have pY : pr (cutS (winS c9) (some 50) none ++ Str.ofString "#") := pY1
  have lX := len_app (Str.ofString "xx") (cutS (winS c7) none (some 50))
  have lY := len_app (cutS (winS c9) (some 50) none) (Str.ofString "#")
  walk_at "rd"
  intro v H4 s4 t4
  have t4' : Tp K H4 v (.tuple ((acr X1 Y1).map encW)) := t4
  rw [ev1] at t4'
  clear t4
  cases t4' with
  | @tup U us ds hU hua =>
  have hul : us.length = 1 := hua.length
  obtain ⟨u, rfl⟩ : ∃ u, us = [u] := by
    match us, hul with
    | [u], _ => exact ⟨u, rfl⟩
  obtain ⟨w, T1, c, hw, rfl, hT, hc⟩ := win_item hua (i := 0) rfl
  obtain rfl : w = (2, c79) := (Option.some.inj hw).symm
  walk_at "rd"
  refine fun q1 hq1 => ?_
  walk_at "rd"
  refine ⟨_, _, _, rfl, rfl, SqT.of upd_same, by simp, by decide, by decide, by decide, fun q2 hq2 => ?_⟩
  have m2 := (Same.new (o := .tup [.int 7]) hq1).trans (Same.new (o := .tup (List.replicate (16 : Int).toNat [V.int 7]).flatten) hq2)
  have hc2 := kt_t (Kt.of m2) hc
  generalize hH5 : upd (upd H4 q1 (.tup [.int 7])) q2 (.tup (List.replicate (16 : Int).toNat [V.int 7]).flatten) = H5 at *
  have hq2' : H5 q2 = some (.tup (List.replicate (16 : Int).toNat [V.int 7]).flatten) := by rw [← hH5]; exact upd_same
  walk_at "rd"
  refine fun q3 hq3 => ?_
  walk_at "rd"
  refine ⟨_, _, _, rfl, rfl, SqT.of upd_same, by simp, by decide, by decide, by decide, fun q4 hq4 => ?_⟩
  have m4 := (Same.new (o := .tup [.int 9]) hq3).trans (Same.new (o := .tup (List.replicate (24 : Int).toNat [V.int 9]).flatten) hq4)
  have hc4 := kt_t (Kt.of m4) hc2
  have hq4' := m4 _ _ hq2'
  generalize hH6 : upd (upd H5 q3 (.tup [.int 9])) q4 (.tup (List.replicate (24 : Int).toNat [V.int 9]).flatten) = H6 at *
  have hq4'' : H6 q4 = some (.tup (List.replicate (24 : Int).toNat [V.int 9]).flatten) := by rw [← hH6]; exact upd_same
  walk_at "rd"
  refine ⟨_, _, _, _, rfl, rfl, SqT.of hq4', SqT.of hq4'', by decide, by decide, (fun h => absurd h (by decide)), fun _ q5 hq5 => ?_⟩
  have m5 := Same.new (o := .tup ((List.replicate (16 : Int).toNat [V.int 7]).flatten ++ (List.replicate (24 : Int).toNat [V.int 9]).flatten)) hq5
  have hc5 := kt_t (Kt.of m5) hc4
  have sh79 : SeqAt.shaped (.tuple (c79.map PyData.int)) = true := flat_shaped (n := 1) (flat_ints _) (by decide)
  refine ⟨_, _, (tp_ints hc5).dp, (tp_ints (ns := c79) (SqT.of upd_same)).dp, sh79, sh79, ?_⟩
  rw [shaped_eqv sh79]
  generalize upd H6 q5 (.tup ((List.replicate (16 : Int).toNat [V.int 7]).flatten ++ (List.replicate (24 : Int).toNat [V.int 9]).flatten)) = H7 at *
  have p7 : pr (winS c7) := pr_win
  have p9 : pr (winS c9) := pr_win
  walk_at "rd"
  intro v5 H8 s8 t8
  have t8' : Tp K H8 v5 (.tuple ((acr (winS c7) (winS c9)).map encW)) := t8
  rw [ev2] at t8'
  walk_at "rd"
  refine fun q6 hq6 => ?_
  have t9 := t8'.keep (Kt.of (Same.new (o := .tup []) hq6))
  refine ⟨_, _, t9.dp, (Tp.tup (SqT.of upd_same) .nil : Tp K _ _ (.tuple [])).dp, rfl, rfl, ?_⟩
  have pa := pr_cut p7 none (some 1)
  have pb := pr_cut p7 (some 1) none
  have la := cutS_length (winS c7) none (some 1)
  have lb := cutS_length (winS c7) (some 1) none
  walk_at "rd"
  intro v6 H9 s9 t10
  have t10' : Tp K H9 v6 (.tuple ((acr (cutS (winS c7) none (some 1)) (cutS (winS c7) (some 1) none)).map encW)) := t10
  rw [ev3] at t10'
  clear t10
  walk_at "rd"
  refine fun q7 hq7 => ?_
  walk_at "rd"
  refine ⟨_, _, _, rfl, rfl, SqT.of upd_same, by simp, by decide, by decide, by decide, fun q8 hq8 => ?_⟩
  have m8 := (Same.new (o := .tup [.int 7]) hq7).trans (Same.new (o := .tup (List.replicate (40 : Int).toNat [V.int 7]).flatten) hq8)
  have t11 := t10'.keep (Kt.of m8)
  generalize hH8 : upd (upd H9 q7 (.tup [.int 7])) q8 (.tup (List.replicate (40 : Int).toNat [V.int 7]).flatten) = H10 at *
  have hq8' : H10 q8 = some (.tup (c7.map V.int)) := by rw [← hH8, ← v7]; exact upd_same
  walk_at "rd"
  refine fun q9 hq9 => ?_
  walk_at "rd"
  refine fun q10 hq10 => ?_
  have m9 := Same.new (o := .tup [.int 0, .ref q8]) hq9
  have m10 := Same.new (o := .tup [.ref q9]) hq10
  have t12 := t11.keep (Kt.of (m9.trans m10))
  have g8 := m10 _ _ (m9 _ _ hq8')
  have g9 := m10 _ _ (upd_same (H := H10) (a := q9) (o := .tup [.int 0, .ref q8]))
  have e12 : Tp K (upd (upd H10 q9 (.tup [.int 0, .ref q8])) q10 (.tup [.ref q9])) (.ref q10) (.tuple (([(0, c7)] : List (Nat × List Int)).map encW)) :=
    .tup (SqT.of upd_same) (.cons (.tup (SqT.of g9) (.cons (.int _) (.cons (tp_ints (SqT.of g8)) .nil))) .nil)
  have sh : SeqAt.shaped (.tuple (([(0, c7)] : List (Nat × List Int)).map encW)) = true := flat_shaped (n := 3) flat_w (by decide)
  refine ⟨_, _, t12.dp, e12.dp, sh, sh, ?_⟩
  rw [shaped_eqv sh]
  exact k _
end
section
theorem all_mk {l : PySem.W.OpenLaw} {w : World} {K : PySem.W.Frag} {h : Heap} {mg : Str → Option Value} {fa : Addr} (X : K.In h) (G : h.Ns mainGlobals mg) (hfa : mg "law" = some (.ref fa))
    {f0 : Addr} {f1 : Addr} {f2 : Addr} {f3 : Addr} {f4 : Addr} {f5 : Addr} {f6 : Addr} {f7 : Addr} {f8 : Addr} {f9 : Addr} {f10 : Addr} {f11 : Addr} {f12 : Addr} {f13 : Addr} {f14 : Addr} {f15 : Addr} {f16 : Addr} {f17 : Addr} {f18 : Addr} {f19 : Addr} {f20 : Addr}
    {od0 an0 : Option Addr} {sl0 : Array (Option Value)} {oc0 kV0 dc0 pm0 cd0 ct0 : Value}
    (a0 : PySem.W.nsIn K mainGlobals "is_text" = some (some (.ref f0))) (l0 : K.lookup f0 = some ⟨oc0, od0, .func (PySem.W.fnOf "is_text" "is_text" (defArgs s_is_text) (defBody s_is_text) (defScope s_is_text) .none kV0 dc0 pm0 an0 cd0 ct0), sl0⟩) (c0 : PySem.W.codeIn K cd0 "is_text" = true) (k0 : PySem.W.keepIn K (.ref f0) = true)
    {od1 an1 : Option Addr} {sl1 : Array (Option Value)} {oc1 kV1 dc1 pm1 cd1 ct1 : Value}
    (a1 : PySem.W.nsIn K mainGlobals "check_text" = some (some (.ref f1))) (l1 : K.lookup f1 = some ⟨oc1, od1, .func (PySem.W.fnOf "check_text" "check_text" (defArgs s_check_text) (defBody s_check_text) (defScope s_check_text) .none kV1 dc1 pm1 an1 cd1 ct1), sl1⟩) (c1 : PySem.W.codeIn K cd1 "check_text" = true) (k1 : PySem.W.keepIn K (.ref f1) = true)
    {od2 an2 : Option Addr} {sl2 : Array (Option Value)} {oc2 kV2 dc2 pm2 cd2 ct2 : Value}
    (a2 : PySem.W.nsIn K mainGlobals "digits_cells" = some (some (.ref f2))) (l2 : K.lookup f2 = some ⟨oc2, od2, .func (PySem.W.fnOf "digits_cells" "digits_cells" (defArgs s_digits_cells) (defBody s_digits_cells) (defScope s_digits_cells) .none kV2 dc2 pm2 an2 cd2 ct2), sl2⟩) (c2 : PySem.W.codeIn K cd2 "digits_cells" = true) (k2 : PySem.W.keepIn K (.ref f2) = true)
    {od3 an3 : Option Addr} {sl3 : Array (Option Value)} {oc3 kV3 dc3 pm3 cd3 ct3 : Value}
    (a3 : PySem.W.nsIn K mainGlobals "cells_from" = some (some (.ref f3))) (l3 : K.lookup f3 = some ⟨oc3, od3, .func (PySem.W.fnOf "cells_from" "cells_from" (defArgs s_cells_from) (defBody s_cells_from) (defScope s_cells_from) .none kV3 dc3 pm3 an3 cd3 ct3), sl3⟩) (c3 : PySem.W.codeIn K cd3 "cells_from" = true) (k3 : PySem.W.keepIn K (.ref f3) = true)
    {od4 an4 : Option Addr} {sl4 : Array (Option Value)} {oc4 kV4 dc4 pm4 cd4 ct4 : Value}
    (a4 : PySem.W.nsIn K mainGlobals "windows" = some (some (.ref f4))) (l4 : K.lookup f4 = some ⟨oc4, od4, .func (PySem.W.fnOf "windows" "windows" (defArgs s_windows) (defBody s_windows) (defScope s_windows) .none kV4 dc4 pm4 an4 cd4 ct4), sl4⟩) (c4 : PySem.W.codeIn K cd4 "windows" = true) (k4 : PySem.W.keepIn K (.ref f4) = true)
    {od5 an5 : Option Addr} {sl5 : Array (Option Value)} {oc5 kV5 dc5 pm5 cd5 ct5 : Value}
    (a5 : PySem.W.nsIn K mainGlobals "standing" = some (some (.ref f5))) (l5 : K.lookup f5 = some ⟨oc5, od5, .func (PySem.W.fnOf "standing" "standing" (defArgs s_standing) (defBody s_standing) (defScope s_standing) .none kV5 dc5 pm5 an5 cd5 ct5), sl5⟩) (c5 : PySem.W.codeIn K cd5 "standing" = true) (k5 : PySem.W.keepIn K (.ref f5) = true)
    {od6 an6 : Option Addr} {sl6 : Array (Option Value)} {oc6 kV6 dc6 pm6 cd6 ct6 : Value}
    (a6 : PySem.W.nsIn K mainGlobals "windows_across" = some (some (.ref f6))) (l6 : K.lookup f6 = some ⟨oc6, od6, .func (PySem.W.fnOf "windows_across" "windows_across" (defArgs s_windows_across) (defBody s_windows_across) (defScope s_windows_across) .none kV6 dc6 pm6 an6 cd6 ct6), sl6⟩) (c6 : PySem.W.codeIn K cd6 "windows_across" = true) (k6 : PySem.W.keepIn K (.ref f6) = true)
    {od7 an7 : Option Addr} {sl7 : Array (Option Value)} {oc7 kV7 dc7 pm7 cd7 ct7 : Value}
    (a7 : PySem.W.nsIn K mainGlobals "_law_tray" = some (some (.ref f7))) (l7 : K.lookup f7 = some ⟨oc7, od7, .func (PySem.W.fnOf "_law_tray" "_law_tray" (defArgs s_law_tray) (defBody s_law_tray) (defScope s_law_tray) .none kV7 dc7 pm7 an7 cd7 ct7), sl7⟩) (c7 : PySem.W.codeIn K cd7 "_law_tray" = true) (k7 : PySem.W.keepIn K (.ref f7) = true)
    {od8 an8 : Option Addr} {sl8 : Array (Option Value)} {oc8 kV8 dc8 pm8 cd8 ct8 : Value}
    (a8 : PySem.W.nsIn K mainGlobals "_law_pluck" = some (some (.ref f8))) (l8 : K.lookup f8 = some ⟨oc8, od8, .func (PySem.W.fnOf "_law_pluck" "_law_pluck" (defArgs s_law_pluck) (defBody s_law_pluck) (defScope s_law_pluck) .none kV8 dc8 pm8 an8 cd8 ct8), sl8⟩) (c8 : PySem.W.codeIn K cd8 "_law_pluck" = true) (k8 : PySem.W.keepIn K (.ref f8) = true)
    {od9 an9 : Option Addr} {sl9 : Array (Option Value)} {oc9 kV9 dc9 pm9 cd9 ct9 : Value}
    (a9 : PySem.W.nsIn K mainGlobals "_law_some" = some (some (.ref f9))) (l9 : K.lookup f9 = some ⟨oc9, od9, .func (PySem.W.fnOf "_law_some" "_law_some" (defArgs s_law_some) (defBody s_law_some) (defScope s_law_some) .none kV9 dc9 pm9 an9 cd9 ct9), sl9⟩) (c9 : PySem.W.codeIn K cd9 "_law_some" = true) (k9 : PySem.W.keepIn K (.ref f9) = true)
    {od10 an10 : Option Addr} {sl10 : Array (Option Value)} {oc10 kV10 dc10 pm10 cd10 ct10 : Value}
    (a10 : PySem.W.nsIn K mainGlobals "_law_three" = some (some (.ref f10))) (l10 : K.lookup f10 = some ⟨oc10, od10, .func (PySem.W.fnOf "_law_three" "_law_three" (defArgs s_law_three) (defBody s_law_three) (defScope s_law_three) .none kV10 dc10 pm10 an10 cd10 ct10), sl10⟩) (c10 : PySem.W.codeIn K cd10 "_law_three" = true) (k10 : PySem.W.keepIn K (.ref f10) = true)
    {od11 an11 : Option Addr} {sl11 : Array (Option Value)} {oc11 kV11 dc11 pm11 cd11 ct11 : Value}
    (a11 : PySem.W.nsIn K mainGlobals "_law_told" = some (some (.ref f11))) (l11 : K.lookup f11 = some ⟨oc11, od11, .func (PySem.W.fnOf "_law_told" "_law_told" (defArgs s_law_told) (defBody s_law_told) (defScope s_law_told) .none kV11 dc11 pm11 an11 cd11 ct11), sl11⟩) (c11 : PySem.W.codeIn K cd11 "_law_told" = true) (k11 : PySem.W.keepIn K (.ref f11) = true)
    {od12 an12 : Option Addr} {sl12 : Array (Option Value)} {oc12 kV12 dc12 pm12 cd12 ct12 : Value}
    (a12 : PySem.W.nsIn K mainGlobals "_law_window" = some (some (.ref f12))) (l12 : K.lookup f12 = some ⟨oc12, od12, .func (PySem.W.fnOf "_law_window" "_law_window" (defArgs s_law_window) (defBody s_law_window) (defScope s_law_window) .none kV12 dc12 pm12 an12 cd12 ct12), sl12⟩) (c12 : PySem.W.codeIn K cd12 "_law_window" = true) (k12 : PySem.W.keepIn K (.ref f12) = true)
    {od13 an13 : Option Addr} {sl13 : Array (Option Value)} {oc13 kV13 dc13 pm13 cd13 ct13 : Value}
    (a13 : PySem.W.nsIn K mainGlobals "_law_windows" = some (some (.ref f13))) (l13 : K.lookup f13 = some ⟨oc13, od13, .func (PySem.W.fnOf "_law_windows" "_law_windows" (defArgs s_law_windows) (defBody s_law_windows) (defScope s_law_windows) .none kV13 dc13 pm13 an13 cd13 ct13), sl13⟩) (c13 : PySem.W.codeIn K cd13 "_law_windows" = true) (k13 : PySem.W.keepIn K (.ref f13) = true)
    {od14 an14 : Option Addr} {sl14 : Array (Option Value)} {oc14 kV14 dc14 pm14 cd14 ct14 : Value}
    (a14 : PySem.W.nsIn K mainGlobals "_law_cells" = some (some (.ref f14))) (l14 : K.lookup f14 = some ⟨oc14, od14, .func (PySem.W.fnOf "_law_cells" "_law_cells" (defArgs s_law_cells) (defBody s_law_cells) (defScope s_law_cells) .none kV14 dc14 pm14 an14 cd14 ct14), sl14⟩) (c14 : PySem.W.codeIn K cd14 "_law_cells" = true) (k14 : PySem.W.keepIn K (.ref f14) = true)
    {od15 an15 : Option Addr} {sl15 : Array (Option Value)} {oc15 kV15 dc15 pm15 cd15 ct15 : Value}
    (a15 : PySem.W.nsIn K mainGlobals "_law_bit" = some (some (.ref f15))) (l15 : K.lookup f15 = some ⟨oc15, od15, .func (PySem.W.fnOf "_law_bit" "_law_bit" (defArgs s_law_bit) (defBody s_law_bit) (defScope s_law_bit) .none kV15 dc15 pm15 an15 cd15 ct15), sl15⟩) (c15 : PySem.W.codeIn K cd15 "_law_bit" = true) (k15 : PySem.W.keepIn K (.ref f15) = true)
    {od16 an16 : Option Addr} {sl16 : Array (Option Value)} {oc16 kV16 dc16 pm16 cd16 ct16 : Value}
    (a16 : PySem.W.nsIn K mainGlobals "_law_drawn" = some (some (.ref f16))) (l16 : K.lookup f16 = some ⟨oc16, od16, .func (PySem.W.fnOf "_law_drawn" "_law_drawn" (defArgs s_law_drawn) (defBody s_law_drawn) (defScope s_law_drawn) .none kV16 dc16 pm16 an16 cd16 ct16), sl16⟩) (c16 : PySem.W.codeIn K cd16 "_law_drawn" = true) (k16 : PySem.W.keepIn K (.ref f16) = true)
    {od17 an17 : Option Addr} {sl17 : Array (Option Value)} {oc17 kV17 dc17 pm17 cd17 ct17 : Value}
    (a17 : PySem.W.nsIn K mainGlobals "_law_joint_right" = some (some (.ref f17))) (l17 : K.lookup f17 = some ⟨oc17, od17, .func (PySem.W.fnOf "_law_joint_right" "_law_joint_right" (defArgs s_law_joint_right) (defBody s_law_joint_right) (defScope s_law_joint_right) .none kV17 dc17 pm17 an17 cd17 ct17), sl17⟩) (c17 : PySem.W.codeIn K cd17 "_law_joint_right" = true) (k17 : PySem.W.keepIn K (.ref f17) = true)
    {od18 an18 : Option Addr} {sl18 : Array (Option Value)} {oc18 kV18 dc18 pm18 cd18 ct18 : Value}
    (a18 : PySem.W.nsIn K mainGlobals "_law_are_apart" = some (some (.ref f18))) (l18 : K.lookup f18 = some ⟨oc18, od18, .func (PySem.W.fnOf "_law_are_apart" "_law_are_apart" (defArgs s_law_are_apart) (defBody s_law_are_apart) (defScope s_law_are_apart) .none kV18 dc18 pm18 an18 cd18 ct18), sl18⟩) (c18 : PySem.W.codeIn K cd18 "_law_are_apart" = true) (k18 : PySem.W.keepIn K (.ref f18) = true)
    {od19 an19 : Option Addr} {sl19 : Array (Option Value)} {oc19 kV19 dc19 pm19 cd19 ct19 : Value}
    (a19 : PySem.W.nsIn K mainGlobals "_law_right" = some (some (.ref f19))) (l19 : K.lookup f19 = some ⟨oc19, od19, .func (PySem.W.fnOf "_law_right" "_law_right" (defArgs s_law_right) (defBody s_law_right) (defScope s_law_right) .none kV19 dc19 pm19 an19 cd19 ct19), sl19⟩) (c19 : PySem.W.codeIn K cd19 "_law_right" = true) (k19 : PySem.W.keepIn K (.ref f19) = true)
    {od20 an20 : Option Addr} {sl20 : Array (Option Value)} {oc20 kV20 dc20 pm20 cd20 ct20 : Value}
    (a20 : PySem.W.nsIn K mainGlobals "law" = some (some (.ref f20))) (l20 : K.lookup f20 = some ⟨oc20, od20, .func (PySem.W.fnOf "law" "law" (defArgs s_law) (defBody s_law) (defScope s_law) .none kV20 dc20 pm20 an20 cd20 ct20), sl20⟩) (c20 : PySem.W.codeIn K cd20 "law" = true) (k20 : PySem.W.keepIn K (.ref f20) = true)
    (z_abs : PySem.W.nsIn K mainGlobals "abs" = some none)
    (z_int : PySem.W.nsIn K mainGlobals "int" = some none)
    (z_isinstance : PySem.W.nsIn K mainGlobals "isinstance" = some none)
    (z_len : PySem.W.nsIn K mainGlobals "len" = some none)
    (z_list : PySem.W.nsIn K mainGlobals "list" = some none)
    (z_max : PySem.W.nsIn K mainGlobals "max" = some none)
    (z_min : PySem.W.nsIn K mainGlobals "min" = some none)
    (z_range : PySem.W.nsIn K mainGlobals "range" = some none)
    (z_sorted : PySem.W.nsIn K mainGlobals "sorted" = some none)
    (z_str : PySem.W.nsIn K mainGlobals "str" = some none)
    (z_tuple : PySem.W.nsIn K mainGlobals "tuple" = some none)
    (z_zip : PySem.W.nsIn K mainGlobals "zip" = some none)
    {t_CELL_DIGITS : Tok} (y_CELL_DIGITS : PySem.W.nsIn K mainGlobals "CELL_DIGITS" = some (some (.int 3 t_CELL_DIGITS)))
    {t_MAX_CELL : Tok} (y_MAX_CELL : PySem.W.nsIn K mainGlobals "MAX_CELL" = some (some (.int 996 t_MAX_CELL)))
    {t_MOST_SIGNS : Tok} (y_MOST_SIGNS : PySem.W.nsIn K mainGlobals "MOST_SIGNS" = some (some (.int 60000 t_MOST_SIGNS)))
    {t_WINDOW_SIGNS : Tok} (y_WINDOW_SIGNS : PySem.W.nsIn K mainGlobals "WINDOW_SIGNS" = some (some (.int 122 t_WINDOW_SIGNS)))
    : ∃ fd : FuncData, (∀ (s : Shared) (v : Value), BindsTo s fd ⟨[v], []⟩ [("script", v)]) ∧ ∀ base : Heap, K.In base → base.Ns mainGlobals mg → FnOk l.prog w K mg base CX0 7 fa fd ["script"] (sp_law K) := by
  have e := hfa.symm.trans (PySem.W.mg_of X G a20)
  cases e
  have F0 := fun_mk (st := s_is_text) l0 c0 k0
  have F1 := fun_mk (st := s_check_text) l1 c1 k1
  have F2 := fun_mk (st := s_digits_cells) l2 c2 k2
  have F3 := fun_mk (st := s_cells_from) l3 c3 k3
  have F4 := fun_mk (st := s_windows) l4 c4 k4
  have F5 := fun_mk (st := s_standing) l5 c5 k5
  have F6 := fun_mk (st := s_windows_across) l6 c6 k6
  have F7 := fun_mk (st := s_law_tray) l7 c7 k7
  have F8 := fun_mk (st := s_law_pluck) l8 c8 k8
  have F9 := fun_mk (st := s_law_some) l9 c9 k9
  have F10 := fun_mk (st := s_law_three) l10 c10 k10
  have F11 := fun_mk (st := s_law_told) l11 c11 k11
  have F12 := fun_mk (st := s_law_window) l12 c12 k12
  have F13 := fun_mk (st := s_law_windows) l13 c13 k13
  have F14 := fun_mk (st := s_law_cells) l14 c14 k14
  have F15 := fun_mk (st := s_law_bit) l15 c15 k15
  have F16 := fun_mk (st := s_law_drawn) l16 c16 k16
  have F17 := fun_mk (st := s_law_joint_right) l17 c17 k17
  have F18 := fun_mk (st := s_law_are_apart) l18 c18 k18
  have F19 := fun_mk (st := s_law_right) l19 c19 k19
  have F20 := fun_mk (st := s_law) l20 c20 k20
  have T : Txt K mg ⟨f0, f1, f2, f3, f4, f5, f6, f7, f8, f9, f10, f11, f12, f13, f14, f15, f16, f17, f18, f19, fa⟩ ⟨_, _, _, _, _, _, _, _, _, _, _, _, _, _, _, _, _, _, _, _, _⟩ := {
    b_abs := PySem.W.mg_none_of X G z_abs
    b_int := PySem.W.mg_none_of X G z_int
    b_isinstance := PySem.W.mg_none_of X G z_isinstance
    b_len := PySem.W.mg_none_of X G z_len
    b_list := PySem.W.mg_none_of X G z_list
    b_max := PySem.W.mg_none_of X G z_max
    b_min := PySem.W.mg_none_of X G z_min
    b_range := PySem.W.mg_none_of X G z_range
    b_sorted := PySem.W.mg_none_of X G z_sorted
    b_str := PySem.W.mg_none_of X G z_str
    b_tuple := PySem.W.mg_none_of X G z_tuple
    b_zip := PySem.W.mg_none_of X G z_zip
    c_CELL_DIGITS := ⟨_, PySem.W.mg_of X G y_CELL_DIGITS⟩
    c_MAX_CELL := ⟨_, PySem.W.mg_of X G y_MAX_CELL⟩
    c_MOST_SIGNS := ⟨_, PySem.W.mg_of X G y_MOST_SIGNS⟩
    c_WINDOW_SIGNS := ⟨_, PySem.W.mg_of X G y_WINDOW_SIGNS⟩
    g_is_text := PySem.W.mg_of X G a0
    k_is_text := k0
    F_is_text := F0
    B_is_text := F0.binds (ps := ["value"]) fun _ _ _ _ _ _ us hl => match us, hl with | [_], _ => rfl
    g_check_text := PySem.W.mg_of X G a1
    k_check_text := k1
    F_check_text := F1
    B_check_text := F1.binds (ps := ["text"]) fun _ _ _ _ _ _ us hl => match us, hl with | [_], _ => rfl
    g_digits_cells := PySem.W.mg_of X G a2
    k_digits_cells := k2
    F_digits_cells := F2
    B_digits_cells := F2.binds (ps := ["signs"]) fun _ _ _ _ _ _ us hl => match us, hl with | [_], _ => rfl
    g_cells_from := PySem.W.mg_of X G a3
    k_cells_from := k3
    F_cells_from := F3
    B_cells_from := F3.binds (ps := ["text", "place"]) fun _ _ _ _ _ _ us hl => match us, hl with | [_, _], _ => rfl
    g_windows := PySem.W.mg_of X G a4
    k_windows := k4
    F_windows := F4
    B_windows := F4.binds (ps := ["text"]) fun _ _ _ _ _ _ us hl => match us, hl with | [_], _ => rfl
    g_standing := PySem.W.mg_of X G a5
    k_standing := k5
    F_standing := F5
    B_standing := F5.binds (ps := ["text", "begin", "end"]) fun _ _ _ _ _ _ us hl => match us, hl with | [_, _, _], _ => rfl
    g_windows_across := PySem.W.mg_of X G a6
    k_windows_across := k6
    F_windows_across := F6
    B_windows_across := F6.binds (ps := ["one", "other"]) fun _ _ _ _ _ _ us hl => match us, hl with | [_, _], _ => rfl
    g_law_tray := PySem.W.mg_of X G a7
    k_law_tray := k7
    F_law_tray := F7
    B_law_tray := F7.binds (ps := ["script", "spot"]) fun _ _ _ _ _ _ us hl => match us, hl with | [_, _], _ => rfl
    g_law_pluck := PySem.W.mg_of X G a8
    k_law_pluck := k8
    F_law_pluck := F8
    B_law_pluck := F8.binds (ps := ["tray", "total"]) fun _ _ _ _ _ _ us hl => match us, hl with | [_, _], _ => rfl
    g_law_some := PySem.W.mg_of X G a9
    k_law_some := k9
    F_law_some := F9
    B_law_some := F9.binds (ps := ["tray", "items"]) fun _ _ _ _ _ _ us hl => match us, hl with | [_, _], _ => rfl
    g_law_three := PySem.W.mg_of X G a10
    k_law_three := k10
    F_law_three := F10
    B_law_three := F10.binds (ps := ["cell"]) fun _ _ _ _ _ _ us hl => match us, hl with | [_], _ => rfl
    g_law_told := PySem.W.mg_of X G a11
    k_law_told := k11
    F_law_told := F11
    B_law_told := F11.binds (ps := ["digits"]) fun _ _ _ _ _ _ us hl => match us, hl with | [_], _ => rfl
    g_law_window := PySem.W.mg_of X G a12
    k_law_window := k12
    F_law_window := F12
    B_law_window := F12.binds (ps := ["cells"]) fun _ _ _ _ _ _ us hl => match us, hl with | [_], _ => rfl
    g_law_windows := PySem.W.mg_of X G a13
    k_law_windows := k13
    F_law_windows := F13
    B_law_windows := F13.binds (ps := ["text"]) fun _ _ _ _ _ _ us hl => match us, hl with | [_], _ => rfl
    g_law_cells := PySem.W.mg_of X G a14
    k_law_cells := k14
    F_law_cells := F14
    B_law_cells := F14.binds (ps := ["tray"]) fun _ _ _ _ _ _ us hl => match us, hl with | [_], _ => rfl
    g_law_bit := PySem.W.mg_of X G a15
    k_law_bit := k15
    F_law_bit := F15
    B_law_bit := F15.binds (ps := ["tray"]) fun _ _ _ _ _ _ us hl => match us, hl with | [_], _ => rfl
    g_law_drawn := PySem.W.mg_of X G a16
    k_law_drawn := k16
    F_law_drawn := F16
    B_law_drawn := F16.binds (ps := ["tray", "many"]) fun _ _ _ _ _ _ us hl => match us, hl with | [_, _], _ => rfl
    g_law_joint_right := PySem.W.mg_of X G a17
    k_law_joint_right := k17
    F_law_joint_right := F17
    B_law_joint_right := F17.binds (ps := ["one", "other"]) fun _ _ _ _ _ _ us hl => match us, hl with | [_, _], _ => rfl
    g_law_are_apart := PySem.W.mg_of X G a18
    k_law_are_apart := k18
    F_law_are_apart := F18
    B_law_are_apart := F18.binds (ps := ["text"]) fun _ _ _ _ _ _ us hl => match us, hl with | [_], _ => rfl
    g_law_right := PySem.W.mg_of X G a19
    k_law_right := k19
    F_law_right := F19
    B_law_right := F19.binds (ps := ["tray"]) fun _ _ _ _ _ _ us hl => match us, hl with | [_], _ => rfl
    g_law := PySem.W.mg_of X G a20
    k_law := k20
    F_law := F20
    B_law := F20.binds (ps := ["script"]) fun _ _ _ _ _ _ us hl => match us, hl with | [_], _ => rfl
  }
  refine ⟨PySem.W.fnOf "law" "law" (defArgs s_law) (defBody s_law) (defScope s_law) .none kV20 dc20 pm20 an20 cd20 ct20, fun s v => .of_eq rfl, fun base _ _ => ?_⟩
  have G_is_text := ok_is_text (P := l.prog) (w := w) (base := base) T 
  have G_digits_cells := ok_digits_cells (P := l.prog) (w := w) (base := base) T 
  have G_law_tray := ok_law_tray (P := l.prog) (w := w) (base := base) T 
  have G_law_pluck := ok_law_pluck (P := l.prog) (w := w) (base := base) T 
  have G_law_three := ok_law_three (P := l.prog) (w := w) (base := base) T 
  have G_law_told := ok_law_told (P := l.prog) (w := w) (base := base) T 
  have G_check_text := ok_check_text (P := l.prog) (w := w) (base := base) T G_is_text
  have G_cells_from := ok_cells_from (P := l.prog) (w := w) (base := base) T G_digits_cells
  have G_law_some := ok_law_some (P := l.prog) (w := w) (base := base) T G_law_pluck
  have G_law_window := ok_law_window (P := l.prog) (w := w) (base := base) T G_law_three
  have G_law_windows := ok_law_windows (P := l.prog) (w := w) (base := base) T G_law_told
  have G_standing := ok_standing (P := l.prog) (w := w) (base := base) T G_cells_from
  have G_law_cells := ok_law_cells (P := l.prog) (w := w) (base := base) T G_law_pluck G_law_some
  have G_windows := ok_windows (P := l.prog) (w := w) (base := base) T G_check_text G_standing
  have G_windows_across := ok_windows_across (P := l.prog) (w := w) (base := base) T G_check_text G_standing
  have G_law_bit := ok_law_bit (P := l.prog) (w := w) (base := base) T G_law_cells G_law_pluck G_law_some G_law_window
  have G_law_drawn := ok_law_drawn (P := l.prog) (w := w) (base := base) T G_law_bit G_law_pluck
  have G_law_are_apart := ok_law_are_apart (P := l.prog) (w := w) (base := base) T G_windows
  have G_law_joint_right := ok_law_joint_right (P := l.prog) (w := w) (base := base) T G_law_windows G_windows G_windows_across
  have G_law_right := ok_law_right (P := l.prog) (w := w) (base := base) T G_law_are_apart G_law_cells G_law_drawn G_law_joint_right G_law_pluck G_law_window
  have G_law := ok_law (P := l.prog) (w := w) (base := base) T G_law_right G_law_tray G_law_window G_windows_across
  exact G_law
theorem walk {l : PySem.W.OpenLaw} {q : Program} {loose : List Str} {XP : (Str → Option Value) → Heap → Prop} {YP : World → Heap → Prop} {d : DefRec} {K : Params → PySem.W.Frag} (hn : l.most = some 63) (hdf : d.params.defaults = [])
    (hY : ∀ (w : World) (h : Heap), YP w h → (K w.params).In h)
    (F : ∀ (w : World) (mg : Str → Option Value) (fa : Addr) (h : Heap), (K w.params).In h → h.Ns mainGlobals mg → mg d.name = some (.ref fa) →
      ∃ fd : FuncData, (∀ (s : Shared) (u : Value), BindsTo s fd ⟨[u], []⟩ [("script", u)]) ∧ ∀ base : Heap, (K w.params).In base → base.Ns mainGlobals mg → FnOk l.prog w (K w.params) mg base CX0 7 fa fd ["script"] (sp_law (K w.params))) :
    PySem.W.WalkO q loose XP YP l.row.toRowW d [] (fun f vs => PySem.call f vs) :=
  L2.walk_of (n := 63) (k := 7) (x := "script") (CX := fun _ => CX0) (sp := fun w => sp_law (K w.params)) hn (by decide) hdf ⟨rfl, by decide, by decide⟩ hY F (fun _ _ a ns hl _ hS => ⟨a, ns, rfl, hS, hl, fun _ => rfl⟩) fun _ _ _ _ _ z => z
end
end My
open PySem PySem.W PyProof.Rows
set_option maxRecDepth 100000 in
set_option maxHeartbeats 0 in
theorem PySem.Challenge.cw_stillread_k08_whole_windows_across_joint_holds : PySem.Challenge.rw_stillread_k08_whole_windows_across_joint.Holds := by
  w_on; o_law; k_head; (case hw => w_witness2)
  k_fill
  refine My.walk (l := PySem.Challenge.rw_stillread_k08_whole_windows_across_joint) rfl rfl (fun w h Y => PySem.W.kIn_of Y) ?F
  case F =>
    intro w mg fa h KX G hmg
    refine' My.all_mk KX G hmg ?a0 ?l0 ?c0 ?k0 ?a1 ?l1 ?c1 ?k1 ?a2 ?l2 ?c2 ?k2 ?a3 ?l3 ?c3 ?k3 ?a4 ?l4 ?c4 ?k4 ?a5 ?l5 ?c5 ?k5 ?a6 ?l6 ?c6 ?k6 ?a7 ?l7 ?c7 ?k7 ?a8 ?l8 ?c8 ?k8 ?a9 ?l9 ?c9 ?k9 ?a10 ?l10 ?c10 ?k10 ?a11 ?l11 ?c11 ?k11 ?a12 ?l12 ?c12 ?k12 ?a13 ?l13 ?c13 ?k13 ?a14 ?l14 ?c14 ?k14 ?a15 ?l15 ?c15 ?k15 ?a16 ?l16 ?c16 ?k16 ?a17 ?l17 ?c17 ?k17 ?a18 ?l18 ?c18 ?k18 ?a19 ?l19 ?c19 ?k19 ?a20 ?l20 ?c20 ?k20 ?z_abs ?z_int ?z_isinstance ?z_len ?z_list ?z_max ?z_min ?z_range ?z_sorted ?z_str ?z_tuple ?z_zip ?y_CELL_DIGITS ?y_MAX_CELL ?y_MOST_SIGNS ?y_WINDOW_SIGNS
    (case a0 => k_is)
    (case l0 => k_is)
    (case c0 => k_is)
    (case k0 => k_is)
    (case a1 => k_is)
    (case l1 => k_is)
    (case c1 => k_is)
    (case k1 => k_is)
    (case a2 => k_is)
    (case l2 => k_is)
    (case c2 => k_is)
    (case k2 => k_is)
    (case a3 => k_is)
    (case l3 => k_is)
    (case c3 => k_is)
    (case k3 => k_is)
    (case a4 => k_is)
    (case l4 => k_is)
    (case c4 => k_is)
    (case k4 => k_is)
    (case a5 => k_is)
    (case l5 => k_is)
    (case c5 => k_is)
    (case k5 => k_is)
    (case a6 => k_is)
    (case l6 => k_is)
    (case c6 => k_is)
    (case k6 => k_is)
    (case a7 => k_is)
    (case l7 => k_is)
    (case c7 => k_is)
    (case k7 => k_is)
    (case a8 => k_is)
    (case l8 => k_is)
    (case c8 => k_is)
    (case k8 => k_is)
    (case a9 => k_is)
    (case l9 => k_is)
    (case c9 => k_is)
    (case k9 => k_is)
    (case a10 => k_is)
    (case l10 => k_is)
    (case c10 => k_is)
    (case k10 => k_is)
    (case a11 => k_is)
    (case l11 => k_is)
    (case c11 => k_is)
    (case k11 => k_is)
    (case a12 => k_is)
    (case l12 => k_is)
    (case c12 => k_is)
    (case k12 => k_is)
    (case a13 => k_is)
    (case l13 => k_is)
    (case c13 => k_is)
    (case k13 => k_is)
    (case a14 => k_is)
    (case l14 => k_is)
    (case c14 => k_is)
    (case k14 => k_is)
    (case a15 => k_is)
    (case l15 => k_is)
    (case c15 => k_is)
    (case k15 => k_is)
    (case a16 => k_is)
    (case l16 => k_is)
    (case c16 => k_is)
    (case k16 => k_is)
    (case a17 => k_is)
    (case l17 => k_is)
    (case c17 => k_is)
    (case k17 => k_is)
    (case a18 => k_is)
    (case l18 => k_is)
    (case c18 => k_is)
    (case k18 => k_is)
    (case a19 => k_is)
    (case l19 => k_is)
    (case c19 => k_is)
    (case k19 => k_is)
    (case a20 => k_is)
    (case l20 => k_is)
    (case c20 => k_is)
    (case k20 => k_is)
    (case z_abs => k_is)
    (case z_int => k_is)
    (case z_isinstance => k_is)
    (case z_len => k_is)
    (case z_list => k_is)
    (case z_max => k_is)
    (case z_min => k_is)
    (case z_range => k_is)
    (case z_sorted => k_is)
    (case z_str => k_is)
    (case z_tuple => k_is)
    (case z_zip => k_is)
    (case y_CELL_DIGITS => k_is)
    (case y_MAX_CELL => k_is)
    (case y_MOST_SIGNS => k_is)
    (case y_WINDOW_SIGNS => k_is)
