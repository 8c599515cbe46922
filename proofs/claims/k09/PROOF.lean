import PyProof.Rows.All
import Wide.All
import OpenK.AllK
import Wide.FinOn
import HandS.ForMost
import HandS.StrMore
import HandS.IsInst
import HandS.Wide
import HandS.TupMul
import HandS.Walk
import KE.SortData
import KE.IntTextLaws
import PyProof.StrBlock2
import KE.KxField
import HandS.Style
import HandS.FStr
import PyProof.Rows.StrJoinRep
import PySem.Challenge.RW_stillread_k09_whole_digits_of_cells
set_option Elab.async false
set_option maxRecDepth 100000
set_option maxHeartbeats 4000000
namespace My
open PySem L2
/-! ### heaps -/
theorem Same.new {H : Hp} {p : Addr} {o : HO} (h : H p = none) : Same H (upd H p o) := fun b u e => by
  rw [upd_ne (ne_of_none e h)]
  exact e
/-- tuples stand as they stood -/
def Kt (H H' : Hp) : Prop := ∀ a xs, Rd H a (.tup xs) → Rd H' a (.tup xs)
theorem Kt.refl (H : Hp) : Kt H H := fun _ _ h => h
theorem Kt.trans {H H1 H2 : Hp} (a : Kt H H1) (b : Kt H1 H2) : Kt H H2 := fun x xs h => b x xs (a x xs h)
theorem Kt.of {H H' : Hp} (s : Same H H') : Kt H H' := fun a xs h => by
  rcases h with h | ⟨o, h⟩
  · exact .inl (s _ _ h)
  · exact .inr ⟨o, s _ _ h⟩
/-- a list (or nothing) at p may change -/
theorem Kt.lst {H : Hp} {p : Addr} {o : HO} (h : H p = none ∨ ∃ xs, H p = some (.lst xs)) : Kt H (upd H p o) := fun a xs r => by
  have ne : a ≠ p := by
    intro e
    subst e
    rcases h with h | ⟨ys, h⟩ <;> rcases r with r | ⟨_, r⟩ <;> rw [h] at r <;> cases r
  rcases r with r | ⟨ob, r⟩
  · exact .inl (by rw [upd_ne ne]; exact r)
  · exact .inr ⟨ob, by rw [upd_ne ne]; exact r⟩
theorem kt_t {K : PySem.W.Frag} {H H' : Hp} {a : Addr} {xs : List V} (k : Kt H H') (h : SqT K H a xs) : SqT K H' a xs := by
  rcases h with h | h
  · exact .inl (k _ _ h)
  · exact .inr h
/-- all but t as it was -/
def But (t : Addr) (H H' : Hp) : Prop := ∀ b o, b ≠ t → H b = some o → H' b = some o
theorem But.refl (t : Addr) (H : Hp) : But t H H := fun _ _ _ h => h
theorem But.trans {t : Addr} {H H1 H2 : Hp} (a : But t H H1) (b : But t H1 H2) : But t H H2 := fun c o n h => b c o n (a c o n h)
theorem But.of {t : Addr} {H H' : Hp} (s : Same H H') : But t H H' := fun b o _ h => s b o h
theorem But.upd {t : Addr} {H : Hp} {o : HO} : But t H (upd H t o) := fun b u n h => by
  rw [upd_ne n]; exact h
/-! ### data that never changes -/
mutual
inductive Tp (K : PySem.W.Frag) (H : Hp) : V → PyData → Prop
  | non : Tp K H .non .none
  | bl (b : Bool) : Tp K H (.bl b) (.bool b)
  | int (i : Int) : Tp K H (.int i) (.int i)
  | str (x : Str) : Tp K H (.str x) (.str x)
  | tup {a : Addr} {xs : List V} {ds : List PyData} : SqT K H a xs → TpAll K H xs ds → Tp K H (.ref a) (.tuple ds)
inductive TpAll (K : PySem.W.Frag) (H : Hp) : List V → List PyData → Prop
  | nil : TpAll K H [] []
  | cons {v : V} {vs : List V} {d : PyData} {ds : List PyData} : Tp K H v d → TpAll K H vs ds → TpAll K H (v :: vs) (d :: ds)
end
section
variable {K : PySem.W.Frag} {H H' : Hp}
mutual
theorem Tp.keep (k : Kt H H') : ∀ {d : PyData} {v : V}, Tp K H v d → Tp K H' v d
  | _, _, .non => .non
  | _, _, .bl b => .bl b
  | _, _, .int i => .int i
  | _, _, .str x => .str x
  | _, _, .tup h t => .tup (kt_t k h) (TpAll.keep k t)
theorem TpAll.keep (k : Kt H H') : ∀ {ds : List PyData} {vs : List V}, TpAll K H vs ds → TpAll K H' vs ds
  | _, _, .nil => .nil
  | _, _, .cons h t => .cons (Tp.keep k h) (TpAll.keep k t)
end
mutual
theorem Tp.dp : ∀ {d : PyData} {v : V}, Tp K H v d → Dp K H v d
  | _, _, .non => .non
  | _, _, .bl b => .bl b
  | _, _, .int i => .int i
  | _, _, .str x => .str x
  | _, _, .tup h t => .tup h (TpAll.dp t)
theorem TpAll.dp : ∀ {ds : List PyData} {vs : List V}, TpAll K H vs ds → DpAll K H vs ds
  | _, _, .nil => .nil
  | _, _, .cons h t => .cons (Tp.dp h) (TpAll.dp t)
end
theorem TpAll.snoc : ∀ {ds : List PyData} {vs : List V} {d : PyData} {v : V}, TpAll K H vs ds → Tp K H v d → TpAll K H (vs ++ [v]) (ds ++ [d])
  | _, _, _, _, .nil, h => .cons h .nil
  | _, _, _, _, .cons a t, h => .cons a (TpAll.snoc t h)
theorem TpAll.append : ∀ {ds es : List PyData} {vs us : List V}, TpAll K H vs ds → TpAll K H us es → TpAll K H (vs ++ us) (ds ++ es)
  | _, _, _, _, .nil, h => h
  | _, _, _, _, .cons a t, h => .cons a (TpAll.append t h)
theorem TpAll.length : ∀ {ds : List PyData} {vs : List V}, TpAll K H vs ds → vs.length = ds.length
  | _, _, .nil => rfl
  | _, _, .cons _ t => by simp [TpAll.length t]
theorem TpAll.ints : ∀ ns : List Int, TpAll K H (ns.map V.int) (ns.map PyData.int)
  | [] => .nil
  | n :: r => .cons (.int n) (TpAll.ints r)
theorem TpAll.get : ∀ {ds : List PyData} {vs : List V} {i : Nat} {v : V}, TpAll K H vs ds → vs[i]? = some v → ∃ d, ds[i]? = some d ∧ Tp K H v d
  | _, _, _, _, .nil, e => by simp at e
  | _, _, 0, _, .cons h _, e => by simp at e; subst e; exact ⟨_, rfl, h⟩
  | _, _, i + 1, _, .cons _ t, e => by
    obtain ⟨d, h1, h2⟩ := TpAll.get (i := i) t (by simpa using e)
    exact ⟨d, by simpa using h1, h2⟩
/-- a tuple of ints that is told by data -/
theorem TpAll.ints_of : ∀ {ns : List Int} {vs : List V}, TpAll K H vs (ns.map PyData.int) → vs = ns.map V.int
  | [], _, h => by cases h; rfl
  | n :: r, _, h => by
    cases h with
    | cons a t =>
      cases a
      rw [TpAll.ints_of t]
      rfl
theorem tp_ints {a : Addr} {ns : List Int} (h : SqT K H a (ns.map V.int)) : Tp K H (.ref a) (.tuple (ns.map PyData.int)) := .tup h (TpAll.ints ns)
theorem tp_new {p : Addr} {xs : List V} {ds : List PyData} (h : H p = none) (t : TpAll K H xs ds) : Tp K (upd H p (.tup xs)) (.ref p) (.tuple ds) :=
  .tup (SqT.of upd_same) (t.keep (Kt.of (Same.new h)))
theorem dp_lst {l : Addr} {xs : List V} {ds : List PyData} (h : H l = some (.lst xs)) (t : TpAll K H xs ds) : Dp K H (.ref l) (.list ds) := .lst (SqL.of h) t.dp
end
/-! ### data that can be compared -/
mutual
/-- no dict within, and at most n deep -/
def flatD : Nat → PyData → Bool
  | _, .none => true
  | _, .bool _ => true
  | _, .int _ => true
  | _, .str x => PyData.strOk x
  | n + 1, .list ds => flatAll n ds
  | n + 1, .tuple ds => flatAll n ds
  | _, _ => false
def flatAll : Nat → List PyData → Bool
  | _, [] => true
  | n, d :: ds => flatD n d && flatAll n ds
end
mutual
theorem flat_lay : ∀ (n : Nat) (d : PyData), flatD n d = true → d.canLay0 = true ∧ d.depth ≤ n
  | n, .none, _ => ⟨by simp [PyData.canLay0], by simp [PyData.depth]⟩
  | n, .bool _, _ => ⟨by simp [PyData.canLay0], by simp [PyData.depth]⟩
  | n, .int _, _ => ⟨by simp [PyData.canLay0], by simp [PyData.depth]⟩
  | n, .str _, h => ⟨by simpa [PyData.canLay0, flatD] using h, by simp [PyData.depth]⟩
  | n + 1, .list ds, h => by
    have h' : flatAll n ds = true := by simpa [flatD] using h
    have q := flatAll_lay n ds h'
    exact ⟨by simpa [PyData.canLay0] using q.1, by simp only [PyData.depth]; omega⟩
  | n + 1, .tuple ds, h => by
    have h' : flatAll n ds = true := by simpa [flatD] using h
    have q := flatAll_lay n ds h'
    exact ⟨by simpa [PyData.canLay0] using q.1, by simp only [PyData.depth]; omega⟩
  | 0, .list _, h => by simp [flatD] at h
  | 0, .tuple _, h => by simp [flatD] at h
  | 0, .dict _, h => by simp [flatD] at h
  | _ + 1, .dict _, h => by simp [flatD] at h
theorem flatAll_lay : ∀ (n : Nat) (ds : List PyData), flatAll n ds = true → PyData.canLayAll0 ds = true ∧ PyData.depthAll ds ≤ n
  | n, [], _ => ⟨by simp [PyData.canLayAll0], by simp [PyData.depthAll]⟩
  | n, d :: ds, h => by
    have h' : flatD n d = true ∧ flatAll n ds = true := by simpa [flatAll] using h
    have a := flat_lay n d h'.1
    have b := flatAll_lay n ds h'.2
    exact ⟨by simp [PyData.canLayAll0, a.1, b.1], by simp only [PyData.depthAll]; omega⟩
end
theorem flat_shaped {n : Nat} {d : PyData} (h : flatD n d = true) (hn : n ≤ 64) : SeqAt.shaped d = true := by
  have q := flat_lay n d h
  unfold SeqAt.shaped
  rw [q.1, decide_eq_true (Nat.le_trans q.2 hn)]
  rfl
theorem flatAll_iff {n : Nat} : ∀ {ds : List PyData}, flatAll n ds = true ↔ ∀ d ∈ ds, flatD n d = true
  | [] => by simp [flatAll]
  | d :: ds => by
    rw [flatAll, Bool.and_eq_true, flatAll_iff (n := n) (ds := ds)]
    simp
theorem flat_ints {n : Nat} (ns : List Int) : flatAll n (ns.map PyData.int) = true := flatAll_iff.mpr fun d hd => by
  obtain ⟨i, _, rfl⟩ := List.mem_map.mp hd
  cases n <;> rfl
theorem shaped_eqv {d : PyData} (h : SeqAt.shaped d = true) : PyData.eqv d d = true := SeqAt.eqv_refl d (SeqAt.canLay_of_shaped h)
/-! ### tests -/
theorem iteB {b : Bool} {A B : Prop} (h1 : b = true → A) (h2 : b = false → B) : if b = true then A else B := by
  cases b with
  | true => exact iteT (h1 rfl)
  | false => exact iteF (h2 rfl)
theorem sz {n : Nat} (h : n ≤ 1000000) : n ≤ sizeLine := Nat.le_trans h (by decide)
theorem szl {n : Nat} (h : n ≤ 1000000) : n < sizeLine := Nat.lt_of_le_of_lt h (by decide)
/-- a power of any size -/
theorem op_powW {X : Cx} : OpR X (binaryOp .Pow) (rI (fun i j => 0 ≤ j ∧ (Builtin.Int.intBits i : Int) * j ≤ 2 ^ 27) fun i j => .int (i ^ j.toNat)) := opI fun _ _ _ _ _ _ _ hc q => PyProof.Rows.pow_int hc.1 hc.2 q
/-! ### a while's test hands on whatever is wanted -/
def MonoE (t : TE) : Prop := ∀ σ H (Q Q' : VK), (∀ v H1, Q v H1 → Q' v H1) → t σ H Q → t σ H Q'
def MonoT (t : TT) : Prop := ∀ σ H (Q Q' : Bool → Hp → Prop), (∀ b H1, Q b H1 → Q' b H1) → t σ H Q → t σ H Q'
def MonoR (r : R2) : Prop := ∀ x y H (Q Q' : VK), (∀ v H1, Q v H1 → Q' v H1) → r x y H Q → r x y H Q'
theorem me_var {i : Nat} : MonoE (tVar i) := fun _ _ _ _ m ⟨v, e, h⟩ => ⟨v, e, m _ _ h⟩
theorem me_c {v : V} : MonoE (tC v) := fun _ _ _ _ m h => m _ _ h
theorem mr_I0 {g : Int → Int → V} : MonoR (rI0 g) := fun _ _ _ _ _ m ⟨i, j, a, b, h⟩ => ⟨i, j, a, b, m _ _ h⟩
theorem mr_I {C : Int → Int → Prop} {g : Int → Int → V} : MonoR (rI C g) := fun _ _ _ _ _ m ⟨i, j, a, b, c, h⟩ => ⟨i, j, a, b, c, m _ _ h⟩
theorem mr_eq : MonoR rEq := fun _ _ _ _ _ m ⟨a, h⟩ => ⟨a, m _ _ h⟩
theorem mr_ne : MonoR rNe := fun _ _ _ _ _ m ⟨a, h⟩ => ⟨a, m _ _ h⟩
theorem mr_ixL {K : PySem.W.Frag} : MonoR (rIxL K) := fun _ _ _ _ _ m ⟨p, xs, i, v, a, b, c, d, h⟩ => ⟨p, xs, i, v, a, b, c, d, m _ _ h⟩
theorem mr_neD {K : PySem.W.Frag} : MonoR (rNeD K) := fun _ _ _ _ _ m ⟨p, q, a, b, c, d, h⟩ => ⟨p, q, a, b, c, d, m _ _ h⟩
theorem me_op {r : R2} {ta tb : TE} (hr : MonoR r) (ha : MonoE ta) (hb : MonoE tb) : MonoE (tOp r ta tb) := fun σ H Q Q' m h =>
  ha σ H _ _ (fun x H1 h1 => hb σ H1 _ _ (fun y H2 h2 => hr x y H2 _ _ m h2) h1) h
theorem me_chain {r r' : R2} {ta tb tc : TE} (hr : MonoR r) (hr' : MonoR r') (ha : MonoE ta) (hb : MonoE tb) (hc : MonoE tc) : MonoE (tChain r r' ta tb tc) := fun σ H Q Q' m h =>
  ha σ H _ _ (fun x H1 h1 => hb σ H1 _ _ (fun y H2 h2 => hr x y H2 _ _ (fun z H3 ⟨k, e, h3⟩ => ⟨k, e, by
    cases k with
    | true => exact iteT (hc σ H3 _ _ (fun w H4 h4 => hr' y w H4 _ _ m h4) (by simpa using h3))
    | false => exact iteF (m _ _ (by simpa using h3))⟩) h2) h1) h
theorem mt_test {t : TE} (h : MonoE t) : MonoT (tTest t) := fun σ H _ _ m g => h σ H _ _ (fun _ _ ⟨k, e, q⟩ => ⟨k, e, m _ _ q⟩) g
theorem mt_B {t : TE} (h : MonoE t) : MonoT (tB t) := fun σ H _ _ m g => h σ H _ _ (fun _ _ ⟨k, e, q⟩ => ⟨k, e, m _ _ q⟩) g
theorem mt_and {t u : TT} (h : MonoT t) (g : MonoT u) : MonoT (tAnd t u) := fun σ H Q Q' m p => h σ H _ _ (fun b H1 q => by
  cases b with
  | true => exact iteT (g σ H1 _ _ m (by simpa using q))
  | false => exact iteF (m _ _ (by simpa using q))) p
theorem mt_or {t u : TT} (h : MonoT t) (g : MonoT u) : MonoT (tOr t u) := fun σ H Q Q' m p => h σ H _ _ (fun b H1 q => by
  cases b with
  | true => exact iteT (m _ _ (by simpa using q))
  | false => exact iteF (g σ H1 _ _ m (by simpa using q))) p
theorem mt_not {t : TT} (h : MonoT t) : MonoT (tNot t) := fun σ H _ _ m p => h σ H _ _ (fun _ _ q => m _ _ q) p
/-! ### sorted(xs), data of any kind -/
def sortD (bs : List (V × PyData)) : List V := (bs.mergeSort (PySem.W.dataLe false Prod.snd)).map Prod.fst
def rSortedD (K : PySem.W.Frag) : List V → Hp → VK → Prop := fun vs H Q => ∃ (a : Addr) (bs : List (V × PyData)), vs = [V.ref a] ∧ SqL K H a (bs.map Prod.fst) ∧ (∀ b ∈ bs, Dp K H b.1 b.2) ∧ PySem.W.AllAlike (bs.map Prod.snd) ∧ PySem.W.Sortable (bs.map Prod.snd) ∧
  (∀ b ∈ bs, b.2.depth ≤ 60) ∧ ∀ p, H p = none → Q (.ref p) (upd H p (.lst (sortD bs)))
theorem each_vals : ∀ {bs : List (V × PyData)} {its : List Value}, Vals (bs.map Prod.fst) its → PySem.W.EachIs (fun v (b : V × PyData) => RelV b.1 v) its bs
  | [], _, h => by cases h; exact .nil
  | b :: r, _, h => by
    cases h with
    | cons h1 h2 => exact .cons h1 (each_vals h2)
theorem vals_each : ∀ {bs : List (V × PyData)} {its : List Value}, PySem.W.EachIs (fun v (b : V × PyData) => RelV b.1 v) its bs → Vals (bs.map Prod.fst) its
  | _, _, .nil => .nil
  | _, _, .cons h t => .cons h (vals_each t)
theorem call_sortedD {X : Cx} (hu : X.A.units + 64 < cLine) : CallR X (.builtin "sorted") (rSortedD X.K) := by
  intro pins s σ H vs us Q I r h
  obtain ⟨a, bs, rfl, hs, hd, hal, hk, hdep, q⟩ := h
  obtain ⟨its, rv, hl, hz⟩ := I.list hs
  rw [Vals.ref1 r]
  have e1 := each_vals rv
  have e2 : ∀ {cs : List (V × PyData)} {jts : List Value}, (∀ b ∈ cs, Dp X.K H b.1 b.2) → PySem.W.EachIs (fun v (b : V × PyData) => RelV b.1 v) jts cs → PySem.W.EachIs (fun v (b : V × PyData) => ∃ as, PySem.Reads s.heap v b.2 as) jts cs := by
    intro cs jts hc e
    induction e with
    | nil => exact .nil
    | @cons v b as bs' h1 t ih => exact .cons (Dp.reads I b.2 b.1 v (hc b (by simp)) h1) (ih fun b hb => hc b (List.mem_cons_of_mem _ hb))
  have hlen : bs.length ≤ sizeLine := by rw [List.length_map] at hz; exact hz
  refine PySem.W.sorted_data hl.isList e1 (e2 hd e1) hal hk hlen (fun b hb => by have := hdep b hb; omega) fun out h1 h2 => ?_
  obtain ⟨ep, he'⟩ := PyProof.Rows.sortedAll_at s.heap its out.toArray
  have hv := vals_each h2
  have hlen' : (sortD bs).length ≤ sizeLine := by
    unfold sortD
    rw [List.length_map, List.length_mergeSort]
    exact hlen
  exact ⟨.ref _, upd H (s.heap.objs.size + 1) (.lst (sortD bs)), I.laid (t' := s.toks) (fun _ _ => PyProof.Rows.sortedAll_old) (Nat.le_succ _) ⟨hlen', out, ep, hv, he'⟩, rfl, q _ (I.hok.fresh (Nat.le_succ _))⟩
theorem sortD_same {bs : List (V × PyData)} (h : bs.Pairwise fun x y => PySem.W.dataLe false Prod.snd x y = true) : sortD bs = bs.map Prod.fst := by
  unfold sortD
  rw [List.mergeSort_of_pairwise h]
end My

set_option autoImplicit false
set_option maxHeartbeats 1000000
namespace My
def dg (c : Nat) : Bool := decide (48 ≤ c) && decide (c ≤ 57)
def digv (l : List Nat) : Nat := l.foldl (fun t c => t * 10 + (c - 48)) 0
def ck (l : List Nat) (i : Nat) : List Nat := (l.drop (3 * i)).take 3
def okc (t : List Nat) : Bool := decide (t.length = 3) && (t.all dg && decide (digv t ≤ 996))
def nck (l : List Nat) : Nat := (l.length + 2) / 3
def vals (l : List Nat) (n : Nat) : List Int := (List.range n).map fun i => ((digv (ck l i) : Nat) : Int)
def oks (l : List Nat) (n : Nat) : Bool := (List.range n).all fun i => okc (ck l i)
def toldL (l : List Nat) : Option (List Int) := if oks l (nck l) = true then some (vals l (nck l)) else none
def winAt (s : List Nat) (p : Nat) : Option (List Int) := if s[p]? = some 35 ∧ s[p + 121]? = some 59 then toldL ((s.drop (p + 1)).take 120) else none
def wf (s : List Nat) (p : Nat) : Option (Nat × List Int) := (winAt s p).map fun c => (p, c)
def wl (s : List Nat) (b e : Nat) : List (Nat × List Int) := (List.range' b (e - b)).filterMap (wf s)

theorem oks_iff {l : List Nat} {n : Nat} : oks l n = true ↔ ∀ i, i < n → okc (ck l i) = true := by
  unfold oks
  rw [List.all_eq_true]
  exact ⟨fun h i hi => h i (List.mem_range.mpr hi), fun h i hi => h i (List.mem_range.mp hi)⟩
theorem oks_succ {l : List Nat} {n : Nat} : oks l (n + 1) = (oks l n && okc (ck l n)) := by
  unfold oks
  rw [List.range_succ, List.all_append]
  simp
theorem vals_succ {l : List Nat} {n : Nat} : vals l (n + 1) = vals l n ++ [((digv (ck l n) : Nat) : Int)] := by
  unfold vals
  rw [List.range_succ, List.map_append]
  rfl
theorem vals_length {l : List Nat} {n : Nat} : (vals l n).length = n := by simp [vals]
/-- all digits where it is told -/
theorem told_dg {l : List Nat} {cs : List Int} (h : toldL l = some cs) : ∀ (j c : Nat), l[j]? = some c → dg c = true := by
  intro j c hj
  unfold toldL at h
  by_cases ho : oks l (nck l) = true
  · have hlt : j < l.length := (List.getElem?_eq_some_iff.mp hj).1
    have hi : j / 3 < nck l := by unfold nck; omega
    have hk := oks_iff.mp ho (j / 3) hi
    unfold okc at hk
    simp only [Bool.and_eq_true, List.all_eq_true] at hk
    refine hk.2.1 c ?_
    unfold ck
    refine List.mem_of_getElem? (i := j % 3) ?_
    rw [List.getElem?_take_of_lt (by omega), List.getElem?_drop]
    have : 3 * (j / 3) + j % 3 = j := by omega
    rw [this]
    exact hj
  · rw [if_neg ho] at h
    cases h
theorem fm_congr {α β : Type} {f g : α → Option β} : ∀ {l : List α}, (∀ x ∈ l, f x = g x) → l.filterMap f = l.filterMap g
  | [], _ => rfl
  | x :: l, h => by
    rw [List.filterMap_cons, List.filterMap_cons, h x (by simp), fm_congr fun y hy => h y (List.mem_cons_of_mem _ hy)]
theorem wl_nil {s : List Nat} {b e : Nat} (h : e ≤ b) : wl s b e = [] := by
  unfold wl
  have : e - b = 0 := by omega
  rw [this]
  rfl
theorem wl_append {s : List Nat} {a b c : Nat} (h1 : a ≤ b) (h2 : b ≤ c) : wl s a c = wl s a b ++ wl s b c := by
  unfold wl
  rw [← List.filterMap_append]
  have e : c - a = (b - a) + (c - b) := by omega
  rw [e, ← List.range'_append_1]
  have e2 : a + (b - a) = b := by omega
  rw [e2]
theorem wl_succ {s : List Nat} {a b : Nat} (h : a ≤ b) : wl s a (b + 1) = wl s a b ++ (wf s b).toList := by
  rw [wl_append h (Nat.le_succ b)]
  congr 1
  unfold wl
  have : b + 1 - b = 1 := by omega
  rw [this]
  simp [List.range'_one, List.filterMap]
  cases wf s b <;> rfl
theorem mem_wl {s : List Nat} {b e : Nat} {x : Nat × List Int} : x ∈ wl s b e ↔ b ≤ x.1 ∧ x.1 < e ∧ winAt s x.1 = some x.2 := by
  obtain ⟨p, c⟩ := x
  unfold wl wf
  rw [List.mem_filterMap]
  constructor
  · rintro ⟨q, hq, e1⟩
    rw [List.mem_range'_1] at hq
    cases hw : winAt s q with
    | none => rw [hw] at e1; cases e1
    | some d =>
      rw [hw] at e1
      cases e1
      exact ⟨hq.1, by omega, hw⟩
  · rintro ⟨h1, h2, h3⟩
    refine ⟨p, List.mem_range'_1.mpr ⟨h1, by show p < b + (e - b); have : b ≤ p := h1; have : p < e := h2; omega⟩, ?_⟩
    have h3' : winAt s p = some c := h3
    rw [h3']
    rfl
theorem win_lt {s : List Nat} {p : Nat} {c : List Int} (h : winAt s p = some c) : s[p]? = some 35 ∧ s[p + 121]? = some 59 ∧ p + 121 < s.length ∧ toldL ((s.drop (p + 1)).take 120) = some c := by
  unfold winAt at h
  by_cases g : s[p]? = some 35 ∧ s[p + 121]? = some 59
  · rw [if_pos g] at h
    exact ⟨g.1, g.2, (List.getElem?_eq_some_iff.mp g.2).1, h⟩
  · rw [if_neg g] at h
    cases h
theorem win_apart {s : List Nat} {p q : Nat} {c d : List Int} (h : winAt s p = some c) (g : winAt s q = some d) (hpq : p < q) : p + 122 ≤ q := by
  obtain ⟨_, h2, h3, h4⟩ := win_lt h
  obtain ⟨g1, _, _, _⟩ := win_lt g
  by_cases hlt : p + 122 ≤ q
  · exact hlt
  · by_cases he : q = p + 121
    · rw [he, h2] at g1
      exact absurd (Option.some.inj g1) (by decide)
    · have hk := told_dg h4 (q - p - 1) 35 (by
        rw [List.getElem?_take_of_lt (by omega), List.getElem?_drop]
        have : p + 1 + (q - p - 1) = q := by omega
        rw [this]; exact g1)
      exact absurd hk (by decide)
theorem wl_apart {s : List Nat} {b : Nat} : ∀ e, (wl s b e).Pairwise (fun x y => x.1 + 122 ≤ y.1)
  | 0 => by rw [wl_nil (Nat.zero_le _)]; exact .nil
  | e + 1 => by
    by_cases h : b ≤ e
    · rw [wl_succ h, List.pairwise_append]
      refine ⟨wl_apart e, ?_, fun x hx y hy => ?_⟩
      · cases wf s e <;> simp
      · have hx' := mem_wl.mp hx
        unfold wf at hy
        cases hw : winAt s e with
        | none => rw [hw] at hy; simp at hy
        | some d =>
          rw [hw] at hy
          simp at hy
          subst hy
          exact win_apart hx'.2.2 hw hx'.2.1
    · rw [wl_nil (by omega)]; exact .nil
theorem len1 {α : Type} {R : α → α → Prop} : ∀ {l : List α}, l.Pairwise R → (∀ x ∈ l, ∀ y ∈ l, ¬ R x y) → l.length ≤ 1
  | [], _, _ => by simp
  | [_], _, _ => by simp
  | x :: y :: r, h, g => by
    have := (List.pairwise_cons.mp h).1 y (by simp)
    exact absurd this (g x (by simp) y (by simp))
theorem winAt_left {s t : List Nat} {p : Nat} (h : p + 122 ≤ s.length) : winAt (s ++ t) p = winAt s p := by
  unfold winAt
  rw [List.getElem?_append_left (by omega), List.getElem?_append_left (by omega)]
  have e : ((s ++ t).drop (p + 1)).take 120 = (s.drop (p + 1)).take 120 := by
    rw [List.drop_append_of_le_length (by omega), List.take_append_of_le_length (by rw [List.length_drop]; omega)]
  rw [e]
theorem winAt_right {s t : List Nat} {p : Nat} : winAt (s ++ t) (s.length + p) = winAt t p := by
  unfold winAt
  rw [List.getElem?_append_right (by omega), List.getElem?_append_right (by omega)]
  have e1 : s.length + p - s.length = p := by omega
  have e2 : s.length + p + 121 - s.length = p + 121 := by omega
  have e : ((s ++ t).drop (s.length + p + 1)) = t.drop (p + 1) := by
    rw [Nat.add_assoc, ← List.drop_drop]
    simp
  rw [e1, e2, e]
theorem wl_left {s t : List Nat} {a b : Nat} (h : b + 121 ≤ s.length ∨ b ≤ a) : wl (s ++ t) a b = wl s a b := by
  rcases h with h | h
  · unfold wl
    refine fm_congr fun p hp => ?_
    rw [List.mem_range'_1] at hp
    unfold wf
    rw [winAt_left (by omega)]
  · rw [wl_nil h, wl_nil h]
theorem wl_right {s t : List Nat} : ∀ b, (wl t 0 b).map (fun x => (x.1 + s.length, x.2)) = wl (s ++ t) s.length (s.length + b)
  | 0 => by rw [wl_nil (Nat.zero_le _), wl_nil (by omega)]; rfl
  | b + 1 => by
    rw [wl_succ (Nat.zero_le _), List.map_append, wl_right b, ← Nat.add_assoc, wl_succ (by omega)]
    congr 1
    unfold wf
    rw [winAt_right]
    cases winAt t b with
    | none => rfl
    | some c =>
      show [(b + s.length, c)] = [(s.length + b, c)]
      rw [Nat.add_comm]
theorem filter_wl {s : List Nat} {n lo hi : Nat} (P : Nat × List Int → Bool) (hP : ∀ x, P x = true ↔ lo ≤ x.1 ∧ x.1 < hi) : (wl s 0 n).filter P = wl s lo (min hi n) := by
  have all_in : ∀ a b, (∀ p, a ≤ p → p < b → lo ≤ p ∧ p < hi) → (wl s a b).filter P = wl s a b := fun a b h => by
    rw [List.filter_eq_self]
    intro x hx
    have := mem_wl.mp hx
    exact (hP x).mpr (h x.1 this.1 this.2.1)
  have none_in : ∀ a b, (∀ p, a ≤ p → p < b → ¬ (lo ≤ p ∧ p < hi)) → (wl s a b).filter P = [] := fun a b h => by
    rw [List.filter_eq_nil_iff]
    intro x hx hp
    have := mem_wl.mp hx
    exact h x.1 this.1 this.2.1 ((hP x).mp hp)
  by_cases h : lo ≤ min hi n
  · rw [wl_append (s := s) (a := 0) (b := min hi n) (c := n) (Nat.zero_le _) (Nat.min_le_right _ _), wl_append (s := s) (a := 0) (b := lo) (Nat.zero_le _) h]
    rw [List.filter_append, List.filter_append, none_in 0 lo (fun p _ h2 => by omega), all_in lo _ (fun p h1 h2 => by omega), none_in (min hi n) n (fun p h1 h2 => by omega)]
    simp
  · rw [none_in 0 n (fun p h1 h2 => by omega), wl_nil (by omega)]
/-- the joint of two texts -/
theorem wl_joint (s t : List Nat) :
    wl s 0 (s.length - 121) ++ wl (s ++ t) (s.length - 121) (min s.length (s.length + t.length - 121)) ++ (wl t 0 (t.length - 121)).map (fun x => (x.1 + s.length, x.2)) = wl (s ++ t) 0 (s.length + t.length - 121) := by
  rw [← wl_left (s := s) (t := t) (a := 0) (b := s.length - 121) (by omega), wl_right]
  by_cases h : 121 ≤ t.length
  · have e1 : min s.length (s.length + t.length - 121) = s.length := by omega
    have e2 : s.length + (t.length - 121) = s.length + t.length - 121 := by omega
    rw [e1, e2, ← wl_append (by omega) (by omega), ← wl_append (by omega) (by omega)]
  · have e2 : s.length + (t.length - 121) = s.length := by omega
    rw [e2, wl_nil (Nat.le_refl _), List.append_nil]
    have e1 : min s.length (s.length + t.length - 121) = s.length + t.length - 121 := by omega
    rw [e1]
    by_cases g : s.length - 121 ≤ s.length + t.length - 121
    · rw [← wl_append (by omega) g]
    · omega
end My
namespace My
theorem nck_of {l : List Nat} (h : l.length % 3 = 0) : nck l = l.length / 3 := by unfold nck; omega
theorem told_mod {l : List Nat} (h : l.length % 3 ≠ 0) : toldL l = none := by
  unfold toldL
  rw [if_neg]
  intro ho
  have hk := oks_iff.mp ho (l.length / 3) (by unfold nck; omega)
  unfold okc ck at hk
  simp only [Bool.and_eq_true, decide_eq_true_eq, List.length_take, List.length_drop] at hk
  omega
theorem told_nd {l : List Nat} (h : l.all dg = false) : toldL l = none := by
  cases e : toldL l with
  | none => rfl
  | some cs =>
    have : l.all dg = true := List.all_eq_true.mpr fun c hc => by
      obtain ⟨j, hj⟩ := List.getElem?_of_mem hc
      exact told_dg e j c hj
    rw [h] at this
    cases this
theorem ck_len {l : List Nat} {i : Nat} (h : l.length % 3 = 0) (hi : i < nck l) : (ck l i).length = 3 := by
  rw [nck_of h] at hi
  unfold ck
  rw [List.length_take, List.length_drop]
  omega
theorem ck_dg {l : List Nat} {i : Nat} (h : l.all dg = true) : (ck l i).all dg = true := List.all_eq_true.mpr fun c hc =>
  List.all_eq_true.mp h c (List.mem_of_mem_drop (List.mem_of_mem_take hc))
theorem told_ok {l : List Nat} (h : l.length % 3 = 0) (hd : l.all dg = true) (m : Int) (hm : ∀ y ∈ vals l (nck l), y ≤ m) (hin : m ∈ vals l (nck l)) :
    toldL l = if m ≤ 996 then some (vals l (nck l)) else none := by
  unfold toldL
  have e : oks l (nck l) = decide (m ≤ 996) := by
    rw [Bool.eq_iff_iff, oks_iff, decide_eq_true_eq]
    constructor
    · intro g
      unfold vals at hin
      obtain ⟨i, hi, e⟩ := List.mem_map.mp hin
      have := g i (List.mem_range.mp hi)
      unfold okc at this
      simp only [Bool.and_eq_true, decide_eq_true_eq] at this
      omega
    · intro g i hi
      unfold okc
      rw [ck_len h hi, ck_dg hd]
      have := hm ((digv (ck l i) : Nat) : Int) (by unfold vals; exact List.mem_map.mpr ⟨i, List.mem_range.mpr hi, rfl⟩)
      simp
      omega
  rw [e]
  by_cases c : m ≤ 996
  · rw [if_pos c, if_pos (decide_eq_true c)]
  · rw [if_neg c, if_neg (by simp [c])]
end My
namespace My
theorem wl_length {s : List Nat} {b e : Nat} : (wl s b e).length ≤ e - b := by
  unfold wl
  refine Nat.le_trans (List.length_filterMap_le _ _) ?_
  rw [List.length_range']
  exact Nat.le_refl _
end My
namespace My
theorem told_bad {l : List Nat} {i : Nat} (hi : i < nck l) (h : okc (ck l i) = false) : toldL l = none := by
  unfold toldL
  rw [if_neg]
  intro ho
  rw [oks_iff.mp ho i hi] at h
  cases h
theorem told_all {l : List Nat} (h : oks l (nck l) = true) : toldL l = some (vals l (nck l)) := by
  unfold toldL
  rw [if_pos h]
theorem take_snoc {α : Type} {l : List α} {i : Nat} {x : α} (h : l[i]? = some x) : l.take (i + 1) = l.take i ++ [x] := by
  rw [List.take_add_one, h]; rfl
end My

set_option Elab.async false
set_option maxRecDepth 100000
set_option maxHeartbeats 4000000
namespace My
open PySem L2 TL
open PySem.StrLaws (At occBody occ_eq subAt_one)
open PySem.NumText (digitsVal AllDigits)
/-! ### texts -/
/-- all signs are printable ascii -/
def pr (z : Str) : Prop := ∀ c ∈ tl z, 32 ≤ c ∧ c ≤ 126
theorem pr_app {x y : Str} (h : pr x) (g : pr y) : pr (x ++ y) := fun c hc => by
  rw [tl_append] at hc
  rcases List.mem_append.mp hc with q | q
  · exact h c q
  · exact g c q
theorem pr_cut {z : Str} (h : pr z) (lo hi : Option Int) : pr (cutS z lo hi) := fun c hc => h c (by
  have hc' : c ∈ ((tl z).drop (HT.sIx z.length 0 lo)).take (HT.sIx z.length z.length hi - HT.sIx z.length 0 lo) := hc
  exact List.mem_of_mem_drop (List.mem_of_mem_take hc'))
theorem tl_cut (z : Str) (lo hi : Option Int) : tl (cutS z lo hi) = ((tl z).drop (HT.sIx z.length 0 lo)).take (HT.sIx z.length z.length hi - HT.sIx z.length 0 lo) := rfl
theorem cut_nat (z : Str) (i j : Nat) : tl (cutS z (some (i : Int)) (some (j : Int))) = ((tl z).drop i).take (j - i) := by
  rw [tl_cut, HT.sIx_nat, HT.sIx_nat, len_tl]
  by_cases h1 : i ≤ (tl z).length
  · rw [Nat.min_eq_left h1]
    by_cases h2 : j ≤ (tl z).length
    · rw [Nat.min_eq_left h2]
    · rw [Nat.min_eq_right (by omega), List.take_of_length_le (by rw [List.length_drop]; omega), List.take_of_length_le (by rw [List.length_drop]; omega)]
  · rw [show min i (tl z).length = (tl z).length by omega, List.drop_of_length_le (Nat.le_refl _), List.drop_of_length_le (by omega)]
    simp
theorem cut_lo (z : Str) (i : Nat) : tl (cutS z (some (i : Int)) none) = (tl z).drop i := by
  rw [tl_cut, HT.sIx_nat, HT.sIx_none, len_tl]
  by_cases h1 : i ≤ (tl z).length
  · rw [Nat.min_eq_left h1, List.take_of_length_le (by rw [List.length_drop]; omega)]
  · rw [Nat.min_eq_right (by omega), List.drop_of_length_le (Nat.le_refl _), List.drop_of_length_le (by omega)]
    simp
theorem cut_hi (z : Str) (j : Nat) : tl (cutS z none (some (j : Int))) = (tl z).take j := by
  rw [tl_cut, HT.sIx_nat, HT.sIx_none, len_tl]
  by_cases h1 : j ≤ (tl z).length
  · rw [Nat.min_eq_left h1]; simp
  · rw [Nat.min_eq_right (by omega), List.drop_zero, Nat.sub_zero, List.take_of_length_le (Nat.le_refl _), List.take_of_length_le (by omega)]
def txtM (z : Str) : Bool := decide ((z.length : Int) ≤ 60000) && (Txt.isascii z && Txt.isprintable z)
theorem print127 : ∀ c, c < 127 → 32 ≤ c → Unicode.isPrintable c = true := by decide +kernel
theorem digit127 : ∀ c, c < 127 → Unicode.isDigit c = dg c := by decide +kernel
theorem txtM_ok {z : Str} (h : pr z) (hl : z.length ≤ 60000) : txtM z = true := by
  unfold txtM
  rw [decide_eq_true (by omega)]
  have a : Txt.isascii z = true := by
    unfold Txt.isascii
    rw [Array.all_eq_true_iff_forall_mem]
    intro c hc
    have := h c (Array.mem_toList_iff.mpr hc)
    exact decide_eq_true (by omega)
  have b : Txt.isprintable z = true := by
    unfold Txt.isprintable
    rw [Array.all_eq_true_iff_forall_mem]
    intro c hc
    have := h c (Array.mem_toList_iff.mpr hc)
    exact print127 c (by omega) this.1
  rw [a, b]
  rfl
theorem isdigit_pr {z : Str} (h : pr z) : Txt.isdigit z = (decide (0 < z.length) && (tl z).all dg) := by
  unfold Txt.isdigit
  have e : z.cps.all Unicode.isDigit = (tl z).all dg := by
    rw [Bool.eq_iff_iff, Array.all_eq_true_iff_forall_mem, List.all_eq_true]
    constructor
    · intro g c hc
      have := h c hc
      rw [← digit127 c (by omega)]
      exact g c (Array.mem_toList_iff.mp hc)
    · intro g c hc
      have hm := Array.mem_toList_iff.mpr hc
      have := h c hm
      rw [digit127 c (by omega)]
      exact g c hm
  rw [e]
/-! ### find -/
theorem occ_full (s sub : Str) (hi : Nat) : ∀ (l : List Nat) (st : Array Nat × Nat), st.fst.size = 1 → (forIn l st (occBody s sub hi 1)).run.fst = st.fst
  | [], st, _ => rfl
  | a :: l, st, h => by
    rw [List.forIn_cons]
    unfold occBody
    have c2 : ¬ (((st.fst.size < 1 ∧ st.snd ≤ a) ∧ a + sub.length ≤ hi) ∧ Builtin.Str.subAt s sub a = true) := fun q => by omega
    rw [if_neg c2]
    exact occ_full s sub hi l st h
theorem occ_first (s sub : Str) (hi : Nat) : ∀ (m cur free : Nat), free ≤ cur →
    ((forIn (List.range' cur m) ((#[] : Array Nat), free) (occBody s sub hi 1)).run.fst = #[] ∧ ∀ i, cur ≤ i → i < cur + m → ¬ At s sub hi i) ∨
    ∃ p, (forIn (List.range' cur m) ((#[] : Array Nat), free) (occBody s sub hi 1)).run.fst = #[p] ∧ cur ≤ p ∧ p < cur + m ∧ At s sub hi p ∧ ∀ i, cur ≤ i → i < p → ¬ At s sub hi i
  | 0, cur, free, _ => .inl ⟨rfl, fun i h1 h2 => by omega⟩
  | m + 1, cur, free, hf => by
    rw [List.range'_succ, List.forIn_cons]
    unfold occBody
    by_cases hc : At s sub hi cur
    · have c1 : ((((#[] : Array Nat), free).fst.size < 1 ∧ ((#[] : Array Nat), free).snd ≤ cur) ∧ cur + sub.length ≤ hi) ∧ Builtin.Str.subAt s sub cur = true := ⟨⟨⟨by simp, hf⟩, hc.1⟩, hc.2⟩
      rw [if_pos c1]
      refine .inr ⟨cur, ?_, Nat.le_refl _, by omega, hc, fun i h1 h2 => by omega⟩
      exact occ_full s sub hi _ _ (by simp)
    · have c2 : ¬ (((((#[] : Array Nat), free).fst.size < 1 ∧ ((#[] : Array Nat), free).snd ≤ cur) ∧ cur + sub.length ≤ hi) ∧ Builtin.Str.subAt s sub cur = true) := fun q => hc ⟨q.1.2, q.2⟩
      rw [if_neg c2]
      rcases occ_first s sub hi m (cur + 1) free (by omega) with ⟨h1, h2⟩ | ⟨p, h1, h2, h3, h4, h5⟩
      · refine .inl ⟨h1, fun i g1 g2 => ?_⟩
        by_cases e : i = cur
        · rw [e]; exact hc
        · exact h2 i (by omega) (by omega)
      · refine .inr ⟨p, h1, by omega, by omega, h4, fun i g1 g2 => ?_⟩
        by_cases e : i = cur
        · rw [e]; exact hc
        · exact h5 i (by omega) g2
theorem find3_sign (z : Str) (c b : Nat) (hb : b ≤ z.length) :
    (Txt.find3 z ⟨#[c]⟩ (b : Int) = -1 ∧ ∀ q : Nat, b ≤ q → (tl z)[q]? ≠ some c) ∨
    ∃ p : Nat, Txt.find3 z ⟨#[c]⟩ (b : Int) = (p : Int) ∧ b ≤ p ∧ (tl z)[p]? = some c ∧ ∀ q : Nat, b ≤ q → q < p → (tl z)[q]? ≠ some c := by
  have ef : fromIndex z.length (b : Int) = b := by
    unfold fromIndex
    rw [if_neg (by omega)]
    omega
  unfold Txt.find3
  rw [ef, occ_eq]
  rcases occ_first z ⟨#[c]⟩ z.length (z.length + 1 - b) b b (Nat.le_refl _) with ⟨h1, h2⟩ | ⟨p, h1, h2, h3, h4, h5⟩
  · refine .inl ⟨by rw [h1], fun q hq e => ?_⟩
    have hlt : q < (tl z).length := (List.getElem?_eq_some_iff.mp e).1
    rw [← len_tl] at hlt
    exact h2 q hq (by omega) ((subAt_one z c q).mpr e)
  · refine .inr ⟨p, by rw [h1], h2, (subAt_one z c p).mp h4, fun q g1 g2 e => h5 q g1 g2 ((subAt_one z c q).mpr e)⟩
/-- no window where no # stands -/
theorem wf_none {s : List Nat} {p : Nat} (h : s[p]? ≠ some 35) : wf s p = none := by
  unfold wf winAt
  rw [if_neg fun q => h q.1]
  rfl
theorem wl_gap {s : List Nat} {a b : Nat} (h : ∀ q, a ≤ q → q < b → s[q]? ≠ some 35) : wl s a b = [] := by
  unfold wl
  rw [List.filterMap_eq_nil_iff]
  intro q hq
  rw [List.mem_range'_1] at hq
  exact wf_none (h q hq.1 (by omega))
theorem int_ck {l : List Nat} (h : l.all dg = true) (hne : l ≠ []) (hl : l.length ≤ 640) : PySem.intText? ⟨l.toArray⟩ = some ((digv l : Nat) : Int) :=
  PySem.intText_digits (x := ⟨l.toArray⟩) (fun c hc => by
    have := List.all_eq_true.mp h c hc
    unfold dg at this
    simpa using this) hne (by show l.toArray.size ≤ 4300; simp; omega)
theorem fits_ {i : Int} (h1 : -(2 ^ 63) ≤ i) (h2 : i < 2 ^ 63) : Builtin.Range.rangeFitsLong i = true := by
  unfold Builtin.Range.rangeFitsLong
  rw [decide_eq_true h1, decide_eq_true h2]
  rfl
theorem rg3 (n : Nat) (h : n ≤ 1000000) : RgC 0 (n : Int) 3 ((n + 2) / 3) := by
  have e : Builtin.Range.rangeSize 0 (n : Int) 3 = (((n + 2) / 3 : Nat) : Int) := by
    unfold Builtin.Range.rangeSize
    rw [if_pos (by decide)]
    split <;> omega
  refine ⟨by decide, by decide, ?_, e⟩
  unfold Builtin.Range.small
  rw [e, if_pos (by decide), fits_ (by decide) (by decide), fits_ (by omega) (by omega), fits_ (by decide) (by decide), fits_ (by omega) (by omega), fits_ (by omega) (by omega)]
  simp
theorem cut_ck (z : Str) (i : Nat) : cutS z (some ((0 : Int) + (i : Nat) * 3)) (some ((0 : Int) + (i : Nat) * 3 + 3)) = ⟨(ck (tl z) i).toArray⟩ := by
  refine ext_tl ?_
  have e := cut_nat z (3 * i) (3 * i + 3)
  have e1 : ((0 : Int) + (i : Nat) * 3) = ((3 * i : Nat) : Int) := by omega
  rw [e1, show (((3 * i : Nat) : Int) + 3) = ((3 * i + 3 : Nat) : Int) by omega, e]
  unfold ck
  rw [show 3 * i + 3 - 3 * i = 3 by omega]
end My

set_option maxRecDepth 100000
set_option maxHeartbeats 1000000
namespace My
open PySem L2 TL
/-! ### text times number; a part's windows; the pieces of a text -/
def rRepS : R2 := fun x y H Q => ∃ z k, x = .str z ∧ y = .int k ∧ MulOk z k ∧ Q (.str (Txt.mul z k)) H
theorem op_repS {X : Cx} : OpR X (binaryOp .Mult) rRepS := by
  intro pins s σ H x y v u Q I rx ry h
  obtain ⟨z, k, rfl, rfl, hz, q⟩ := h
  obtain ⟨t, rfl⟩ := rx
  obtain ⟨t', rfl⟩ := ry
  exact SB.mul hz (fun t' tk => ⟨.str (Txt.mul z k), H, I.tok _, ⟨_, rfl⟩, q⟩)
theorem wl_part {s : List Nat} {b e : Nat} (hb : b ≤ e) (he : e ≤ s.length) :
    (wl ((s.drop b).take (e - b)) 0 (e - b - 121)).map (fun x => (x.1 + b, x.2)) = wl s b (e - 121) := by
  have hl : ((s.drop b).take (e - b)).length = e - b := by rw [List.length_take, List.length_drop]; omega
  have ht : (s.take b).length = b := by rw [List.length_take]; omega
  have e1 : wl (s.drop b) 0 (e - b - 121) = wl ((s.drop b).take (e - b)) 0 (e - b - 121) := by
    have := wl_left (s := (s.drop b).take (e - b)) (t := (s.drop b).drop (e - b)) (a := 0) (b := e - b - 121) (by omega)
    rw [List.take_append_drop] at this
    exact this
  rw [← e1]
  have e2 := wl_right (s := s.take b) (t := s.drop b) (e - b - 121)
  rw [List.take_append_drop, ht] at e2
  rw [e2]
  by_cases h : 121 ≤ e - b
  · rw [show b + (e - b - 121) = e - 121 by omega]
  · rw [wl_nil (by omega), wl_nil (by omega)]
theorem wl_inside {s : List Nat} {b e : Nat} (he : e ≤ s.length) :
    (wl s 0 (s.length - 121)).filter (fun x => decide (b ≤ x.1) && decide (x.1 + 122 ≤ e)) = wl s b (e - 121) := by
  rw [filter_wl (lo := b) (hi := e - 121) _ (fun x => by simp; omega), show min (e - 121) (s.length - 121) = e - 121 by omega]
def pO (a b : Int) : PyData := .tuple [.str "other", .int a, .int b]
def pW (a b : Int) : PyData := .tuple [.str "window", .int a, .int b]
def pstep (r : List PyData × Int) (w : Nat × List Int) : List PyData × Int :=
  (r.1 ++ (if r.2 < w.1 then [pO r.2 w.1] else []) ++ [pW w.1 (w.1 + 122)], w.1 + 122)
def pfold (ws : List (Nat × List Int)) : List PyData × Int := ws.foldl pstep ([], 0)
def pcs (n : Nat) (ws : List (Nat × List Int)) : List PyData := (pfold ws).1 ++ (if (pfold ws).2 < n then [pO (pfold ws).2 n] else [])
theorem pfold_snoc {ws : List (Nat × List Int)} {w : Nat × List Int} : pfold (ws ++ [w]) = pstep (pfold ws) w := by
  unfold pfold
  rw [List.foldl_append]
  rfl
theorem pfold_len_aux : ∀ (ws : List (Nat × List Int)) (r : List PyData × Int), (ws.foldl pstep r).1.length ≤ r.1.length + 2 * ws.length
  | [], r => by simp
  | w :: ws, r => by
    have h := pfold_len_aux ws (pstep r w)
    have : (pstep r w).1.length ≤ r.1.length + 2 := by
      unfold pstep
      simp only [List.length_append]
      split <;> simp
    simp only [List.foldl_cons, List.length_cons]
    omega
theorem pfold_len (ws : List (Nat × List Int)) : (pfold ws).1.length ≤ 2 * ws.length := by
  have := pfold_len_aux ws ([], 0)
  simpa [pfold] using this
theorem flat_po (a b : Int) : flatD 2 (pO a b) = true := by simp [pO, flatD, flatAll, PyData.strOk]; decide
theorem flat_pw (a b : Int) : flatD 2 (pW a b) = true := by simp [pW, flatD, flatAll, PyData.strOk]; decide
theorem flat_pfold_aux : ∀ (ws : List (Nat × List Int)) (r : List PyData × Int), flatAll 2 r.1 = true → flatAll 2 (ws.foldl pstep r).1 = true
  | [], r, h => h
  | w :: ws, r, h => by
    refine flat_pfold_aux ws (pstep r w) (flatAll_iff.mpr fun d hd => ?_)
    unfold pstep at hd
    simp only [List.mem_append, List.mem_singleton] at hd
    rcases hd with (hd | hd) | rfl
    · exact flatAll_iff.mp h d hd
    · split at hd
      · rw [List.mem_singleton.mp hd]; exact flat_po _ _
      · simp at hd
    · exact flat_pw _ _
theorem flat_pcs (n : Nat) (ws : List (Nat × List Int)) : flatAll 2 (pcs n ws) = true := flatAll_iff.mpr fun d hd => by
  unfold pcs at hd
  rcases List.mem_append.mp hd with hd | hd
  · exact flatAll_iff.mp (flat_pfold_aux ws ([], 0) rfl) d hd
  · split at hd
    · rw [List.mem_singleton.mp hd]; exact flat_po _ _
    · simp at hd
theorem shaped_pcs {n : Nat} {ws : List (Nat × List Int)} : SeqAt.shaped (.list (pcs n ws)) = true := flat_shaped (n := 3) (flat_pcs n ws) (by decide)
theorem tp_piece {K : PySem.W.Frag} {H : Hp} {p : Addr} {n : Str} {a b : Int} (h : SqT K H p [.str n, .int a, .int b]) : Tp K H (.ref p) (.tuple [.str n, .int a, .int b]) :=
  .tup h (.cons (.str _) (.cons (.int _) (.cons (.int _) .nil)))
end My

set_option Elab.async false
set_option maxRecDepth 100000
set_option maxHeartbeats 4000000
namespace My
open PySem L2 TL PySem.W PyProof.Rows
/-- the three digits of a number below 1000 -/
def dig3 (n : Nat) : List Nat := [48 + n / 100, 48 + n / 10 % 10, 48 + n % 10]
theorem meets3 {a : Int} {t u : Tok} (h0 : 0 ≤ a) (h1 : a ≤ 996) : Meets (Builtin.«int.__format__» ⟨[.int a t, .str (Str.ofString "03d") u], []⟩) (fun _ R s => ∀ t' k, R (.ok (.ret (.str ⟨(dig3 a.toNat).toArray⟩ t'))) { s with toks := k }) := by
  have hl : a.natAbs.log2 < 1920 := Nat.lt_of_lt_of_le (PySem.Flt.log2_lt_of (by decide : 0 < 11) (by omega : a.natAbs < 2 ^ 11)) (by decide)
  apply KPc.meets_of
  intro M A s v E Q hq
  unfold Builtin.«int.__format__»
  refine wpAny_bind <| wpAny_of_eq (a := (_, _)) rfl <| wpAny_bind <| wpAny_of_eq (a := _) rfl ?_
  kxf_if
  refine wpAny_bind <| wpAny_typeNameOf (T := "str") (typeIs_str _ _ _) (by decide) fun _ => wpAny_bind <| wpAny_of_eq (a := some _) rfl ?_
  kxf_if
  kxf_if
  refine wpAny_bind (wpAny_typeNameOfCut_int ?_)
  (repeat kxf_if)
  refine wpAny_bind <| wpAny_of_eq (PySem.overDigitLimit_small hl) ?_
  (repeat kxf_if)
  refine KXf.ret_text ?_ ?_ hq
  · obtain ⟨n, rfl⟩ : ∃ n : Nat, a = n := ⟨a.toNat, by omega⟩
    have hn : n < 997 := by omega
    clear h0 h1 hl hq
    revert n hn
    decide +kernel
  · obtain ⟨n, rfl⟩ : ∃ n : Nat, a = n := ⟨a.toNat, by omega⟩
    have hn : n < 997 := by omega
    clear h0 h1 hl hq
    revert n hn
    decide +kernel
theorem field3 {prog : Program} {w : World} {A : Around} {E : Value → Shared → Prop} {s : Shared} {t : Tok} {a : Int} {Q : Value → Shared → Prop} (h0 : 0 ≤ a) (h1 : a ≤ 996) (h : ∀ t' k, Q (.str ⟨(dig3 a.toNat).toArray⟩ t') { s with toks := k }) :
    wpAny (model prog w) A (formatField (.int a t) (Str.ofString "03d")) Q E s := KXf.field_int rfl (by decide +kernel) (by decide +kernel) (fun _ => meets3 h0 h1) h
/-- {x:03d}, a cell -/
def tFmt3 (te : TE) : TE := fun σ H Q => te σ H fun x H1 => ∃ i : Int, x = .int i ∧ 0 ≤ i ∧ i ≤ 996 ∧ Q (.str ⟨(dig3 i.toNat).toArray⟩) H1
theorem pe_fmt3 {X : Cx} {e : Expr} {te : TE} {k : Nat} {p1 p2 pos : Pos} (he : PE X e te) : PE X (.FormattedValue e (-1) (some (.JoinedStr [.Constant (.str (Str.ofString "03d")) k p1] p2)) pos) (tFmt3 te) := by
  refine ⟨fun pins s σ H Q I h => ?_⟩
  refine wpAny_FormattedValue_spec (thn (he.run pins s σ H _ I h) fun v s1 hv => ?_)
  obtain ⟨x, H1, I1, r1, i, rfl, h0, h1, q⟩ := hv
  obtain ⟨t, rfl⟩ := r1
  refine wpAny_JoinedStr_one ?_
  refine thn ((pe_str (X := X)).run pins s1 σ H1 (fun v H2 => v = .str (Str.ofString "03d") ∧ H2 = H1) I1 ⟨rfl, rfl⟩) fun r s2 hr => ?_
  obtain ⟨y, H2, I2, r2, rfl, rfl⟩ := hr
  obtain ⟨t2, rfl⟩ := r2
  exact ⟨_, _, rfl, field3 h0 h1 fun t' k => ⟨.str _, _, I2.tok _, ⟨_, rfl⟩, q⟩⟩
end My

set_option Elab.async false
set_option maxRecDepth 100000
set_option maxHeartbeats 4000000
namespace My
open PySem L2 TL PySem.W PyProof.Rows
/-- z[::-1]: some text of signs of z -/
def tRevS (te : TE) : TE := fun σ H Q => te σ H fun x H1 => ∃ z : Str, x = .str z ∧ z.length ≤ sizeLine ∧ ∀ y : Str, (∀ c ∈ tl y, c ∈ tl z) → y.length ≤ z.length → Q (.str y) H1
theorem by_mem {x : Str} {l u : Option (Int × Tok)} {k : Int × Tok} : ∀ c ∈ tl (Txt.sliceBy x l u k), c ∈ tl x := by
  intro c hc
  unfold Txt.sliceBy at hc
  split at hc
  · exact hc
  · have hc' : c ∈ (((Builtin.Str.strSliceIndices (l.map (·.1)) (u.map (·.1)) k.1 x.length).filterMap (x.cps[·]?)).toArray).toList := hc
    rw [List.toList_toArray] at hc'
    obtain ⟨i, _, hi⟩ := List.mem_filterMap.mp hc'
    exact Array.mem_toList_iff.mpr (Array.mem_of_getElem? hi)
theorem pe_revS {X : Cx} {e : Expr} {te : TE} {k : Nat} {p1 p2 p3 pos : Pos} (he : PE X e te) : PE X (.Subscript e (.Slice none none (some (.UnaryOp .USub (.Constant (.int 1) k p1) p2)) p3) pos) (tRevS te) := by
  refine ⟨fun pins s σ H Q I h => ?_⟩
  refine Subscript_ (thn (he.run pins s σ H _ I h) fun v s1 hv => ?_)
  obtain ⟨x, H1, I1, r1, z, rfl, hz, q⟩ := hv
  obtain ⟨t, rfl⟩ := r1
  have hst : PO X (some (.UnaryOp .USub (.Constant (.int 1) k p1) p2)) (tPart (tUn (rU fun i => .int (-i)) (tC (.int 1)))) := po_some (pe_un un_neg pe_int)
  refine wpAny_Slice (thn (po_none.run pins s1 σ H1 (fun o H2 => o = none ∧ H2 = H1) I1 ⟨rfl, rfl⟩) fun vl s2 hl => ?_)
  obtain ⟨l, H2, I2, pl, rfl, rfl⟩ := hl
  refine thn (po_none.run pins s2 σ H2 (fun o H3 => o = none ∧ H3 = H2) I2 ⟨rfl, rfl⟩) fun vu s3 hu => ?_
  obtain ⟨u, H3, I3, pu, rfl, rfl⟩ := hu
  refine thn (hst.run pins s3 σ H3 (fun o H4 => o = some (-1) ∧ H4 = H3) I3 ⟨1, rfl, -1, rfl, rfl, rfl⟩) fun vs s4 hs => ?_
  obtain ⟨o, H4, I4, ps, rfl, rfl⟩ := hs
  obtain ⟨l, rfl, el⟩ := IsPart.raw pl
  obtain ⟨u, rfl, eu⟩ := IsPart.raw pu
  obtain ⟨o, rfl, eo⟩ := IsPart.raw ps
  obtain rfl : l = none := by cases l <;> simp_all
  obtain rfl : u = none := by cases u <;> simp_all
  obtain ⟨uk, rfl⟩ : ∃ uk, o = some (-1, uk) := by
    match o, eo with
    | some (i, uk), eo => exact ⟨uk, by simp at eo; rw [← eo]⟩
  have I5 : Inv X pins σ H4 { s4 with heap := s4.heap.push { cls := .type "slice", data := .fields #[partValue none, partValue none, partValue (some (-1, uk))] } } := I4.kept (t' := s4.toks) fun b ob q => Heap.get?_push_of_some _ q
  refine tail_any (T := "str") (ops := [.ref s4.heap.objs.size, .str z t]) (typeIs_str _ _ _) F.slot_str_getitem.lookup ?_ (by with_unfolding_all rfl)
  refine wpAny_getItem_str_slice (l := none) (u := none) (st := some (-1, uk)) ⟨_, Heap.get?_push_size _ rfl, rfl, rfl⟩ rfl ?_
  have hle := Txt.sliceBy_le z none none (-1, uk) (show (-1 : Int) ≠ 0 by decide)
  exact post_val_or_str ⟨Nat.le_trans hle hz, fun t' c => ⟨.str _, H4, I5.tok _, ⟨_, rfl⟩, q _ by_mem hle⟩⟩
end My

set_option Elab.async false
set_option maxRecDepth 100000
set_option maxHeartbeats 4000000
namespace My
open PySem L2 TL PyProof.Rows
/-- tuple * int, up to a million items -/
def rRepTW (K : PySem.W.Frag) : R2 := fun x y H Q => ∃ l k xs, x = .ref l ∧ y = .int k ∧ SqT K H l xs ∧ xs ≠ [] ∧ 2 ≤ k ∧ (xs.length : Int) * k ≤ 1000000 ∧ ∀ p, H p = none → Q (.ref p) (upd H p (.tup (List.replicate k.toNat xs).flatten))
theorem op_repTW {X : Cx} : OpR X (binaryOp .Mult) (rRepTW X.K) := by
  intro pins s σ H x y v u Q I rx ry h
  obtain ⟨l, k, xs, rfl, rfl, hT, hne, h1, hm, q⟩ := h
  cases rx; obtain ⟨t, rfl⟩ := ry
  obtain ⟨its, r, ⟨⟨cls, dd, data, sl⟩, ho, hc, n, hd⟩, hs⟩ := I.tuple hT
  simp only at hc hd
  subst hc hd
  have el : its.length = xs.length := r.length.symm
  have ez : its.toArray.size = xs.length := by simp [el]
  have pos : 0 < xs.length := List.length_pos_iff.mpr hne
  have kle : k ≤ 1000000 := by
    have := Int.mul_le_mul_of_nonneg_right (c := k) (show (1 : Int) ≤ xs.length by omega) (by omega)
    omega
  have hm2 : k.toNat * xs.length ≤ 1000000 := by
    have e : ((k.toNat * xs.length : Nat) : Int) = (xs.length : Int) * k := by rw [Int.natCast_mul, Int.toNat_of_nonneg (by omega), Int.mul_comm]
    omega
  have ie : its.toArray.isEmpty = false := by
    cases its with
    | nil => simp at el; omega
    | cons a b => rfl
  have flen : (List.replicate k.toNat its).flatten.length ≤ sizeLine := by rw [lm_len_rep_flat, el]; exact sz hm2
  have flen2 : (List.replicate k.toNat xs).flatten.length ≤ sizeLine := by rw [lm_len_rep_flat]; exact sz hm2
  have g0 : (decide (k < -(2 ^ 63)) || decide (k ≥ 2 ^ 63)) = false := by simp; omega
  have g1 : (its.toArray.isEmpty || k == 1) = false := by rw [ie]; simp; omega
  have g2 : (decide (k ≤ 0) || its.toArray.isEmpty) = false := by rw [ie]; simp; omega
  have g3 : ¬ ((its.toArray.size : Nat) : Int) * k > (2 ^ 63 - 1) / 8 := by rw [ez]; omega
  have g4 : Builtin.Tuple.tupleTooMany (((its.toArray.size : Nat) : Int) * k) = false := by
    unfold Builtin.Tuple.tupleTooMany; rw [ez, sizeLine_eq]; exact decide_eq_false (by omega)
  have g5 : (List.foldl (fun x1 x2 => x1 ++ x2) #[] (List.replicate k.toNat its.toArray)).size ≤ sizeLine := by rw [size_rep, List.size_toArray]; exact flen
  have M := tuple_mulW l its.toArray n dd sl k t g0 g1 g2 g3 g4 g5
  have N := int_rmul_tuple k t l its.toArray n dd sl
  refine wpAny_binaryOp_repeat_ref (T := "tuple") (U := "int") (by decide) ⟨_, ho, rfl⟩ (fun s' => typeIs_int s' k t) noFill_tuple_mul F.fills_int_mul
    F.slot_int_rmul repeat_tuple F.slot_int_index.lookup (call_meets F.slot_int_rmul (typeIs_int s k t) F.entry_int_rmul (F.args_int_rmul_2 _ _) N
      ⟨ho, rfl, ⟨_, ho, rfl⟩, call_meets F.slot_tuple_mul ⟨_, ho, rfl⟩ F.entry_tuple_mul (F.args_tuple_mul_2 _ _) M ⟨ho, ?_⟩⟩)
  rw [size_rep]
  exact ⟨.ref _, _, I.laid (t' := s.toks) (o := .tup (List.replicate k.toNat xs).flatten) (fun b ob q => Heap.get?_push_of_some _ q) (Nat.le_refl _)
    ⟨flen2, _, r.rep k.toNat, IsTup.new _ _⟩, rfl, q _ (I.hok.fresh (Nat.le_refl _))⟩
end My

set_option Elab.async false
set_option maxRecDepth 100000
set_option maxHeartbeats 4000000
namespace My
open PySem L2 TL
def top (i : Nat) : Stmt := PySem.Challenge.pw_stillread_k09_whole_digits_of_cells.main.body.getD i (.Pass ⟨0, 0, 0, 0⟩)
abbrev s_is_number : Stmt := top 6
abbrev n_is_number : List Str := ["value", "least", "most"]
theorem sc_is_number : FnScope n_is_number ["value", "least", "most"] (defScope s_is_number) := ⟨rfl, rfl, rfl, by decide +kernel, rfl, by decide +kernel, by decide +kernel⟩
abbrev s_is_cell : Stmt := top 9
abbrev n_is_cell : List Str := ["value"]
theorem sc_is_cell : FnScope n_is_cell ["value"] (defScope s_is_cell) := ⟨rfl, rfl, rfl, by decide +kernel, rfl, by decide +kernel, by decide +kernel⟩
abbrev s_is_cells : Stmt := top 10
abbrev n_is_cells : List Str := ["value", "cell"]
theorem sc_is_cells : FnScope n_is_cells ["value"] (defScope s_is_cells) := ⟨rfl, rfl, rfl, by decide +kernel, rfl, by decide +kernel, by decide +kernel⟩
abbrev s_check_cells : Stmt := top 11
abbrev n_check_cells : List Str := ["cells", "most"]
theorem sc_check_cells : FnScope n_check_cells ["cells", "most"] (defScope s_check_cells) := ⟨rfl, rfl, rfl, by decide +kernel, rfl, by decide +kernel, by decide +kernel⟩
abbrev s_is_text : Stmt := top 18
abbrev n_is_text : List Str := ["value"]
theorem sc_is_text : FnScope n_is_text ["value"] (defScope s_is_text) := ⟨rfl, rfl, rfl, by decide +kernel, rfl, by decide +kernel, by decide +kernel⟩
abbrev s_check_text : Stmt := top 19
abbrev n_check_text : List Str := ["text"]
theorem sc_check_text : FnScope n_check_text ["text"] (defScope s_check_text) := ⟨rfl, rfl, rfl, by decide +kernel, rfl, by decide +kernel, by decide +kernel⟩
abbrev s_is_window : Stmt := top 20
abbrev n_is_window : List Str := ["value"]
theorem sc_is_window : FnScope n_is_window ["value"] (defScope s_is_window) := ⟨rfl, rfl, rfl, by decide +kernel, rfl, by decide +kernel, by decide +kernel⟩
abbrev s_digits_of : Stmt := top 21
abbrev n_digits_of : List Str := ["cells", "cell"]
theorem sc_digits_of : FnScope n_digits_of ["cells"] (defScope s_digits_of) := ⟨rfl, rfl, rfl, by decide +kernel, rfl, by decide +kernel, by decide +kernel⟩
abbrev s_cells_text : Stmt := top 22
abbrev n_cells_text : List Str := ["cells"]
theorem sc_cells_text : FnScope n_cells_text ["cells"] (defScope s_cells_text) := ⟨rfl, rfl, rfl, by decide +kernel, rfl, by decide +kernel, by decide +kernel⟩
abbrev s_told_cells : Stmt := top 23
abbrev n_told_cells : List Str := ["text"]
theorem sc_told_cells : FnScope n_told_cells ["text"] (defScope s_told_cells) := ⟨rfl, rfl, rfl, by decide +kernel, rfl, by decide +kernel, by decide +kernel⟩
abbrev s_digits_cells : Stmt := top 24
abbrev n_digits_cells : List Str := ["signs", "cells", "at"]
theorem sc_digits_cells : FnScope n_digits_cells ["signs"] (defScope s_digits_cells) := ⟨rfl, rfl, rfl, by decide +kernel, rfl, by decide +kernel, by decide +kernel⟩
abbrev s_window_text : Stmt := top 25
abbrev n_window_text : List Str := ["cells"]
theorem sc_window_text : FnScope n_window_text ["cells"] (defScope s_window_text) := ⟨rfl, rfl, rfl, by decide +kernel, rfl, by decide +kernel, by decide +kernel⟩
abbrev s_window_cells : Stmt := top 26
abbrev n_window_cells : List Str := ["text"]
theorem sc_window_cells : FnScope n_window_cells ["text"] (defScope s_window_cells) := ⟨rfl, rfl, rfl, by decide +kernel, rfl, by decide +kernel, by decide +kernel⟩
abbrev s_cells_from : Stmt := top 27
abbrev n_cells_from : List Str := ["text", "place", "last"]
theorem sc_cells_from : FnScope n_cells_from ["text", "place"] (defScope s_cells_from) := ⟨rfl, rfl, rfl, by decide +kernel, rfl, by decide +kernel, by decide +kernel⟩
abbrev s_law_tray : Stmt := top 29
abbrev n_law_tray : List Str := ["script", "spot", "cell", "great"]
theorem sc_law_tray : FnScope n_law_tray ["script", "spot"] (defScope s_law_tray) := ⟨rfl, rfl, rfl, by decide +kernel, rfl, by decide +kernel, by decide +kernel⟩
abbrev s_law_pluck : Stmt := top 30
abbrev n_law_pluck : List Str := ["tray", "total", "found", "one", "two"]
theorem sc_law_pluck : FnScope n_law_pluck ["tray", "total"] (defScope s_law_pluck) := ⟨rfl, rfl, rfl, by decide +kernel, rfl, by decide +kernel, by decide +kernel⟩
abbrev s_law_some : Stmt := top 31
abbrev n_law_some : List Str := ["tray", "items"]
theorem sc_law_some : FnScope n_law_some ["tray", "items"] (defScope s_law_some) := ⟨rfl, rfl, rfl, by decide +kernel, rfl, by decide +kernel, by decide +kernel⟩
abbrev s_law_three : Stmt := top 32
abbrev n_law_three : List Str := ["cell"]
theorem sc_law_three : FnScope n_law_three ["cell"] (defScope s_law_three) := ⟨rfl, rfl, rfl, by decide +kernel, rfl, by decide +kernel, by decide +kernel⟩
abbrev s_law_told : Stmt := top 33
abbrev n_law_told : List Str := ["digits", "found", "at", "three", "sign"]
theorem sc_law_told : FnScope n_law_told ["digits"] (defScope s_law_told) := ⟨rfl, rfl, rfl, by decide +kernel, rfl, by decide +kernel, by decide +kernel⟩
abbrev s_law_window : Stmt := top 34
abbrev n_law_window : List Str := ["cells", "cell"]
theorem sc_law_window : FnScope n_law_window ["cells"] (defScope s_law_window) := ⟨rfl, rfl, rfl, by decide +kernel, rfl, by decide +kernel, by decide +kernel⟩
abbrev s_law_cells : Stmt := top 36
abbrev n_law_cells : List Str := ["tray", "way", "found", "turn"]
theorem sc_law_cells : FnScope n_law_cells ["tray"] (defScope s_law_cells) := ⟨rfl, rfl, rfl, by decide +kernel, rfl, by decide +kernel, by decide +kernel⟩
abbrev s_law_near : Stmt := top 39
abbrev n_law_near : List Str := ["tray", "text", "at", "found"]
theorem sc_law_near : FnScope n_law_near ["tray", "text"] (defScope s_law_near) := ⟨rfl, rfl, rfl, by decide +kernel, rfl, by decide +kernel, by decide +kernel⟩
abbrev s_law_is_window : Stmt := top 40
abbrev n_law_is_window : List Str := ["value"]
theorem sc_law_is_window : FnScope n_law_is_window ["value"] (defScope s_law_is_window) := ⟨rfl, rfl, rfl, by decide +kernel, rfl, by decide +kernel, by decide +kernel⟩
abbrev s_law_odd_values : Stmt := top 41
abbrev n_law_odd_values : List Str := ["tray"]
theorem sc_law_odd_values : FnScope n_law_odd_values ["tray"] (defScope s_law_odd_values) := ⟨rfl, rfl, rfl, by decide +kernel, rfl, by decide +kernel, by decide +kernel⟩
abbrev s_law_right : Stmt := top 42
abbrev n_law_right : List Str := ["tray", "many", "cells", "text", "other", "forty", "window", "due", "turn", "cell", "value"]
theorem sc_law_right : FnScope n_law_right ["tray"] (defScope s_law_right) := ⟨rfl, rfl, rfl, by decide +kernel, rfl, by decide +kernel, by decide +kernel⟩
abbrev s_law : Stmt := top 43
abbrev n_law : List Str := ["script", "spot", "tray", "turn", "told"]
theorem sc_law : FnScope n_law ["script"] (defScope s_law) := ⟨rfl, rfl, rfl, by decide +kernel, rfl, by decide +kernel, by decide +kernel⟩
structure Ad where
  is_number : Addr
  is_cell : Addr
  is_cells : Addr
  check_cells : Addr
  is_text : Addr
  check_text : Addr
  is_window : Addr
  digits_of : Addr
  cells_text : Addr
  told_cells : Addr
  digits_cells : Addr
  window_text : Addr
  window_cells : Addr
  cells_from : Addr
  law_tray : Addr
  law_pluck : Addr
  law_some : Addr
  law_three : Addr
  law_told : Addr
  law_window : Addr
  law_cells : Addr
  law_near : Addr
  law_is_window : Addr
  law_odd_values : Addr
  law_right : Addr
  law : Addr
structure Fd where
  is_number : FuncData
  is_cell : FuncData
  is_cells : FuncData
  check_cells : FuncData
  is_text : FuncData
  check_text : FuncData
  is_window : FuncData
  digits_of : FuncData
  cells_text : FuncData
  told_cells : FuncData
  digits_cells : FuncData
  window_text : FuncData
  window_cells : FuncData
  cells_from : FuncData
  law_tray : FuncData
  law_pluck : FuncData
  law_some : FuncData
  law_three : FuncData
  law_told : FuncData
  law_window : FuncData
  law_cells : FuncData
  law_near : FuncData
  law_is_window : FuncData
  law_odd_values : FuncData
  law_right : FuncData
  law : FuncData
structure Txt (K : PySem.W.Frag) (mg : Str → Option Value) (a : Ad) (d : Fd) : Prop where
  b_abs : mg "abs" = none
  b_all : mg "all" = none
  b_bool : mg "bool" = none
  b_int : mg "int" = none
  b_isinstance : mg "isinstance" = none
  b_len : mg "len" = none
  b_max : mg "max" = none
  b_min : mg "min" = none
  b_range : mg "range" = none
  b_str : mg "str" = none
  b_tuple : mg "tuple" = none
  c_CELL_DIGITS : ∃ t, mg "CELL_DIGITS" = some (.int 3 t)
  c_LONGEST : ∃ t, mg "LONGEST" = some (.int 999999999999999999999999999999999999999999999999999999999999 t)
  c_MAX_CELL : ∃ t, mg "MAX_CELL" = some (.int 996 t)
  c_MOST_DIGITS : ∃ t, mg "MOST_DIGITS" = some (.int 20000 t)
  c_MOST_SIGNS : ∃ t, mg "MOST_SIGNS" = some (.int 60000 t)
  c_WINDOW_CELLS : ∃ t, mg "WINDOW_CELLS" = some (.int 40 t)
  c_WINDOW_SIGNS : ∃ t, mg "WINDOW_SIGNS" = some (.int 122 t)
  g_is_number : mg "is_number" = some (.ref a.is_number)
  k_is_number : PySem.W.keepIn K (.ref a.is_number) = true
  B_is_number : Binds K d.is_number ["value", "least", "most"] []
  F_is_number : Fun K "is_number" "is_number" s_is_number a.is_number d.is_number
  g_is_cell : mg "is_cell" = some (.ref a.is_cell)
  k_is_cell : PySem.W.keepIn K (.ref a.is_cell) = true
  B_is_cell : Binds K d.is_cell ["value"] []
  F_is_cell : Fun K "is_cell" "is_cell" s_is_cell a.is_cell d.is_cell
  g_is_cells : mg "is_cells" = some (.ref a.is_cells)
  k_is_cells : PySem.W.keepIn K (.ref a.is_cells) = true
  B_is_cells : Binds K d.is_cells ["value"] []
  F_is_cells : Fun K "is_cells" "is_cells" s_is_cells a.is_cells d.is_cells
  g_check_cells : mg "check_cells" = some (.ref a.check_cells)
  k_check_cells : PySem.W.keepIn K (.ref a.check_cells) = true
  B_check_cells : Binds K d.check_cells ["cells", "most"] []
  F_check_cells : Fun K "check_cells" "check_cells" s_check_cells a.check_cells d.check_cells
  g_is_text : mg "is_text" = some (.ref a.is_text)
  k_is_text : PySem.W.keepIn K (.ref a.is_text) = true
  B_is_text : Binds K d.is_text ["value"] []
  F_is_text : Fun K "is_text" "is_text" s_is_text a.is_text d.is_text
  g_check_text : mg "check_text" = some (.ref a.check_text)
  k_check_text : PySem.W.keepIn K (.ref a.check_text) = true
  B_check_text : Binds K d.check_text ["text"] []
  F_check_text : Fun K "check_text" "check_text" s_check_text a.check_text d.check_text
  g_is_window : mg "is_window" = some (.ref a.is_window)
  k_is_window : PySem.W.keepIn K (.ref a.is_window) = true
  B_is_window : Binds K d.is_window ["value"] []
  F_is_window : Fun K "is_window" "is_window" s_is_window a.is_window d.is_window
  g_digits_of : mg "digits_of" = some (.ref a.digits_of)
  k_digits_of : PySem.W.keepIn K (.ref a.digits_of) = true
  B_digits_of : Binds K d.digits_of ["cells"] []
  F_digits_of : Fun K "digits_of" "digits_of" s_digits_of a.digits_of d.digits_of
  g_cells_text : mg "cells_text" = some (.ref a.cells_text)
  k_cells_text : PySem.W.keepIn K (.ref a.cells_text) = true
  B_cells_text : Binds K d.cells_text ["cells"] []
  F_cells_text : Fun K "cells_text" "cells_text" s_cells_text a.cells_text d.cells_text
  g_told_cells : mg "told_cells" = some (.ref a.told_cells)
  k_told_cells : PySem.W.keepIn K (.ref a.told_cells) = true
  B_told_cells : Binds K d.told_cells ["text"] []
  F_told_cells : Fun K "told_cells" "told_cells" s_told_cells a.told_cells d.told_cells
  g_digits_cells : mg "digits_cells" = some (.ref a.digits_cells)
  k_digits_cells : PySem.W.keepIn K (.ref a.digits_cells) = true
  B_digits_cells : Binds K d.digits_cells ["signs"] []
  F_digits_cells : Fun K "digits_cells" "digits_cells" s_digits_cells a.digits_cells d.digits_cells
  g_window_text : mg "window_text" = some (.ref a.window_text)
  k_window_text : PySem.W.keepIn K (.ref a.window_text) = true
  B_window_text : Binds K d.window_text ["cells"] []
  F_window_text : Fun K "window_text" "window_text" s_window_text a.window_text d.window_text
  g_window_cells : mg "window_cells" = some (.ref a.window_cells)
  k_window_cells : PySem.W.keepIn K (.ref a.window_cells) = true
  B_window_cells : Binds K d.window_cells ["text"] []
  F_window_cells : Fun K "window_cells" "window_cells" s_window_cells a.window_cells d.window_cells
  g_cells_from : mg "cells_from" = some (.ref a.cells_from)
  k_cells_from : PySem.W.keepIn K (.ref a.cells_from) = true
  B_cells_from : Binds K d.cells_from ["text", "place"] []
  F_cells_from : Fun K "cells_from" "cells_from" s_cells_from a.cells_from d.cells_from
  g_law_tray : mg "_law_tray" = some (.ref a.law_tray)
  k_law_tray : PySem.W.keepIn K (.ref a.law_tray) = true
  B_law_tray : Binds K d.law_tray ["script", "spot"] []
  F_law_tray : Fun K "_law_tray" "_law_tray" s_law_tray a.law_tray d.law_tray
  g_law_pluck : mg "_law_pluck" = some (.ref a.law_pluck)
  k_law_pluck : PySem.W.keepIn K (.ref a.law_pluck) = true
  B_law_pluck : Binds K d.law_pluck ["tray", "total"] []
  F_law_pluck : Fun K "_law_pluck" "_law_pluck" s_law_pluck a.law_pluck d.law_pluck
  g_law_some : mg "_law_some" = some (.ref a.law_some)
  k_law_some : PySem.W.keepIn K (.ref a.law_some) = true
  B_law_some : Binds K d.law_some ["tray", "items"] []
  F_law_some : Fun K "_law_some" "_law_some" s_law_some a.law_some d.law_some
  g_law_three : mg "_law_three" = some (.ref a.law_three)
  k_law_three : PySem.W.keepIn K (.ref a.law_three) = true
  B_law_three : Binds K d.law_three ["cell"] []
  F_law_three : Fun K "_law_three" "_law_three" s_law_three a.law_three d.law_three
  g_law_told : mg "_law_told" = some (.ref a.law_told)
  k_law_told : PySem.W.keepIn K (.ref a.law_told) = true
  B_law_told : Binds K d.law_told ["digits"] []
  F_law_told : Fun K "_law_told" "_law_told" s_law_told a.law_told d.law_told
  g_law_window : mg "_law_window" = some (.ref a.law_window)
  k_law_window : PySem.W.keepIn K (.ref a.law_window) = true
  B_law_window : Binds K d.law_window ["cells"] []
  F_law_window : Fun K "_law_window" "_law_window" s_law_window a.law_window d.law_window
  g_law_cells : mg "_law_cells" = some (.ref a.law_cells)
  k_law_cells : PySem.W.keepIn K (.ref a.law_cells) = true
  B_law_cells : Binds K d.law_cells ["tray"] []
  F_law_cells : Fun K "_law_cells" "_law_cells" s_law_cells a.law_cells d.law_cells
  g_law_near : mg "_law_near" = some (.ref a.law_near)
  k_law_near : PySem.W.keepIn K (.ref a.law_near) = true
  B_law_near : Binds K d.law_near ["tray", "text"] []
  F_law_near : Fun K "_law_near" "_law_near" s_law_near a.law_near d.law_near
  g_law_is_window : mg "_law_is_window" = some (.ref a.law_is_window)
  k_law_is_window : PySem.W.keepIn K (.ref a.law_is_window) = true
  B_law_is_window : Binds K d.law_is_window ["value"] []
  F_law_is_window : Fun K "_law_is_window" "_law_is_window" s_law_is_window a.law_is_window d.law_is_window
  g_law_odd_values : mg "_law_odd_values" = some (.ref a.law_odd_values)
  k_law_odd_values : PySem.W.keepIn K (.ref a.law_odd_values) = true
  B_law_odd_values : Binds K d.law_odd_values ["tray"] []
  F_law_odd_values : Fun K "_law_odd_values" "_law_odd_values" s_law_odd_values a.law_odd_values d.law_odd_values
  g_law_right : mg "_law_right" = some (.ref a.law_right)
  k_law_right : PySem.W.keepIn K (.ref a.law_right) = true
  B_law_right : Binds K d.law_right ["tray"] []
  F_law_right : Fun K "_law_right" "_law_right" s_law_right a.law_right d.law_right
  g_law : mg "law" = some (.ref a.law)
  k_law : PySem.W.keepIn K (.ref a.law) = true
  B_law : Binds K d.law ["script"] []
  F_law : Fun K "law" "law" s_law a.law d.law
/-! ### the promises -/
def encT (c : List Int) : PyData := .tuple (c.map .int)
def encO : Option (List Int) → PyData
  | none => .none
  | some c => encT c
def encW (x : Nat × List Int) : PyData := .tuple [.int x.1, encT x.2]
def sp_check_text (K : PySem.W.Frag) : Sp := fun vs H Q _ => ∃ z : Str, vs = [.str z] ∧ pr z ∧ z.length ≤ 60000 ∧ Q .non H
def sp_digits_cells (K : PySem.W.Frag) : Sp := fun vs H Q _ => ∃ z : Str, vs = [.str z] ∧ pr z ∧ z.length ≤ 60000 ∧ ∀ v H', Same H H' → Tp K H' v (encO (toldL (tl z))) → Q v H'
def sp_cells_from (K : PySem.W.Frag) : Sp := fun vs H Q _ => ∃ (z : Str) (p : Nat), vs = [.str z, .int p] ∧ pr z ∧ z.length ≤ 60000 ∧ p + 122 ≤ z.length ∧ ∀ v H', Same H H' → Tp K H' v (encO (winAt (tl z) p)) → Q v H'
def sp_standing (K : PySem.W.Frag) : Sp := fun vs H Q _ => ∃ (z : Str) (b e : Nat), vs = [.str z, .int b, .int e] ∧ pr z ∧ z.length ≤ 60000 ∧ b ≤ z.length ∧ e ≤ z.length ∧
  ∀ v H', Same H H' → Tp K H' v (.tuple ((wl (tl z) b (e - 121)).map encW)) → Q v H'
def sp_windows (K : PySem.W.Frag) : Sp := fun vs H Q _ => ∃ z : Str, vs = [.str z] ∧ pr z ∧ z.length ≤ 60000 ∧ ∀ v H', Same H H' → Tp K H' v (.tuple ((wl (tl z) 0 (z.length - 121)).map encW)) → Q v H'
/-- a value that is no text -/
def NotS (K : PySem.W.Frag) (H : Hp) (v : V) : Prop := ∃ t, TyX K H v t ∧ PySem.W.kitOne K t (.type "str") = some false
def sp_is_text (K : PySem.W.Frag) : Sp := fun vs H Q _ => ∃ v, vs = [v] ∧ ((∃ z : Str, v = .str z ∧ z.length ≤ sizeLine ∧ Q (.bl (txtM z)) H) ∨ (NotS K H v ∧ Q (.bl false) H))
section
local macro_rules | `(tactic| walk_at "len") => `(tactic| (intro vs H Q E h; first
  | (obtain ⟨_, e, _⟩ := h; subst e; rfl) | (obtain ⟨_, _, e, _⟩ := h; subst e; rfl) | (obtain ⟨_, _, _, e, _⟩ := h; subst e; rfl) | (obtain ⟨_, _, _, _, e, _⟩ := h; subst e; rfl)))
local macro_rules | `(tactic| walk_at "rd1") => `(tactic| first
  | refine ⟨_, rfl, ?_⟩
  | refine ⟨rfl, ?_⟩
  | refine ⟨trivial, ?_⟩
  | refine ⟨_, _, rfl, rfl, ?_⟩
  | refine ⟨_, rfl, rfl, ?_⟩
  | refine ⟨_, _, _, _, true, rfl, .ty _, .base (.str _), kit_ty (by decide +kernel), ?_⟩
  | refine ⟨_, _, _, _, true, rfl, .ty _, .base (.int _), kit_ty (by decide +kernel), ?_⟩
  | refine ⟨_, _, _, _, false, rfl, .ty _, .base (.int _), kit_ty (by decide +kernel), ?_⟩
  | refine ⟨_, rfl, rfl, trivial, ?_⟩
  | refine ⟨_, _, rfl, ?_⟩
  | refine ⟨_, _, rfl, rfl, by decide, ?_⟩
  | refine ⟨_, _, rfl, rfl, sz (by omega), ?_⟩
  | refine ⟨_, _, rfl, rfl, ⟨by decide, by decide⟩, ?_⟩
  | refine ⟨_, _, _, rfl, rfl, ?_⟩
  | refine ⟨_, _, _, rfl, ?_⟩
  | refine And.intro (Nat.zero_le _) ?_
  | refine And.intro (show List.length _ ≤ sizeLine from Nat.le_of_ble_eq_true rfl) ?_
  | refine And.intro (.inl ⟨rfl, _, SqL.of (by assumption)⟩) ?_
  | refine And.intro (by assumption) ?_
  | refine And.intro (sz (by omega)) ?_
  | refine And.intro (by omega) ?_
  | refine Or.inl ⟨_, rfl, ?_⟩
  | refine Or.inr ⟨_, rfl, ?_⟩
  | refine ⟨_, _, rfl, .inl (SqL.of (by assumption)), ?_⟩
  | refine ⟨_, _, rfl, .inl (by assumption), ?_⟩
  | refine ⟨_, _, rfl, .inr (by assumption), ?_⟩
  | refine ⟨_, _, _, _, rfl, rfl, SqL.of (by assumption), rfl, ?_⟩
  | refine ⟨_, _, _, _, rfl, rfl, SqL.of upd_same, rfl, ?_⟩
  | refine ⟨_, _, _, _, rfl, rfl, by assumption, rfl, ?_⟩
  | refine ⟨_, _, _, _, rfl, rfl, upd_same, rfl, ?_⟩
  | refine And.intro (show CPow _ _ from ⟨by decide, by decide, by decide⟩) ?_
  | refine And.intro (show CDiv _ _ from ⟨by decide, by decide⟩) ?_
  | refine And.intro (show CMul _ _ from .inl ⟨by decide, by decide⟩) ?_
  | refine And.intro (show CMul _ _ from .inr ⟨by decide, by decide⟩) ?_)
local macro_rules | `(tactic| walk_at "rd") => `(tactic| repeat (walk_at "rd1"))
section
variable {P : Program} {w : World} {K : PySem.W.Frag} {mg : Str → Option Value} {base : Heap} {a : Ad} {d : Fd}
theorem ok_is_text (T : Txt K mg a d)  : FnOk P w K mg base CX0 1 a.is_text d.is_text ["value"] (sp_is_text K) := by
  refine T.F_is_text.ok sc_is_text (by walk_at "len") (fun cdv A outer s H vs Q E hr h => ?_)
  obtain ⟨v, rfl, h⟩ := h
  refine ⟨_, (pss_one (ps_ret (pe_and (pe_callB call_isi (by rfl) T.b_isinstance (by decide +kernel) (pa_cons (pv 0) (pa_cons (pe_bltn (v := .ty "str") (by rfl) T.b_str (by decide +kernel) rfl) pa_nil))) (pe_and (pe_cmpR op_le (pe_callB call_len_str (by rfl) T.b_len (by decide +kernel) (pa_cons (pv 0) pa_nil)) (pe_glob (v := .int 60000) rfl T.c_MOST_SIGNS.choose_spec ⟨_, rfl⟩) (nomark _)) (pe_and (pe_bm0 PySem.F.plainAttrs_str PySem.F.slot_str_isascii PySem.F.type_str_isascii mt_isascii (pv 0)) (pe_one (pe_bm0 PySem.F.plainAttrs_str PySem.F.slot_str_isprintable PySem.F.type_str_isprintable mt_isprintable (pv 0)))))))), ?_⟩
  rcases h with ⟨z, rfl, hz, k⟩ | ⟨⟨t, ht, hk⟩, k⟩
  · walk_at "rd"
    refine iteB (fun h1 => ?_) (fun h1 => ?_)
    · walk_at "rd"
      refine iteB (fun h2 => ?_) (fun h2 => ?_)
      · walk_at "rd"
        unfold txtM at k
        rw [h1, h2] at k
        exact k
      · unfold txtM at k
        rw [h1, h2] at k
        exact k
    · unfold txtM at k
      rw [h1] at k
      exact k
  · refine ⟨v, rfl, ?_⟩
    walk_at "rd"
    refine ⟨_, _, _, _, false, rfl, .ty _, ht, hk, ?_⟩
    walk_at "rd"
    exact iteF k
theorem ok_check_text (T : Txt K mg a d) (G_is_text : FnOk P w K mg base CX0 1 a.is_text d.is_text ["value"] (sp_is_text K)) : FnOk P w K mg base CX0 2 a.check_text d.check_text ["text"] (sp_check_text K) := by
  refine T.F_check_text.ok sc_check_text (by walk_at "len") (fun cdv A outer s H vs Q E hr h => ?_)
  obtain ⟨z, rfl, hp, hz, k⟩ := h
  refine ⟨_, (pss_one (ps_if (pt_not (pt_val (pe_call G_is_text (hr.mono (by decide)) (by rfl) T.g_is_text T.k_is_text T.B_is_text .nil pass0 (pa_cons (pv 0) pa_nil)))) (pss_one ps_never) pss_nil)), ?_⟩
  walk_at "rd"
  rw [txtM_ok hp hz]
  exact k
theorem ok_digits_cells (T : Txt K mg a d)  : FnOk P w K mg base CX0 1 a.digits_cells d.digits_cells ["signs"] (sp_digits_cells K) := by
  refine T.F_digits_cells.ok sc_digits_cells (by walk_at "len") (fun cdv A outer s H vs Q E hr h => ?_)
  obtain ⟨z, rfl, hp, hz, k⟩ := h
  have hz1 : z.length ≤ sizeLine := sz (by omega)
  have hlt := len_tl z
  refine ⟨_, (pss_cons (ps_if (pt_cmpR op_eq (pv 0) pe_str (nomark _)) (pss_one (ps_ret (pe_tup pa_nil))) pss_nil)
      (pss_cons (ps_if (PW.pt (pw_or (pt_truth (pe_op op_mod (pe_callB call_len_str (by rfl) T.b_len (by decide +kernel) (pa_cons (pv 0) pa_nil)) (pe_glob (v := .int 3) rfl T.c_CELL_DIGITS.choose_spec ⟨_, rfl⟩)) (by intro _; rfl)) (pw_or1 (pt_not (pt_val (pe_bm0 PySem.F.plainAttrs_str PySem.F.slot_str_isdigit PySem.F.type_str_isdigit mt_isdigit (pv 0))))))) (pss_one (ps_ret pe_non)) pss_nil)
      (pss_cons (ps_setLc (i := 1) (own := [("at", 2)]) rfl sc_digits_cells.nd rfl rfl (sw_true rfl rfl rfl (by decide +kernel)) (pi_range3 (by rfl) T.b_range (pa_cons pe_int (pa_cons (pe_callB call_len_str (by rfl) T.b_len (by decide +kernel) (pa_cons (pv 0) pa_nil)) (pa_cons (pe_glob (v := .int 3) rfl T.c_CELL_DIGITS.choose_spec ⟨_, rfl⟩) pa_nil)))) (blkOk_by (N := n_digits_cells) (sc := defScope s_digits_cells) (by decide +kernel)) (fun _ _ _ _ _ => (pg_name (i := 2) sc_digits_cells.nd rfl (Or.inl rfl))) (fun _ _ _ _ _ => pts_nil) (fun _ _ _ _ _ => (pe_callTy call_int_str (by rfl) T.b_int (by decide +kernel) (pa_cons (pe_slice sl_str (pv 0) (po_some (pv 2)) (po_some (pe_op op_add (pv 2) (pe_glob (v := .int 3) rfl T.c_CELL_DIGITS.choose_spec ⟨_, rfl⟩)))) pa_nil))))
      (pss_one (ps_ret (pe_ifExp (pt_cmpR op_le (pe_callB (cr_max rfl) (by rfl) T.b_max (by decide +kernel) (pa_cons (pv 1) pa_nil)) (pe_glob (v := .int 996) rfl T.c_MAX_CELL.choose_spec ⟨_, rfl⟩) (nomark _)) (pe_callTy call_tuple_of (by rfl) T.b_tuple (by decide +kernel) (pa_cons (pv 1) pa_nil)) pe_non)))))), ?_⟩
  walk_at "rd"
  refine iteB (fun h1 => ?_) (fun h1 => ?_)
  · have ez : z = "" := by simpa using h1
    subst ez
    refine ⟨Nat.zero_le _, fun p hp => ?_⟩
    exact k _ _ (Same.new hp) (.tup (SqT.of upd_same) .nil)
  walk_at "rd"
  refine iteB (fun h2 => ?_) (fun h2 => ?_)
  · have e : toldL (tl z) = none := told_mod (by simp at h2; omega)
    rw [e] at k
    exact k _ _ (Same.refl H) .non
  have hm : (tl z).length % 3 = 0 := by simp at h2; omega
  walk_at "rd"
  rw [isdigit_pr hp]
  have hpos : 0 < z.length := by
    by_cases g : 0 < z.length
    · exact g
    · exfalso
      have : tl z = [] := List.eq_nil_of_length_eq_zero (by omega)
      have ez : z = "" := ext_tl this
      subst ez
      simp at h1
  rw [decide_eq_true hpos, Bool.true_and]
  refine iteB (fun h3 => ?_) (fun h3 => ?_)
  · have e : toldL (tl z) = none := told_nd (by simpa using h3)
    rw [e] at k
    exact k _ _ (Same.refl H) .non
  have hd : (tl z).all dg = true := by simpa using h3
  walk_at "rd"
  refine ⟨_, _, _, _, rfl, rg3 z.length (by omega), fun D hD => ?_⟩
  refine lc_it walk_rangeC (fun i H' => Same H H' ∧ H' D = some (.lst ((vals (tl z) i).map V.int))) ⟨Same.new hD, upd_same⟩ (fun _ _ _ _ => trivial) ?_ ?_
  · rintro i x H1 H2 hi ⟨s1, hD1⟩ ⟨rfl, rfl⟩
    have hi' : i < nck (tl z) := by unfold nck; omega
    walk_at "rd"
    rw [cut_ck]
    have hck : (ck (tl z) i).length = 3 := ck_len hm hi'
    refine ⟨_, _, rfl, int_ck (ck_dg hd) (by intro e; rw [e] at hck; cases hck) (by omega), by show (ck (tl z) i).toArray.size ≤ 640; simp; omega, ?_⟩
    refine ⟨_, hD1, szl (by rw [List.length_map, vals_length]; omega), fun b o e => ?_, ?_⟩
    · rw [upd_ne (ne_of_none e hD)]; exact s1 b o e
    · rw [upd_same, vals_succ, List.map_append]; rfl
  · rintro H1 ⟨s1, hD1⟩
    have hn : (z.length + 2) / 3 = nck (tl z) := by unfold nck; rw [hlt]
    rw [hn] at hD1
    walk_at "rd"
    refine ⟨_, vals (tl z) (nck (tl z)), rfl, SqL.of hD1, by rw [vals_length]; unfold nck; omega, fun m hin hmx => ?_⟩
    have e := told_ok hm hd m hmx hin
    walk_at "rd"
    refine iteB (fun h4 => ?_) (fun h4 => ?_)
    · rw [if_pos (of_decide_eq_true h4)] at e
      rw [e] at k
      walk_at "rd"
      refine ⟨_, _, rfl, .inl ⟨SqL.of hD1, fun l hl => ?_⟩⟩
      exact k _ _ (s1.trans (Same.new hl)) (tp_ints (SqT.of upd_same))
    · rw [if_neg (of_decide_eq_false h4)] at e
      rw [e] at k
      exact k _ _ s1 .non
end
end
section
local macro_rules | `(tactic| walk_at "len") => `(tactic| (intro vs H Q E h; first
  | (obtain ⟨_, e, _⟩ := h; subst e; rfl) | (obtain ⟨_, _, e, _⟩ := h; subst e; rfl) | (obtain ⟨_, _, _, e, _⟩ := h; subst e; rfl) | (obtain ⟨_, _, _, _, e, _⟩ := h; subst e; rfl)))
local macro_rules | `(tactic| walk_at "rd1") => `(tactic| first
  | refine ⟨_, rfl, ?_⟩
  | refine ⟨rfl, ?_⟩
  | refine ⟨trivial, ?_⟩
  | refine ⟨_, _, rfl, rfl, ?_⟩
  | refine ⟨_, rfl, rfl, ?_⟩
  | refine ⟨_, _, _, _, true, rfl, .ty _, .base (.str _), kit_ty (by decide +kernel), ?_⟩
  | refine ⟨_, _, _, _, true, rfl, .ty _, .base (.int _), kit_ty (by decide +kernel), ?_⟩
  | refine ⟨_, _, _, _, false, rfl, .ty _, .base (.int _), kit_ty (by decide +kernel), ?_⟩
  | refine ⟨_, rfl, rfl, trivial, ?_⟩
  | refine ⟨_, _, rfl, ?_⟩
  | refine ⟨_, _, rfl, rfl, by decide, ?_⟩
  | refine ⟨_, _, rfl, rfl, sz (by omega), ?_⟩
  | refine ⟨_, _, rfl, rfl, ⟨by decide, by decide⟩, ?_⟩
  | refine ⟨_, _, _, rfl, rfl, ?_⟩
  | refine ⟨_, _, _, rfl, ?_⟩
  | refine And.intro (Nat.zero_le _) ?_
  | refine And.intro (show List.length _ ≤ sizeLine from Nat.le_of_ble_eq_true rfl) ?_
  | refine And.intro (.inl ⟨rfl, _, SqL.of (by assumption)⟩) ?_
  | refine And.intro (by assumption) ?_
  | refine And.intro (sz (by omega)) ?_
  | refine And.intro (by omega) ?_
  | refine Or.inl ⟨_, rfl, ?_⟩
  | refine Or.inr ⟨_, rfl, ?_⟩
  | refine ⟨_, _, rfl, .inl (SqL.of (by assumption)), ?_⟩
  | refine ⟨_, _, rfl, .inl (by assumption), ?_⟩
  | refine ⟨_, _, rfl, .inr (by assumption), ?_⟩
  | refine ⟨_, _, _, _, rfl, rfl, SqL.of (by assumption), rfl, ?_⟩
  | refine ⟨_, _, _, _, rfl, rfl, SqL.of upd_same, rfl, ?_⟩
  | refine ⟨_, _, _, _, rfl, rfl, by assumption, rfl, ?_⟩
  | refine ⟨_, _, _, _, rfl, rfl, upd_same, rfl, ?_⟩
  | refine And.intro (show CPow _ _ from ⟨by decide, by decide, by decide⟩) ?_
  | refine And.intro (show CDiv _ _ from ⟨by decide, by decide⟩) ?_
  | refine And.intro (show CMul _ _ from .inl ⟨by decide, by decide⟩) ?_
  | refine And.intro (show CMul _ _ from .inr ⟨by decide, by decide⟩) ?_)
local macro_rules | `(tactic| walk_at "rd") => `(tactic| repeat (walk_at "rd1"))
section
variable {P : Program} {w : World} {K : PySem.W.Frag} {mg : Str → Option Value} {base : Heap} {a : Ad} {d : Fd}
theorem sgn {c : Nat} {s : Str} {k : Nat} (h : s = ⟨#[k]⟩) : (V.str ⟨#[c]⟩ = V.str s) ↔ c = k := by
  subst h
  constructor
  · intro e
    injection e with e
    injection e with e
    simpa using e
  · rintro rfl; rfl
theorem ok_cells_from (T : Txt K mg a d) (G_digits_cells : FnOk P w K mg base CX0 1 a.digits_cells d.digits_cells ["signs"] (sp_digits_cells K)) : FnOk P w K mg base CX0 2 a.cells_from d.cells_from ["text", "place"] (sp_cells_from K) := by
  refine T.F_cells_from.ok sc_cells_from (by walk_at "len") (fun cdv A outer s H vs Q E hr h => ?_)
  obtain ⟨z, p, rfl, hp, hz, hl, k⟩ := h
  have hz1 : z.length ≤ sizeLine := sz (by omega)
  have hlt := len_tl z
  obtain ⟨c1, hc1⟩ : ∃ c, (tl z)[p]? = some c := ⟨_, List.getElem?_eq_getElem (by omega)⟩
  obtain ⟨c2, hc2⟩ : ∃ c, (tl z)[p + 121]? = some c := ⟨_, List.getElem?_eq_getElem (by omega)⟩
  have e2 : ((p : Int) + 122 - 1) = ((p + 121 : Nat) : Int) := by omega
  refine ⟨_, (pss_cons (ps_set (i := 2) sc_cells_from.nd rfl (Or.inl rfl) (pe_op op_sub (pe_op op_add (pv 1) (pe_glob (v := .int 122) rfl T.c_WINDOW_SIGNS.choose_spec ⟨_, rfl⟩)) pe_int))
      (pss_cons (ps_if (PW.pt (pw_or (pt_cmpR op_ne (pe_ix ix_str (pv 0) (pv 1) (fun _ _ => rfl)) pe_str (nomark _)) (pw_or1 (pt_cmpR op_ne (pe_ix ix_str (pv 0) (pv 2) (fun _ _ => rfl)) pe_str (nomark _))))) (pss_one (ps_ret pe_non)) pss_nil)
      (pss_one (ps_ret (pe_call G_digits_cells (hr.mono (by decide)) (by rfl) T.g_digits_cells T.k_digits_cells T.B_digits_cells .nil pass0 (pa_cons (pe_slice sl_str (pv 0) (po_some (pe_op op_add (pv 1) pe_int)) (po_some (pv 2))) pa_nil)))))), ?_⟩
  walk_at "rd"
  refine ⟨_, _, c1, rfl, rfl, hz1, atI_nat hc1, ?_⟩
  walk_at "rd"
  have no : ¬ ((tl z)[p]? = some 35 ∧ (tl z)[p + 121]? = some 59) → winAt (tl z) p = none := fun g => by unfold winAt; rw [if_neg g]
  refine iteB (fun h1 => ?_) (fun h1 => ?_)
  · walk_at "rd"
    rw [no (by rintro ⟨g, _⟩; rw [hc1] at g; rw [(sgn (s := "#") (k := 35) rfl).mpr (Option.some.inj g)] at h1; simp at h1)] at k
    exact k _ _ (Same.refl H) .non
  have g1 : c1 = 35 := (sgn (s := "#") (k := 35) rfl).mp (by simpa using h1)
  walk_at "rd"
  refine ⟨_, _, c2, rfl, rfl, hz1, by rw [e2]; exact atI_nat hc2, ?_⟩
  walk_at "rd"
  refine iteB (fun h2 => ?_) (fun h2 => ?_)
  · walk_at "rd"
    rw [no (by rintro ⟨_, g⟩; rw [hc2] at g; rw [(sgn (s := ";") (k := 59) rfl).mpr (Option.some.inj g)] at h2; simp at h2)] at k
    exact k _ _ (Same.refl H) .non
  have g2 : c2 = 59 := (sgn (s := ";") (k := 59) rfl).mp (by simpa using h2)
  walk_at "rd"
  have ec : tl (cutS z (some ((p : Int) + 1)) (some ((p : Int) + 122 - 1))) = ((tl z).drop (p + 1)).take 120 := by
    rw [e2, show ((p : Int) + 1) = ((p + 1 : Nat) : Int) by omega, cut_nat, show p + 121 - (p + 1) = 120 by omega]
  have ew : winAt (tl z) p = toldL (((tl z).drop (p + 1)).take 120) := by
    unfold winAt
    rw [if_pos ⟨by rw [hc1, g1], by rw [hc2, g2]⟩]
  refine ⟨pr_cut hp _ _, Nat.le_trans (cutS_length _ _ _) hz, fun v H' s' t => k v H' s' ?_⟩
  rw [ec, ← ew] at t
  exact t
end
end
section
local macro_rules | `(tactic| walk_at "len") => `(tactic| (intro vs H Q E h; first
  | (obtain ⟨_, e, _⟩ := h; subst e; rfl) | (obtain ⟨_, _, e, _⟩ := h; subst e; rfl) | (obtain ⟨_, _, _, e, _⟩ := h; subst e; rfl) | (obtain ⟨_, _, _, _, e, _⟩ := h; subst e; rfl)))
local macro_rules | `(tactic| walk_at "rd1") => `(tactic| first
  | refine ⟨_, rfl, ?_⟩
  | refine ⟨rfl, ?_⟩
  | refine ⟨trivial, ?_⟩
  | refine ⟨_, _, rfl, rfl, ?_⟩
  | refine ⟨_, rfl, rfl, ?_⟩
  | refine ⟨_, _, _, _, true, rfl, .ty _, .base (.str _), kit_ty (by decide +kernel), ?_⟩
  | refine ⟨_, _, _, _, true, rfl, .ty _, .base (.int _), kit_ty (by decide +kernel), ?_⟩
  | refine ⟨_, _, _, _, false, rfl, .ty _, .base (.int _), kit_ty (by decide +kernel), ?_⟩
  | refine ⟨_, rfl, rfl, trivial, ?_⟩
  | refine ⟨_, _, rfl, ?_⟩
  | refine ⟨_, _, rfl, rfl, by decide, ?_⟩
  | refine ⟨_, _, rfl, rfl, sz (by omega), ?_⟩
  | refine ⟨_, _, rfl, rfl, ⟨by decide, by decide⟩, ?_⟩
  | refine ⟨_, _, _, rfl, rfl, ?_⟩
  | refine ⟨_, _, _, rfl, ?_⟩
  | refine And.intro (Nat.zero_le _) ?_
  | refine And.intro (show List.length _ ≤ sizeLine from Nat.le_of_ble_eq_true rfl) ?_
  | refine And.intro (.inl ⟨rfl, _, SqL.of (by assumption)⟩) ?_
  | refine And.intro (by assumption) ?_
  | refine And.intro (sz (by omega)) ?_
  | refine And.intro (by omega) ?_
  | refine Or.inl ⟨_, rfl, ?_⟩
  | refine Or.inr ⟨_, rfl, ?_⟩
  | refine ⟨_, _, rfl, .inl (SqL.of (by assumption)), ?_⟩
  | refine ⟨_, _, rfl, .inl (by assumption), ?_⟩
  | refine ⟨_, _, rfl, .inr (by assumption), ?_⟩
  | refine ⟨_, _, _, _, rfl, rfl, SqL.of (by assumption), rfl, ?_⟩
  | refine ⟨_, _, _, _, rfl, rfl, SqL.of upd_same, rfl, ?_⟩
  | refine ⟨_, _, _, _, rfl, rfl, by assumption, rfl, ?_⟩
  | refine ⟨_, _, _, _, rfl, rfl, upd_same, rfl, ?_⟩
  | refine And.intro (show CPow _ _ from ⟨by decide, by decide, by decide⟩) ?_
  | refine And.intro (show CDiv _ _ from ⟨by decide, by decide⟩) ?_
  | refine And.intro (show CMul _ _ from .inl ⟨by decide, by decide⟩) ?_
  | refine And.intro (show CMul _ _ from .inr ⟨by decide, by decide⟩) ?_)
local macro_rules | `(tactic| walk_at "rd") => `(tactic| repeat (walk_at "rd1"))
section
variable {P : Program} {w : World} {K : PySem.W.Frag} {mg : Str → Option Value} {base : Heap} {a : Ad} {d : Fd}
theorem len_app (x y : Str) : (x ++ y).length = x.length + y.length := by rw [len_tl, len_tl, len_tl, tl_append, List.length_append]
end
end
section
local macro_rules | `(tactic| walk_at "len") => `(tactic| (intro vs H Q E h; first
  | (obtain ⟨_, e, _⟩ := h; subst e; rfl) | (obtain ⟨_, _, e, _⟩ := h; subst e; rfl) | (obtain ⟨_, _, _, e, _⟩ := h; subst e; rfl) | (obtain ⟨_, _, _, _, e, _⟩ := h; subst e; rfl)))
local macro_rules | `(tactic| walk_at "rd1") => `(tactic| first
  | refine ⟨_, rfl, ?_⟩
  | refine ⟨rfl, ?_⟩
  | refine ⟨trivial, ?_⟩
  | refine ⟨_, _, rfl, rfl, ?_⟩
  | refine ⟨_, rfl, rfl, ?_⟩
  | refine ⟨_, _, _, _, true, rfl, .ty _, .base (.str _), kit_ty (by decide +kernel), ?_⟩
  | refine ⟨_, _, _, _, true, rfl, .ty _, .base (.int _), kit_ty (by decide +kernel), ?_⟩
  | refine ⟨_, _, _, _, false, rfl, .ty _, .base (.int _), kit_ty (by decide +kernel), ?_⟩
  | refine ⟨_, rfl, rfl, trivial, ?_⟩
  | refine ⟨_, _, rfl, ?_⟩
  | refine ⟨_, _, rfl, rfl, by decide, ?_⟩
  | refine ⟨_, _, rfl, rfl, sz (by omega), ?_⟩
  | refine ⟨_, _, rfl, rfl, ⟨by decide, by decide⟩, ?_⟩
  | refine ⟨_, _, _, rfl, rfl, ?_⟩
  | refine ⟨_, _, _, rfl, ?_⟩
  | refine And.intro (Nat.zero_le _) ?_
  | refine And.intro (show List.length _ ≤ sizeLine from Nat.le_of_ble_eq_true rfl) ?_
  | refine And.intro (.inl ⟨rfl, _, SqL.of (by assumption)⟩) ?_
  | refine And.intro (by assumption) ?_
  | refine And.intro (sz (by omega)) ?_
  | refine And.intro (by omega) ?_
  | refine Or.inl ⟨_, rfl, ?_⟩
  | refine Or.inr ⟨_, rfl, ?_⟩
  | refine ⟨_, _, rfl, .inl (SqL.of (by assumption)), ?_⟩
  | refine ⟨_, _, rfl, .inl (by assumption), ?_⟩
  | refine ⟨_, _, rfl, .inr (by assumption), ?_⟩
  | refine ⟨_, _, _, _, rfl, rfl, SqL.of (by assumption), rfl, ?_⟩
  | refine ⟨_, _, _, _, rfl, rfl, SqL.of upd_same, rfl, ?_⟩
  | refine ⟨_, _, _, _, rfl, rfl, by assumption, rfl, ?_⟩
  | refine ⟨_, _, _, _, rfl, rfl, upd_same, rfl, ?_⟩
  | refine And.intro (show CPow _ _ from ⟨by decide, by decide, by decide⟩) ?_
  | refine And.intro (show CDiv _ _ from ⟨by decide, by decide⟩) ?_
  | refine And.intro (show CMul _ _ from .inl ⟨by decide, by decide⟩) ?_
  | refine And.intro (show CMul _ _ from .inr ⟨by decide, by decide⟩) ?_)
local macro_rules | `(tactic| walk_at "rd") => `(tactic| repeat (walk_at "rd1"))
section
variable {P : Program} {w : World} {K : PySem.W.Frag} {mg : Str → Option Value} {base : Heap} {a : Ad} {d : Fd}
/-! ### the law's draws -/
def Tray (H : Hp) (t : Addr) : Prop := ∃ a b c : Int, H t = some (.lst [.int a, .int b, .int c])
theorem Tray.same {H H' : Hp} {t : Addr} (s : Same H H') : Tray H t → Tray H' t := fun ⟨a, b, c, h⟩ => ⟨a, b, c, s _ _ h⟩
theorem Tray.kt {H : Hp} {t : Addr} {o : HO} (h : Tray H t) : Kt H (upd H t o) := by
  obtain ⟨a, b, c, h⟩ := h
  exact Kt.lst (.inr ⟨_, h⟩)
def sp_law_tray (K : PySem.W.Frag) : Sp := fun vs H Q _ => ∃ (a : Addr) (ns : List Int) (i : Nat), vs = [.ref a, .int i] ∧ SqL K H a (ns.map V.int) ∧ i ≤ 3 ∧ ∀ p H', Same H H' → H p = none → Tray H' p → Q (.ref p) H'
/-- behind a draw: r, and all but the tray as it was -/
def Dr (t : Addr) (H H' : Hp) : Prop := But t H H' ∧ Tray H' t ∧ Kt H H'
def sp_law_pluck (K : PySem.W.Frag) : Sp := fun vs H Q _ => ∃ (t : Addr) (n : Int), vs = [.ref t, .int n] ∧ Tray H t ∧ 0 < n ∧ n < 1000000 ∧ ∀ r H', 0 ≤ r → r < n → Dr t H H' → Q (.int r) H'
def sp_law_some (K : PySem.W.Frag) : Sp := fun vs H Q _ => ∃ (t l : Addr) (xs : List V), vs = [.ref t, .ref l] ∧ Tray H t ∧ l ≠ t ∧ H l = some (.lst xs) ∧ xs ≠ [] ∧ xs.length ≤ 1000 ∧ ∀ v H', v ∈ xs → Dr t H H' → Q v H'
theorem ok_law_tray (T : Txt K mg a d)  : FnOk P w K mg base CX0 1 a.law_tray d.law_tray ["script", "spot"] (sp_law_tray K) := by
  refine T.F_law_tray.ok sc_law_tray (by walk_at "len") (fun cdv A outer s H vs Q E hr h => ?_)
  obtain ⟨l, ns, i, rfl, hS, hi, k⟩ := h
  have hp56 : (0 : Int) ≤ 6 ∧ (Builtin.Int.intBits ((10 : Int) ^ (56 : Int).toNat) : Int) * 6 ≤ 2 ^ 27 := by decide +kernel
  have hp0 : (0 : Int) < ((10 : Int) ^ (56 : Int).toNat) ^ (6 : Int).toNat := by decide +kernel
  have fin : ∀ (x y : Int) (p : Addr), H p = none → Q (.ref p) (upd H p (.lst [.int x, .int y, .int 0])) := fun x y p hp => k p _ (Same.new hp) hp ⟨x, y, 0, upd_same⟩
  refine ⟨_, (pss_cons (ps_set (i := 2) sc_law_tray.nd rfl (Or.inl rfl) (pe_ifExp (pt_cmpR op_lt (pv 1) (pe_callB call_len_seq (by rfl) T.b_len (by decide +kernel) (pa_cons (pv 0) pa_nil)) (nomark _)) (pe_callTy call_int1 (by rfl) T.b_int (by decide +kernel) (pa_cons (pe_ix ix_list (pv 0) (pv 1) (fun _ _ => rfl)) pa_nil)) (pe_op op_add (pe_op op_mul pe_int (pv 1)) pe_int)))
      (pss_cons (ps_set (i := 3) sc_law_tray.nd rfl (Or.inl rfl) (pe_op op_mod (pe_callTy call_int1 (by rfl) T.b_int (by decide +kernel) (pa_cons (pe_callB call_abs (by rfl) T.b_abs (by decide +kernel) (pa_cons (pv 2) pa_nil)) pa_nil)) (pe_op op_powW (pe_op op_pow pe_int pe_int) pe_int)))
      (pss_one (ps_ret (pe_lst (pa_cons (pe_callB (call_max2 rfl) (by rfl) T.b_max (by decide +kernel) (pa_cons pe_int (pa_cons (pe_op op_sub (pv 3) (pe_op op_pow pe_int pe_int)) pa_nil))) (pa_cons (pe_op op_add (pe_op op_add (pe_op op_add (pe_op op_mul (pe_op op_mod (pv 3) pe_int) pe_int) (pe_op op_mul pe_int (pv 1))) (pe_op op_mul pe_int (pe_callTy call_int1 (by rfl) T.b_int (by decide +kernel) (pa_cons (pe_cmpR op_lt (pv 2) pe_int (nomark _)) pa_nil)))) pe_int) (pa_cons pe_int pa_nil)))))))), ?_⟩
  walk_at "rd"
  refine iteB (fun c => ?_) (fun c => ?_)
  · have c' := of_decide_eq_true c
    rw [List.length_map] at c'
    obtain ⟨v, hv⟩ : ∃ v, ns[i]? = some v := ⟨_, List.getElem?_eq_getElem (by omega)⟩
    walk_at "rd"
    refine ⟨_, _, _, _, rfl, rfl, hS, atI_nat (v := .int v) (by rw [List.getElem?_map, hv]; rfl), ?_⟩
    walk_at "rd"
    exact fun p hp => fin _ _ p hp
  · walk_at "rd"
    exact fun p hp => fin _ _ p hp
theorem ok_law_pluck (T : Txt K mg a d)  : FnOk P w K mg base CX0 1 a.law_pluck d.law_pluck ["tray", "total"] (sp_law_pluck K) := by
  refine T.F_law_pluck.ok sc_law_pluck (by walk_at "len") (fun cdv A outer s H vs Q E hr h => ?_)
  obtain ⟨t, n, rfl, ⟨x, y, z, hT⟩, hn, hn2, k⟩ := h
  have hdw : CDivW x n := wide_div hn (b := 20) (by omega) (by decide) (by decide)
  have fin : ∀ (r : Int) (x y z : Int), 0 ≤ r → r < n → Q (.int r) (upd H t (.lst [.int x, .int y, .int z])) := fun r x' y' z' h0 h1 => k r _ h0 h1 ⟨But.upd, ⟨x', y', z', upd_same⟩, Tray.kt ⟨x, y, z, hT⟩⟩
  have hone : ∀ w : Int, CMul (w % 2305843009213693951) (w % 2305843009213693951) := fun w => .inl ⟨by have := Int.emod_nonneg w (show (2305843009213693951 : Int) ≠ 0 by decide); omega, by have := Int.emod_lt_of_pos w (show (0 : Int) < 2305843009213693951 by decide); omega⟩
  refine ⟨_, (pss_cons (ps_if (pt_cmpR op_gt (pe_ix ix_list (pv 0) pe_int (fun _ _ => rfl)) pe_int (nomark _)) (pss_cons (ps_set (i := 2) sc_law_pluck.nd rfl (Or.inl rfl) (pe_op op_mod (pe_callTy call_int1 (by rfl) T.b_int (by decide +kernel) (pa_cons (pe_ix ix_list (pv 0) pe_int (fun _ _ => rfl)) pa_nil)) (pv 1)))
      (pss_cons (ps_asg (pe_op op_fdivW (pe_ix ix_list (pv 0) pe_int (fun _ _ => rfl)) (pv 1)) (pg_sub (pv 0) pe_int set_list))
      (pss_one (ps_ret (pv 2))))) pss_nil)
      (pss_cons (ps_asg (pe_op op_add (pe_ix ix_list (pv 0) pe_int (fun _ _ => rfl)) pe_int) (pg_sub (pv 0) pe_int set_list))
      (pss_cons (ps_set (i := 3) sc_law_pluck.nd rfl (Or.inl rfl) (pe_op op_mod (pe_callTy call_int1 (by rfl) T.b_int (by decide +kernel) (pa_cons (pe_op op_add (pe_ix ix_list (pv 0) pe_int (fun _ _ => rfl)) (pe_op op_mul pe_int (pe_ix ix_list (pv 0) pe_int (fun _ _ => rfl)))) pa_nil)) pe_int))
      (pss_cons (ps_set (i := 4) sc_law_pluck.nd rfl (Or.inl rfl) (pe_op op_add (pe_op op_mul (pe_op op_mod (pe_callTy call_int1 (by rfl) T.b_int (by decide +kernel) (pa_cons (pe_op op_add (pe_op op_mul (pv 3) (pv 3)) (pe_op op_mul pe_int (pe_ix ix_list (pv 0) pe_int (fun _ _ => rfl)))) pa_nil)) pe_int) pe_int) (pv 3)))
      (pss_one (ps_ret (pe_op op_mod (pe_callTy call_int1 (by rfl) T.b_int (by decide +kernel) (pa_cons (pe_op op_fdiv (pv 4) pe_int) pa_nil)) (pv 1)))))))), ?_⟩
  walk_at "rd"
  refine iteB (fun c => ?_) (fun c => ?_)
  · walk_at "rd"
    exact fin _ _ _ _ (Int.emod_nonneg _ (by omega)) (Int.emod_lt_of_pos _ hn)
  walk_at "rd"
  refine ⟨hone _, ?_⟩
  walk_at "rd"
  exact fin _ _ _ _ (Int.emod_nonneg _ (by omega)) (Int.emod_lt_of_pos _ hn)
theorem ok_law_some (T : Txt K mg a d) (G_law_pluck : FnOk P w K mg base CX0 1 a.law_pluck d.law_pluck ["tray", "total"] (sp_law_pluck K)) : FnOk P w K mg base CX0 2 a.law_some d.law_some ["tray", "items"] (sp_law_some K) := by
  refine T.F_law_some.ok sc_law_some (by walk_at "len") (fun cdv A outer s H vs Q E hr h => ?_)
  obtain ⟨t, l, xs, rfl, hT, hl, hL, hne, hn, k⟩ := h
  have hx : 0 < xs.length := List.length_pos_iff.mpr hne
  refine ⟨_, (pss_one (ps_ret (pe_ix ix_list (pv 1) (pe_call G_law_pluck (hr.mono (by decide)) (by rfl) T.g_law_pluck T.k_law_pluck T.B_law_pluck .nil pass0 (pa_cons (pv 0) (pa_cons (pe_callB call_len_seq (by rfl) T.b_len (by decide +kernel) (pa_cons (pv 1) pa_nil)) pa_nil))) (fun _ _ => rfl)))), ?_⟩
  walk_at "rd"
  rintro r H' h0 h1 ⟨b1, t1, k1⟩
  obtain ⟨v, hv⟩ : ∃ v, xs[r.toNat]? = some v := ⟨_, List.getElem?_eq_getElem (by omega)⟩
  refine ⟨_, _, _, _, rfl, rfl, SqL.of (b1 _ _ hl hL), at_of (j := r.toNat) (by omega) hv, ?_⟩
  exact k v H' (List.mem_of_getElem? hv) ⟨b1, t1, k1⟩
end
end
section
local macro_rules | `(tactic| walk_at "len") => `(tactic| (intro vs H Q E h; first
  | (obtain ⟨_, e, _⟩ := h; subst e; rfl) | (obtain ⟨_, _, e, _⟩ := h; subst e; rfl) | (obtain ⟨_, _, _, e, _⟩ := h; subst e; rfl) | (obtain ⟨_, _, _, _, e, _⟩ := h; subst e; rfl)))
local macro_rules | `(tactic| walk_at "rd1") => `(tactic| first
  | refine ⟨_, rfl, ?_⟩
  | refine ⟨rfl, ?_⟩
  | refine ⟨trivial, ?_⟩
  | refine ⟨_, _, rfl, rfl, ?_⟩
  | refine ⟨_, rfl, rfl, ?_⟩
  | refine ⟨_, _, _, _, true, rfl, .ty _, .base (.str _), kit_ty (by decide +kernel), ?_⟩
  | refine ⟨_, _, _, _, true, rfl, .ty _, .base (.int _), kit_ty (by decide +kernel), ?_⟩
  | refine ⟨_, _, _, _, false, rfl, .ty _, .base (.int _), kit_ty (by decide +kernel), ?_⟩
  | refine ⟨_, rfl, rfl, trivial, ?_⟩
  | refine ⟨_, _, rfl, ?_⟩
  | refine ⟨_, _, rfl, rfl, by decide, ?_⟩
  | refine ⟨_, _, rfl, rfl, sz (by omega), ?_⟩
  | refine ⟨_, _, rfl, rfl, ⟨by decide, by decide⟩, ?_⟩
  | refine ⟨_, _, _, rfl, rfl, ?_⟩
  | refine ⟨_, _, _, rfl, ?_⟩
  | refine And.intro (Nat.zero_le _) ?_
  | refine And.intro (show List.length _ ≤ sizeLine from Nat.le_of_ble_eq_true rfl) ?_
  | refine And.intro (.inl ⟨rfl, _, SqL.of (by assumption)⟩) ?_
  | refine And.intro (by assumption) ?_
  | refine And.intro (sz (by omega)) ?_
  | refine And.intro (by omega) ?_
  | refine Or.inl ⟨_, rfl, ?_⟩
  | refine Or.inr ⟨_, rfl, ?_⟩
  | refine ⟨_, _, rfl, .inl (SqL.of (by assumption)), ?_⟩
  | refine ⟨_, _, rfl, .inl (by assumption), ?_⟩
  | refine ⟨_, _, rfl, .inr (by assumption), ?_⟩
  | refine ⟨_, _, _, _, rfl, rfl, SqL.of (by assumption), rfl, ?_⟩
  | refine ⟨_, _, _, _, rfl, rfl, SqL.of upd_same, rfl, ?_⟩
  | refine ⟨_, _, _, _, rfl, rfl, by assumption, rfl, ?_⟩
  | refine ⟨_, _, _, _, rfl, rfl, upd_same, rfl, ?_⟩
  | refine And.intro (show CPow _ _ from ⟨by decide, by decide, by decide⟩) ?_
  | refine And.intro (show CDiv _ _ from ⟨by decide, by decide⟩) ?_
  | refine And.intro (show CMul _ _ from .inl ⟨by decide, by decide⟩) ?_
  | refine And.intro (show CMul _ _ from .inr ⟨by decide, by decide⟩) ?_)
local macro_rules | `(tactic| walk_at "rd") => `(tactic| repeat (walk_at "rd1"))
section
variable {P : Program} {w : World} {K : PySem.W.Frag} {mg : Str → Option Value} {base : Heap} {a : Ad} {d : Fd}
def three (c : Int) : List Nat := (numL (1000 + c.toNat)).drop 1
def winS (cs : List Int) : Str := ⟨(35 :: (cs.flatMap three ++ [59])).toArray⟩
def sp_law_three (K : PySem.W.Frag) : Sp := fun vs H Q _ => ∃ c : Int, vs = [.int c] ∧ 0 ≤ c ∧ c ≤ 996 ∧ Q (.str ⟨(three c).toArray⟩) H
def sp_law_told (K : PySem.W.Frag) : Sp := fun vs H Q _ => ∃ z : Str, vs = [.str z] ∧ pr z ∧ z.length ≤ 60000 ∧ ∀ v H', Same H H' → Tp K H' v (encO (toldL (tl z))) → Q v H'
def sp_law_window (K : PySem.W.Frag) : Sp := fun vs H Q _ => ∃ (a : Addr) (cs : List Int), vs = [.ref a] ∧ SqT K H a (cs.map V.int) ∧ cs.length ≤ 1000 ∧ (∀ c ∈ cs, 0 ≤ c ∧ c ≤ 996) ∧ ∀ H', Same H H' → Q (.str (winS cs)) H'
def sp_law_windows (K : PySem.W.Frag) : Sp := fun vs H Q _ => ∃ z : Str, vs = [.str z] ∧ pr z ∧ z.length ≤ 60000 ∧ ∀ p xs H', Same H H' → H p = none → H' p = some (.lst xs) → TpAll K H' xs ((wl (tl z) 0 (z.length - 121)).map encW) → Q (.ref p) H'
theorem ok_law_three (T : Txt K mg a d)  : FnOk P w K mg base CX0 1 a.law_three d.law_three ["cell"] (sp_law_three K) := by
  refine T.F_law_three.ok sc_law_three (by walk_at "len") (fun cdv A outer s H vs Q E hr h => ?_)
  obtain ⟨c, rfl, h0, h1, k⟩ := h
  have hlg : (1000 + c).natAbs.log2 < 1920 := Nat.lt_of_lt_of_le (PySem.Flt.log2_lt_of (by decide : 0 < 11) (by omega : (1000 + c).natAbs < 2 ^ 11)) (by decide)
  have en : (1000 + c) = ((1000 + c.toNat : Nat) : Int) := by omega
  have et : tl (Str.ofString (toString (1000 + c))) = numL (1000 + c.toNat) := by rw [en]; exact tl_num _
  have hlen : (Str.ofString (toString (1000 + c))).length ≤ sizeLine := by
    rw [len_tl, et]
    exact sz (Nat.le_trans (numL_len (k := 4) (by decide) (by omega)) (by decide))
  refine ⟨_, (pss_one (ps_ret (pe_slice sl_str (pe_callTy call_str_int (by rfl) T.b_str (by decide +kernel) (pa_cons (pe_op op_add pe_int (pv 0)) pa_nil)) (po_some pe_int) po_none))), ?_⟩
  walk_at "rd"
  have e2 : cutS (Str.ofString (toString (1000 + c))) (some 1) none = ⟨(three c).toArray⟩ := ext_tl (by
    have := cut_lo (Str.ofString (toString (1000 + c))) 1
    rw [et] at this
    exact this)
  rw [← e2] at k
  exact k
end
end
section
local macro_rules | `(tactic| walk_at "len") => `(tactic| (intro vs H Q E h; first
  | (obtain ⟨_, e, _⟩ := h; subst e; rfl) | (obtain ⟨_, _, e, _⟩ := h; subst e; rfl) | (obtain ⟨_, _, _, e, _⟩ := h; subst e; rfl) | (obtain ⟨_, _, _, _, e, _⟩ := h; subst e; rfl)))
local macro_rules | `(tactic| walk_at "rd1") => `(tactic| first
  | refine ⟨_, rfl, ?_⟩
  | refine ⟨rfl, ?_⟩
  | refine ⟨trivial, ?_⟩
  | refine ⟨_, _, rfl, rfl, ?_⟩
  | refine ⟨_, rfl, rfl, ?_⟩
  | refine ⟨_, _, _, _, true, rfl, .ty _, .base (.str _), kit_ty (by decide +kernel), ?_⟩
  | refine ⟨_, _, _, _, true, rfl, .ty _, .base (.int _), kit_ty (by decide +kernel), ?_⟩
  | refine ⟨_, _, _, _, false, rfl, .ty _, .base (.int _), kit_ty (by decide +kernel), ?_⟩
  | refine ⟨_, rfl, rfl, trivial, ?_⟩
  | refine ⟨_, _, rfl, ?_⟩
  | refine ⟨_, _, rfl, rfl, by decide, ?_⟩
  | refine ⟨_, _, rfl, rfl, sz (by omega), ?_⟩
  | refine ⟨_, _, rfl, rfl, ⟨by decide, by decide⟩, ?_⟩
  | refine ⟨_, _, _, rfl, rfl, ?_⟩
  | refine ⟨_, _, _, rfl, ?_⟩
  | refine And.intro (Nat.zero_le _) ?_
  | refine And.intro (show List.length _ ≤ sizeLine from Nat.le_of_ble_eq_true rfl) ?_
  | refine And.intro (.inl ⟨rfl, _, SqL.of (by assumption)⟩) ?_
  | refine And.intro (by assumption) ?_
  | refine And.intro (sz (by omega)) ?_
  | refine And.intro (by omega) ?_
  | refine Or.inl ⟨_, rfl, ?_⟩
  | refine Or.inr ⟨_, rfl, ?_⟩
  | refine ⟨_, _, rfl, .inl (SqL.of (by assumption)), ?_⟩
  | refine ⟨_, _, rfl, .inl (by assumption), ?_⟩
  | refine ⟨_, _, rfl, .inr (by assumption), ?_⟩
  | refine ⟨_, _, _, _, rfl, rfl, SqL.of (by assumption), rfl, ?_⟩
  | refine ⟨_, _, _, _, rfl, rfl, SqL.of upd_same, rfl, ?_⟩
  | refine ⟨_, _, _, _, rfl, rfl, by assumption, rfl, ?_⟩
  | refine ⟨_, _, _, _, rfl, rfl, upd_same, rfl, ?_⟩
  | refine And.intro (show CPow _ _ from ⟨by decide, by decide, by decide⟩) ?_
  | refine And.intro (show CDiv _ _ from ⟨by decide, by decide⟩) ?_
  | refine And.intro (show CMul _ _ from .inl ⟨by decide, by decide⟩) ?_
  | refine And.intro (show CMul _ _ from .inr ⟨by decide, by decide⟩) ?_)
local macro_rules | `(tactic| walk_at "rd") => `(tactic| repeat (walk_at "rd1"))
section
variable {P : Program} {w : World} {K : PySem.W.Frag} {mg : Str → Option Value} {base : Heap} {a : Ad} {d : Fd}
theorem in_digits : ∀ c, c < 127 → decide (c ∈ (Str.ofString "0123456789").cps.toList) = dg c := by decide +kernel
def sgV (c : Nat) : V := .str ⟨#[c]⟩
def sgD (c : Nat) : PyData := .str ⟨#[c]⟩
theorem sg_all {K : PySem.W.Frag} {H : Hp} : ∀ l : List Nat, TpAll K H (l.map sgV) (l.map sgD)
  | [] => .nil
  | c :: l => .cons (.str _) (sg_all l)
theorem sg_shaped {l : List Nat} (h : ∀ c ∈ l, c ≤ 126) : SeqAt.shaped (.list (l.map sgD)) = true := flat_shaped (n := 2) (by
  show flatAll 1 (l.map sgD) = true
  rw [flatAll_iff]
  intro d hd
  obtain ⟨c, hc, rfl⟩ := List.mem_map.mp hd
  show PyData.strOk ⟨#[c]⟩ = true
  have := h c hc
  simp [PyData.strOk]
  omega) (by decide)
theorem eqv_nil {ds : List PyData} : PyData.eqv (.list ds) (.list []) = ds.isEmpty := by
  cases ds <;> simp [PyData.eqv, PyData.eqvAll]
theorem ok_law_told (T : Txt K mg a d)  : FnOk P w K mg base CX0 1 a.law_told d.law_told ["digits"] (sp_law_told K) := by
  refine T.F_law_told.ok sc_law_told (by walk_at "len") (fun cdv A outer s H vs Q E hr h => ?_)
  obtain ⟨z, rfl, hp, hz, k⟩ := h
  have hz1 : z.length ≤ sizeLine := sz (by omega)
  have hlt := len_tl z
  refine ⟨_, (pss_cons (ps_set (i := 1) sc_law_told.nd rfl (Or.inl rfl) (pe_lst pa_nil))
      (pss_cons (ps_for PassesOwn.never rfl (pi_range3 (by rfl) T.b_range (pa_cons pe_int (pa_cons (pe_callB call_len_str (by rfl) T.b_len (by decide +kernel) (pa_cons (pv 0) pa_nil)) (pa_cons pe_int pa_nil)))) (pg_name (i := 2) sc_law_told.nd rfl (Or.inl rfl))
      (pss_cons (ps_set (i := 3) sc_law_told.nd rfl (Or.inl rfl) (pe_slice sl_str (pv 0) (po_some (pv 2)) (po_some (pe_op op_add (pv 2) pe_int))))
      (pss_cons (ps_if (PW.pt (pw_or (pt_cmpR op_lt (pe_callB call_len_str (by rfl) T.b_len (by decide +kernel) (pa_cons (pv 3) pa_nil)) pe_int (nomark _)) (pw_or (pt_cmpR (op_neD hr.units) (pe_lc (own := [("sign", 4)]) rfl sc_law_told.nd (pi_str (pv 3)) (blkOk_by (N := n_law_told) (sc := defScope s_law_told) (by decide +kernel)) (fun _ _ _ _ _ => (pg_name (i := 4) sc_law_told.nd rfl (Or.inl rfl))) (fun _ _ _ _ _ => (pts_one (pt_cmpR op_notIn_sign (pv 4) pe_str rfl))) (fun _ _ _ _ _ => (pv 4))) (pe_lst pa_nil) (nomark _)) (pw_or1 (pt_cmpR op_gt (pe_callTy call_int_str (by rfl) T.b_int (by decide +kernel) (pa_cons (pv 3) pa_nil)) pe_int (nomark _)))))) (pss_one (ps_ret pe_non)) pss_nil)
      (pss_one (ps_expr (pe_bm PySem.F.plainAttrs_list PySem.F.slot_list_append PySem.F.type_list_append mt_append (pv 1) (pa_cons (pe_callTy call_int_str (by rfl) T.b_int (by decide +kernel) (pa_cons (pv 3) pa_nil)) pa_nil)))))))
      (pss_one (ps_ret (pe_callTy call_tuple_of (by rfl) T.b_tuple (by decide +kernel) (pa_cons (pv 1) pa_nil)))))), ?_⟩
  walk_at "rd"
  refine fun L hL => ?_
  walk_at "rd"
  refine ⟨_, _, _, _, rfl, rg3 z.length (by omega), ?_⟩
  have hn : (z.length + 2) / 3 = nck (tl z) := by unfold nck; rw [hlt]
  rw [hn]
  refine for_it walk_rangeC (fun i σ H' => ∃ v2 v3 v4 : Option V, σ = [some (.str z), some (.ref L), v2, v3, v4] ∧ Same H H' ∧ H' L = some (.lst ((vals (tl z) i).map V.int)) ∧ oks (tl z) i = true) ⟨none, none, none, rfl, Same.new hL, upd_same, rfl⟩ (fun _ _ _ _ _ => trivial) ?_ ?_
  · rintro i x σ H1 H2 hi ⟨v2, v3, v4, rfl, s1, hL1, ho⟩ ⟨rfl, rfl⟩
    walk_at "rd"
    rw [cut_ck]
    have hcm : ∀ c ∈ ck (tl z) i, 32 ≤ c ∧ c ≤ 126 := fun c hc => hp c (List.mem_of_mem_drop (List.mem_of_mem_take hc))
    have hcl : (ck (tl z) i).length ≤ 3 := by unfold ck; rw [List.length_take]; omega
    have hbad : okc (ck (tl z) i) = false → toldL (tl z) = none := told_bad hi
    have hoks : oks (tl z) (i + 1) = okc (ck (tl z) i) := by rw [oks_succ, ho, Bool.true_and]
    have hvs : vals (tl z) (i + 1) = vals (tl z) i ++ [((digv (ck (tl z) i) : Nat) : Int)] := vals_succ
    generalize ck (tl z) i = t3 at hcm hcl hbad hoks hvs
    have hl3 : (⟨t3.toArray⟩ : Str).length = t3.length := by show t3.toArray.size = _; simp
    have hc1 : (⟨t3.toArray⟩ : Str).length ≤ sizeLine := sz (by omega)
    walk_at "rd"
    refine iteB (fun c => ?_) (fun c => ?_)
    · have c' := of_decide_eq_true c
      rw [hbad (by unfold okc; rw [decide_eq_false (by omega)]; rfl)] at k
      exact k _ _ s1 .non
    have c3 : t3.length = 3 := by have := of_decide_eq_false c; omega
    walk_at "rd"
    refine fun D hD => lc_it walk_str (fun j H' => Same H2 H' ∧ H' D = some (.lst (((t3.take j).filter fun c => !dg c).map sgV))) ⟨Same.new hD, upd_same⟩ (fun _ _ _ _ => trivial) ?_ ?_
    · rintro j x H3 H4 hj ⟨s3, hD3⟩ ⟨rfl, c, hc, rfl⟩
      have hc' : t3[j]? = some c := by simpa using hc
      have hcb := hcm c (List.mem_of_getElem? hc')
      walk_at "rd"
      rw [in_digits c (by omega)]
      refine iteB (fun h1 => ?_) (fun h1 => ?_)
      · walk_at "rd"
        refine ⟨_, hD3, szl (by rw [List.length_map]; exact Nat.le_trans (List.length_filter_le _ _) (by rw [List.length_take]; omega)), fun b o e => ?_, ?_⟩
        · rw [upd_ne (ne_of_none e hD)]; exact s3 b o e
        · rw [upd_same, take_snoc hc', List.filter_append, List.filter_cons_of_pos (by simpa using h1), List.map_append]; rfl
      · refine ⟨s3, ?_⟩
        rw [take_snoc hc', List.filter_append, List.filter_cons_of_neg (by simpa using h1), List.filter_nil, List.append_nil]
        exact hD3
    · rintro H3 ⟨s3, hD3⟩
      rw [show (⟨t3.toArray⟩ : Str).cps.size = t3.length from hl3, List.take_length] at hD3
      walk_at "rd"
      refine fun F hF => ?_
      refine ⟨_, _, dp_lst ((Same.new hF) _ _ hD3) (sg_all _), dp_lst upd_same .nil, sg_shaped (fun c hc => (hcm c (List.mem_filter.mp hc).1).2), rfl, ?_⟩
      walk_at "rd"
      rw [eqv_nil]
      have hL3 := (Same.new (o := .lst []) hF) _ _ (s3 _ _ hL1)
      have s4 : Same H (upd H3 F (.lst [])) := (s1.trans s3).trans (Same.new hF)
      refine iteB (fun h1 => ?_) (fun h1 => ?_)
      · have hnd : t3.all dg = false := by
          rw [Bool.eq_false_iff]
          intro g
          have : (t3.filter fun c => !dg c) = [] := List.filter_eq_nil_iff.mpr fun c hc => by simp [List.all_eq_true.mp g c hc]
          rw [this] at h1
          simp at h1
        rw [hbad (by unfold okc; rw [hnd]; simp)] at k
        exact k _ _ s4 .non
      · have hd : t3.all dg = true := by
          rw [List.all_eq_true]
          intro c hc
          have : (t3.filter fun c => !dg c) = [] := by simpa using h1
          simpa using List.filter_eq_nil_iff.mp this c hc
        have hint := int_ck hd (by intro e; rw [e] at c3; cases c3) (by omega)
        walk_at "rd"
        refine ⟨_, _, rfl, hint, by omega, ?_⟩
        walk_at "rd"
        refine iteB (fun h2 => ?_) (fun h2 => ?_)
        · have h2' := of_decide_eq_true h2
          rw [hbad (by unfold okc; rw [decide_eq_false (show ¬ digv t3 ≤ 996 by omega)]; simp)] at k
          exact k _ _ s4 .non
        · have h2' := of_decide_eq_false h2
          walk_at "rd"
          refine ⟨_, _, rfl, hint, by omega, ?_⟩
          refine ⟨_, _, _, rfl, rfl, hL3, szl (by rw [List.length_map, vals_length]; have : nck (tl z) ≤ 30000 := by { unfold nck; omega }; omega), ?_⟩
          refine ⟨_, _, _, rfl, fun b o e => ?_, ?_, ?_⟩
          · rw [upd_ne (ne_of_none e hL)]; exact s4 b o e
          · rw [upd_same, hvs, List.map_append]; rfl
          · rw [hoks]; unfold okc; rw [hd, decide_eq_true c3, decide_eq_true (show digv t3 ≤ 996 by omega)]; rfl
  · rintro σ H1 ⟨v2, v3, v4, rfl, s1, hL1, ho⟩
    rw [told_all ho] at k
    walk_at "rd"
    refine ⟨_, _, rfl, .inl ⟨SqL.of hL1, fun l hl => ?_⟩⟩
    exact k _ _ (s1.trans (Same.new hl)) (tp_ints (SqT.of upd_same))
end
end
section
local macro_rules | `(tactic| walk_at "len") => `(tactic| (intro vs H Q E h; first
  | (obtain ⟨_, e, _⟩ := h; subst e; rfl) | (obtain ⟨_, _, e, _⟩ := h; subst e; rfl) | (obtain ⟨_, _, _, e, _⟩ := h; subst e; rfl) | (obtain ⟨_, _, _, _, e, _⟩ := h; subst e; rfl)))
local macro_rules | `(tactic| walk_at "rd1") => `(tactic| first
  | refine ⟨_, rfl, ?_⟩
  | refine ⟨rfl, ?_⟩
  | refine ⟨trivial, ?_⟩
  | refine ⟨_, _, rfl, rfl, ?_⟩
  | refine ⟨_, rfl, rfl, ?_⟩
  | refine ⟨_, _, _, _, true, rfl, .ty _, .base (.str _), kit_ty (by decide +kernel), ?_⟩
  | refine ⟨_, _, _, _, true, rfl, .ty _, .base (.int _), kit_ty (by decide +kernel), ?_⟩
  | refine ⟨_, _, _, _, false, rfl, .ty _, .base (.int _), kit_ty (by decide +kernel), ?_⟩
  | refine ⟨_, rfl, rfl, trivial, ?_⟩
  | refine ⟨_, _, rfl, ?_⟩
  | refine ⟨_, _, rfl, rfl, by decide, ?_⟩
  | refine ⟨_, _, rfl, rfl, sz (by omega), ?_⟩
  | refine ⟨_, _, rfl, rfl, ⟨by decide, by decide⟩, ?_⟩
  | refine ⟨_, _, _, rfl, rfl, ?_⟩
  | refine ⟨_, _, _, rfl, ?_⟩
  | refine And.intro (Nat.zero_le _) ?_
  | refine And.intro (show List.length _ ≤ sizeLine from Nat.le_of_ble_eq_true rfl) ?_
  | refine And.intro (.inl ⟨rfl, _, SqL.of (by assumption)⟩) ?_
  | refine And.intro (by assumption) ?_
  | refine And.intro (sz (by omega)) ?_
  | refine And.intro (by omega) ?_
  | refine Or.inl ⟨_, rfl, ?_⟩
  | refine Or.inr ⟨_, rfl, ?_⟩
  | refine ⟨_, _, rfl, .inl (SqL.of (by assumption)), ?_⟩
  | refine ⟨_, _, rfl, .inl (by assumption), ?_⟩
  | refine ⟨_, _, rfl, .inr (by assumption), ?_⟩
  | refine ⟨_, _, _, _, rfl, rfl, SqL.of (by assumption), rfl, ?_⟩
  | refine ⟨_, _, _, _, rfl, rfl, SqL.of upd_same, rfl, ?_⟩
  | refine ⟨_, _, _, _, rfl, rfl, by assumption, rfl, ?_⟩
  | refine ⟨_, _, _, _, rfl, rfl, upd_same, rfl, ?_⟩
  | refine And.intro (show CPow _ _ from ⟨by decide, by decide, by decide⟩) ?_
  | refine And.intro (show CDiv _ _ from ⟨by decide, by decide⟩) ?_
  | refine And.intro (show CMul _ _ from .inl ⟨by decide, by decide⟩) ?_
  | refine And.intro (show CMul _ _ from .inr ⟨by decide, by decide⟩) ?_)
local macro_rules | `(tactic| walk_at "rd") => `(tactic| repeat (walk_at "rd1"))
section
variable {P : Program} {w : World} {K : PySem.W.Frag} {mg : Str → Option Value} {base : Heap} {a : Ad} {d : Fd}
local macro_rules | `(tactic| walk_at "rd1") => `(tactic| first
  | refine And.intro ⟨_, rfl⟩ ?_
  | refine And.intro ⟨_, by assumption⟩ ?_
  | refine And.intro ⟨_, SqL.of (by assumption)⟩ ?_)
theorem joinL_nil : ∀ l : List (List Nat), joinL [] l = l.flatten
  | [] => rfl
  | [x] => by simp [joinL]
  | x :: y :: r => by
    have := joinL_nil (y :: r)
    simp [joinL, this]
def thr (c : Int) : Str := ⟨(three c).toArray⟩
theorem three_len {c : Int} (h0 : 0 ≤ c) (h1 : c ≤ 996) : (three c).length ≤ 3 := by
  unfold three
  rw [List.length_drop]
  have := numL_len (n := 1000 + c.toNat) (k := 4) (by decide) (by omega)
  omega
theorem thr_sum : ∀ cs : List Int, (∀ c ∈ cs, 0 ≤ c ∧ c ≤ 996) → ((cs.map thr).map fun x => x.length).sum ≤ 3 * cs.length
  | [], _ => by simp
  | c :: r, h => by
    have h1 := three_len (h c (by simp)).1 (h c (by simp)).2
    have h2 := thr_sum r fun c hc => h c (List.mem_cons_of_mem _ hc)
    have h3 : (thr c).length = (three c).length := by show (three c).toArray.size = _; simp
    simp only [List.map_cons, List.sum_cons, List.length_cons]
    omega
theorem flat_len : ∀ cs : List Int, (∀ c ∈ cs, 0 ≤ c ∧ c ≤ 996) → (cs.flatMap three).length ≤ 3 * cs.length
  | [], _ => by simp
  | c :: r, h => by
    have h1 := three_len (h c (by simp)).1 (h c (by simp)).2
    have h2 := flat_len r fun c hc => h c (List.mem_cons_of_mem _ hc)
    rw [List.flatMap_cons, List.length_append, List.length_cons]
    omega
theorem join_thr (cs : List Int) : tl (Txt.join "" (cs.map thr)) = cs.flatMap three := by
  rw [join_eq, tl_join, show tl ("" : Str) = [] from rfl, joinL_nil, List.map_map, ← List.flatMap_def]
  rfl
theorem ok_law_window (T : Txt K mg a d) (G_law_three : FnOk P w K mg base CX0 1 a.law_three d.law_three ["cell"] (sp_law_three K)) : FnOk P w K mg base CX0 2 a.law_window d.law_window ["cells"] (sp_law_window K) := by
  refine T.F_law_window.ok sc_law_window (by walk_at "len") (fun cdv A outer s H vs Q E hr h => ?_)
  obtain ⟨l, cs, rfl, hS, hl, hc, k⟩ := h
  refine ⟨_, (pss_one (ps_ret (pe_op op_add_str (pe_op op_add_str pe_str (pe_join pe_str (pe_lc (own := [("cell", 1)]) rfl sc_law_window.nd (pi_tup (pv 0)) (blkOk_by (N := n_law_window) (sc := defScope s_law_window) (by decide +kernel)) (fun _ _ _ _ _ => (pg_name (i := 1) sc_law_window.nd rfl (Or.inl rfl))) (fun _ _ _ _ _ => pts_nil) (fun _ _ _ _ _ => (pe_call G_law_three (hr.mono (by decide)) (by rfl) T.g_law_three T.k_law_three T.B_law_three .nil pass0 (pa_cons (pv 1) pa_nil)))))) pe_str))), ?_⟩
  walk_at "rd"
  refine fun D hD => lc_it walk_tup (fun i H' => Same H H' ∧ H' D = some (.lst (((cs.take i).map thr).map V.str))) ⟨Same.new hD, upd_same⟩ (fun i H' _ ⟨s1, _⟩ => kt_t (Kt.of s1) hS) ?_ ?_
  · rintro i x H1 H2 hi ⟨s1, hD1⟩ ⟨rfl, hx⟩
    rw [List.length_map] at hi
    have hci : cs[i]? = some cs[i] := List.getElem?_eq_getElem hi
    rw [List.getElem?_map, hci] at hx
    obtain rfl : x = V.int cs[i] := (Option.some.inj hx).symm
    have hb := hc cs[i] (List.mem_of_getElem? hci)
    walk_at "rd"
    refine ⟨_, hD1, szl (by rw [List.length_map, List.length_map, List.length_take]; omega), fun b o e => ?_, ?_⟩
    · rw [upd_ne (ne_of_none e hD)]; exact s1 b o e
    · rw [upd_same, take_snoc hci, List.map_append, List.map_append]; rfl
  rintro H1 ⟨s1, hD1⟩
  rw [List.length_map, List.take_length] at hD1
  have hsum := thr_sum cs hc
  have hj : (Txt.join "" (cs.map thr)).length ≤ 3 * cs.length := by rw [len_tl, join_thr]; exact flat_len cs hc
  have l1 : (Str.ofString "#").length = 1 := rfl
  have l2 : (Str.ofString ";").length = 1 := rfl
  have l3 := len_app (Str.ofString "#") (Txt.join "" (cs.map thr))
  refine ⟨_, _, cs.map thr, rfl, rfl, .inl (SqL.of hD1), ?_, ?_⟩
  · rw [show (Str.ofString "").length = 0 from rfl, Nat.mul_zero]; omega
  walk_at "rd"
  have e : Str.ofString "#" ++ Txt.join "" (cs.map thr) ++ Str.ofString ";" = winS cs := ext_tl (by
    rw [tl_append, tl_append, join_thr]
    show [35] ++ cs.flatMap three ++ [59] = 35 :: (cs.flatMap three ++ [59])
    rfl)
  rw [← e] at k
  exact k H1 s1
end
end
section
local macro_rules | `(tactic| walk_at "len") => `(tactic| (intro vs H Q E h; first
  | (obtain ⟨_, e, _⟩ := h; subst e; rfl) | (obtain ⟨_, _, e, _⟩ := h; subst e; rfl) | (obtain ⟨_, _, _, e, _⟩ := h; subst e; rfl) | (obtain ⟨_, _, _, _, e, _⟩ := h; subst e; rfl)))
local macro_rules | `(tactic| walk_at "rd1") => `(tactic| first
  | refine ⟨_, rfl, ?_⟩
  | refine ⟨rfl, ?_⟩
  | refine ⟨trivial, ?_⟩
  | refine ⟨_, _, rfl, rfl, ?_⟩
  | refine ⟨_, rfl, rfl, ?_⟩
  | refine ⟨_, _, _, _, true, rfl, .ty _, .base (.str _), kit_ty (by decide +kernel), ?_⟩
  | refine ⟨_, _, _, _, true, rfl, .ty _, .base (.int _), kit_ty (by decide +kernel), ?_⟩
  | refine ⟨_, _, _, _, false, rfl, .ty _, .base (.int _), kit_ty (by decide +kernel), ?_⟩
  | refine ⟨_, rfl, rfl, trivial, ?_⟩
  | refine ⟨_, _, rfl, ?_⟩
  | refine ⟨_, _, rfl, rfl, by decide, ?_⟩
  | refine ⟨_, _, rfl, rfl, sz (by omega), ?_⟩
  | refine ⟨_, _, rfl, rfl, ⟨by decide, by decide⟩, ?_⟩
  | refine ⟨_, _, _, rfl, rfl, ?_⟩
  | refine ⟨_, _, _, rfl, ?_⟩
  | refine And.intro (Nat.zero_le _) ?_
  | refine And.intro (show List.length _ ≤ sizeLine from Nat.le_of_ble_eq_true rfl) ?_
  | refine And.intro (.inl ⟨rfl, _, SqL.of (by assumption)⟩) ?_
  | refine And.intro (by assumption) ?_
  | refine And.intro (sz (by omega)) ?_
  | refine And.intro (by omega) ?_
  | refine Or.inl ⟨_, rfl, ?_⟩
  | refine Or.inr ⟨_, rfl, ?_⟩
  | refine ⟨_, _, rfl, .inl (SqL.of (by assumption)), ?_⟩
  | refine ⟨_, _, rfl, .inl (by assumption), ?_⟩
  | refine ⟨_, _, rfl, .inr (by assumption), ?_⟩
  | refine ⟨_, _, _, _, rfl, rfl, SqL.of (by assumption), rfl, ?_⟩
  | refine ⟨_, _, _, _, rfl, rfl, SqL.of upd_same, rfl, ?_⟩
  | refine ⟨_, _, _, _, rfl, rfl, by assumption, rfl, ?_⟩
  | refine ⟨_, _, _, _, rfl, rfl, upd_same, rfl, ?_⟩
  | refine And.intro (show CPow _ _ from ⟨by decide, by decide, by decide⟩) ?_
  | refine And.intro (show CDiv _ _ from ⟨by decide, by decide⟩) ?_
  | refine And.intro (show CMul _ _ from .inl ⟨by decide, by decide⟩) ?_
  | refine And.intro (show CMul _ _ from .inr ⟨by decide, by decide⟩) ?_)
local macro_rules | `(tactic| walk_at "rd") => `(tactic| repeat (walk_at "rd1"))
section
variable {P : Program} {w : World} {K : PySem.W.Frag} {mg : Str → Option Value} {base : Heap} {a : Ad} {d : Fd}
theorem Dr.refl {t : Addr} {H : Hp} (h : Tray H t) : Dr t H H := ⟨But.refl t H, h, Kt.refl H⟩
theorem Dr.trans {t : Addr} {H H1 H2 : Hp} (a : Dr t H H1) (b : Dr t H1 H2) : Dr t H H2 := ⟨a.1.trans b.1, b.2.1, a.2.2.trans b.2.2⟩
theorem Dr.same {t : Addr} {H H1 : Hp} (h : Tray H t) (s : Same H H1) : Dr t H H1 := ⟨But.of s, h.same s, Kt.of s⟩
theorem Dr.new {t p : Addr} {H : Hp} {o : HO} (h : Tray H t) (hp : H p = none) : Dr t H (upd H p o) := Dr.same h (Same.new hp)
def sp_law_cells (K : PySem.W.Frag) : Sp := fun vs H Q _ => ∃ t : Addr, vs = [.ref t] ∧ Tray H t ∧ ∀ (p : Addr) (cs : List Int) (H' : Hp), Dr t H H' → SqT K H' p (cs.map V.int) → cs.length = 40 → (∀ c ∈ cs, 0 ≤ c ∧ c ≤ 996) → Q (.ref p) H'
def sp_law_bit (K : PySem.W.Frag) : Sp := fun vs H Q _ => ∃ t : Addr, vs = [.ref t] ∧ Tray H t ∧ ∀ (z : Str) (H' : Hp), pr z → z.length ≤ 300 → Dr t H H' → Q (.str z) H'
def sp_law_drawn (K : PySem.W.Frag) : Sp := fun vs H Q _ => ∃ (t : Addr) (m : Int), vs = [.ref t, .int m] ∧ Tray H t ∧ 0 ≤ m ∧ m ≤ 10 ∧ ∀ (z : Str) (H' : Hp), pr z → z.length ≤ 3000 → Dr t H H' → Q (.str z) H'
theorem Dr.mut {t L : Addr} {H H1 : Hp} {xs ys : List V} (d : Dr t H H1) (hf : ∀ b o, b ≠ t → H b = some o → b ≠ L) (hLt : L ≠ t) (hL : H1 L = some (.lst xs)) : Dr t H (upd H1 L (.lst ys)) := by
  obtain ⟨b1, ⟨x, y, z, h1⟩, k1⟩ := d
  refine ⟨fun b o n e => ?_, ⟨x, y, z, ?_⟩, k1.trans (Kt.lst (.inr ⟨_, hL⟩))⟩
  · rw [upd_ne (hf b o n e)]; exact b1 b o n e
  · rw [upd_ne hLt.symm]; exact h1
theorem Dr.fresh {t L : Addr} {H H1 : Hp} (d : Dr t H H1) (hL : H1 L = none) : ∀ b o, b ≠ t → H b = some o → b ≠ L := fun b o n e => ne_of_none (d.1 b o n e) hL
theorem Tray.ne {t L : Addr} {H : Hp} (h : Tray H t) (hL : H L = none) : L ≠ t := by
  obtain ⟨x, y, z, h⟩ := h
  exact (ne_of_none h hL).symm
theorem ok_law_cells (T : Txt K mg a d) (G_law_pluck : FnOk P w K mg base CX0 1 a.law_pluck d.law_pluck ["tray", "total"] (sp_law_pluck K)) (G_law_some : FnOk P w K mg base CX0 2 a.law_some d.law_some ["tray", "items"] (sp_law_some K)) : FnOk P w K mg base CX0 3 a.law_cells d.law_cells ["tray"] (sp_law_cells K) := by
  refine T.F_law_cells.ok sc_law_cells (by walk_at "len") (fun cdv A outer s H vs Q E hr h => ?_)
  obtain ⟨t, rfl, hT, k⟩ := h
  refine ⟨_, (pss_cons (ps_par (i := 1) (j := 2) (by rfl) sc_law_cells.nd rfl rfl (by decide) rfl rfl (pa_cons (pe_call G_law_pluck (hr.mono (by decide)) (by rfl) T.g_law_pluck T.k_law_pluck T.B_law_pluck .nil pass0 (pa_cons (pv 0) (pa_cons pe_int pa_nil))) (pa_cons (pe_lst pa_nil) pa_nil)) (by rfl))
      (pss_cons (ps_for PassesOwn.never rfl (pi_range1 (by rfl) T.b_range (pa_cons pe_int pa_nil)) (pg_name (i := 3) sc_law_cells.nd rfl (Or.inl rfl))
      (pss_one (ps_expr (pe_bm PySem.F.plainAttrs_list PySem.F.slot_list_append PySem.F.type_list_append mt_append (pv 2) (pa_cons (pe_ifExp (pt_cmpR op_eq (pv 1) pe_int (nomark _)) (pe_call G_law_pluck (hr.mono (by decide)) (by rfl) T.g_law_pluck T.k_law_pluck T.B_law_pluck .nil pass0 (pa_cons (pv 0) (pa_cons pe_int pa_nil))) (pe_call G_law_some (hr.mono (by decide)) (by rfl) T.g_law_some T.k_law_some T.B_law_some .nil pass0 (pa_cons (pv 0) (pa_cons (pe_lst (pa_cons pe_int (pa_cons pe_int (pa_cons pe_int (pa_cons pe_int pa_nil))))) pa_nil)))) pa_nil)))))
      (pss_one (ps_ret (pe_callTy call_tuple_of (by rfl) T.b_tuple (by decide +kernel) (pa_cons (pv 2) pa_nil)))))), ?_⟩
  walk_at "rd"
  rintro r H1 h0 h1 d1
  walk_at "rd"
  refine fun L hL => ?_
  have hLt := d1.2.1.ne hL
  have hfr := d1.fresh hL
  walk_at "rd"
  refine for_it walk_range (fun i σ H' => ∃ (v3 : Option V) (cs : List Int), σ = [some (.ref t), some (.int r), some (.ref L), v3] ∧ Dr t H H' ∧ H' L = some (.lst (cs.map V.int)) ∧ cs.length = i ∧ ∀ c ∈ cs, 0 ≤ c ∧ c ≤ 996)
    ⟨none, [], rfl, d1.trans (Dr.new d1.2.1 hL), upd_same, rfl, fun _ h => nomatch h⟩ (fun _ _ _ _ _ => trivial) ?_ ?_
  · rintro i x σ H2 H3 hi ⟨v3, cs, rfl, d2, hL2, hlen, hb⟩ ⟨rfl, rfl⟩
    have hi' : i < 40 := hi
    have hT2 := d2.2.1
    have fin : ∀ (c : Int) (H4 : Hp), Dr t H3 H4 → 0 ≤ c → c ≤ 996 → ∃ (v3 : Option V) (cs' : List Int), [some (V.ref t), some (.int r), some (.ref L), some (.int (0 + (i : Int)))] = [some (V.ref t), some (.int r), some (.ref L), v3] ∧ Dr t H (upd H4 L (.lst (cs.map V.int ++ [.int c]))) ∧
        (upd H4 L (.lst (cs.map V.int ++ [.int c]))) L = some (.lst (cs'.map V.int)) ∧ cs'.length = i + 1 ∧ ∀ c ∈ cs', 0 ≤ c ∧ c ≤ 996 := fun c H4 d4 c0 c1 => by
      refine ⟨_, cs ++ [c], rfl, Dr.mut (d2.trans d4) hfr hLt (d4.1 _ _ hLt hL2), by rw [upd_same, List.map_append]; rfl, by rw [List.length_append, hlen]; rfl, fun y hy => ?_⟩
      rcases List.mem_append.mp hy with q | q
      · exact hb y q
      · obtain rfl : y = c := by simpa using q
        exact ⟨c0, c1⟩
    walk_at "rd"
    refine iteB (fun c => ?_) (fun c => ?_)
    · walk_at "rd"
      rintro y H4 y0 y1 d4
      walk_at "rd"
      refine ⟨_, _, _, rfl, rfl, d4.1 _ _ hLt hL2, szl (by rw [List.length_map, hlen]; omega), ?_⟩
      exact fin y H4 d4 y0 (by omega)
    · walk_at "rd"
      refine fun M hM => ?_
      have hMt := hT2.ne hM
      have dM : Dr t H3 (upd H3 M (.lst [.int 0, .int 7, .int 996, .int 99])) := Dr.new hT2 hM
      refine ⟨t, M, _, rfl, dM.2.1, hMt, upd_same, by simp, by decide, fun y H4 hy d4 => ?_⟩
      obtain ⟨c, rfl, c0, c1⟩ : ∃ c : Int, y = .int c ∧ 0 ≤ c ∧ c ≤ 996 := by
        simp only [List.mem_cons, List.not_mem_nil, or_false] at hy
        rcases hy with rfl | rfl | rfl | rfl
        · exact ⟨0, rfl, by decide, by decide⟩
        · exact ⟨7, rfl, by decide, by decide⟩
        · exact ⟨996, rfl, by decide, by decide⟩
        · exact ⟨99, rfl, by decide, by decide⟩
      walk_at "rd"
      refine ⟨_, _, _, rfl, rfl, (dM.trans d4).1 _ _ hLt hL2, szl (by rw [List.length_map, hlen]; omega), ?_⟩
      exact fin c H4 (dM.trans d4) c0 c1
  · rintro σ H2 ⟨v3, cs, rfl, d2, hL2, hlen, hb⟩
    walk_at "rd"
    refine ⟨_, _, rfl, .inl ⟨SqL.of hL2, fun p hp => ?_⟩⟩
    exact k p cs _ (d2.trans (Dr.new d2.2.1 hp)) (SqT.of upd_same) hlen hb
end
end
section
local macro_rules | `(tactic| walk_at "len") => `(tactic| (intro vs H Q E h; first
  | (obtain ⟨_, e, _⟩ := h; subst e; rfl) | (obtain ⟨_, _, e, _⟩ := h; subst e; rfl) | (obtain ⟨_, _, _, e, _⟩ := h; subst e; rfl) | (obtain ⟨_, _, _, _, e, _⟩ := h; subst e; rfl)))
local macro_rules | `(tactic| walk_at "rd1") => `(tactic| first
  | refine ⟨_, rfl, ?_⟩
  | refine ⟨rfl, ?_⟩
  | refine ⟨trivial, ?_⟩
  | refine ⟨_, _, rfl, rfl, ?_⟩
  | refine ⟨_, rfl, rfl, ?_⟩
  | refine ⟨_, _, _, _, true, rfl, .ty _, .base (.str _), kit_ty (by decide +kernel), ?_⟩
  | refine ⟨_, _, _, _, true, rfl, .ty _, .base (.int _), kit_ty (by decide +kernel), ?_⟩
  | refine ⟨_, _, _, _, false, rfl, .ty _, .base (.int _), kit_ty (by decide +kernel), ?_⟩
  | refine ⟨_, rfl, rfl, trivial, ?_⟩
  | refine ⟨_, _, rfl, ?_⟩
  | refine ⟨_, _, rfl, rfl, by decide, ?_⟩
  | refine ⟨_, _, rfl, rfl, sz (by omega), ?_⟩
  | refine ⟨_, _, rfl, rfl, ⟨by decide, by decide⟩, ?_⟩
  | refine ⟨_, _, _, rfl, rfl, ?_⟩
  | refine ⟨_, _, _, rfl, ?_⟩
  | refine And.intro (Nat.zero_le _) ?_
  | refine And.intro (show List.length _ ≤ sizeLine from Nat.le_of_ble_eq_true rfl) ?_
  | refine And.intro (.inl ⟨rfl, _, SqL.of (by assumption)⟩) ?_
  | refine And.intro (by assumption) ?_
  | refine And.intro (sz (by omega)) ?_
  | refine And.intro (by omega) ?_
  | refine Or.inl ⟨_, rfl, ?_⟩
  | refine Or.inr ⟨_, rfl, ?_⟩
  | refine ⟨_, _, rfl, .inl (SqL.of (by assumption)), ?_⟩
  | refine ⟨_, _, rfl, .inl (by assumption), ?_⟩
  | refine ⟨_, _, rfl, .inr (by assumption), ?_⟩
  | refine ⟨_, _, _, _, rfl, rfl, SqL.of (by assumption), rfl, ?_⟩
  | refine ⟨_, _, _, _, rfl, rfl, SqL.of upd_same, rfl, ?_⟩
  | refine ⟨_, _, _, _, rfl, rfl, by assumption, rfl, ?_⟩
  | refine ⟨_, _, _, _, rfl, rfl, upd_same, rfl, ?_⟩
  | refine And.intro (show CPow _ _ from ⟨by decide, by decide, by decide⟩) ?_
  | refine And.intro (show CDiv _ _ from ⟨by decide, by decide⟩) ?_
  | refine And.intro (show CMul _ _ from .inl ⟨by decide, by decide⟩) ?_
  | refine And.intro (show CMul _ _ from .inr ⟨by decide, by decide⟩) ?_)
local macro_rules | `(tactic| walk_at "rd") => `(tactic| repeat (walk_at "rd1"))
section
variable {P : Program} {w : World} {K : PySem.W.Frag} {mg : Str → Option Value} {base : Heap} {a : Ad} {d : Fd}
def okS (v : V) : Bool := match v with
  | .str z => (tl z).all (fun c => decide (32 ≤ c) && decide (c ≤ 126)) && decide (z.length ≤ 10)
  | _ => false
theorem okS_all {xs : List V} (h : xs.all okS = true) {v : V} (hv : v ∈ xs) : ∃ z : Str, v = .str z ∧ pr z ∧ z.length ≤ 10 := by
  have g := List.all_eq_true.mp h v hv
  cases v with
  | str z =>
    simp only [okS, Bool.and_eq_true, List.all_eq_true, decide_eq_true_eq] at g
    exact ⟨z, rfl, g.1, g.2⟩
  | _ => simp [okS] at g
theorem pr_win {cs : List Int} : pr (winS cs) := fun c hc => by
  have hc' : c ∈ 35 :: (cs.flatMap three ++ [59]) := hc
  rcases List.mem_cons.mp hc' with rfl | q
  · decide
  · rcases List.mem_append.mp q with q | q
    · obtain ⟨i, _, q⟩ := List.mem_flatMap.mp q
      have := numL_digits (1000 + i.toNat) c (List.mem_of_mem_drop q)
      omega
    · obtain rfl : c = 59 := by simpa using q
      decide
theorem len_win {cs : List Int} (h : ∀ c ∈ cs, 0 ≤ c ∧ c ≤ 996) : (winS cs).length ≤ 3 * cs.length + 2 := by
  have := flat_len cs h
  rw [len_tl]
  show (35 :: (cs.flatMap three ++ [59])).length ≤ _
  rw [List.length_cons, List.length_append, List.length_cons, List.length_nil]
  omega
end
end
section
local macro_rules | `(tactic| walk_at "len") => `(tactic| (intro vs H Q E h; first
  | (obtain ⟨_, e, _⟩ := h; subst e; rfl) | (obtain ⟨_, _, e, _⟩ := h; subst e; rfl) | (obtain ⟨_, _, _, e, _⟩ := h; subst e; rfl) | (obtain ⟨_, _, _, _, e, _⟩ := h; subst e; rfl)))
local macro_rules | `(tactic| walk_at "rd1") => `(tactic| first
  | refine ⟨_, rfl, ?_⟩
  | refine ⟨rfl, ?_⟩
  | refine ⟨trivial, ?_⟩
  | refine ⟨_, _, rfl, rfl, ?_⟩
  | refine ⟨_, rfl, rfl, ?_⟩
  | refine ⟨_, _, _, _, true, rfl, .ty _, .base (.str _), kit_ty (by decide +kernel), ?_⟩
  | refine ⟨_, _, _, _, true, rfl, .ty _, .base (.int _), kit_ty (by decide +kernel), ?_⟩
  | refine ⟨_, _, _, _, false, rfl, .ty _, .base (.int _), kit_ty (by decide +kernel), ?_⟩
  | refine ⟨_, rfl, rfl, trivial, ?_⟩
  | refine ⟨_, _, rfl, ?_⟩
  | refine ⟨_, _, rfl, rfl, by decide, ?_⟩
  | refine ⟨_, _, rfl, rfl, sz (by omega), ?_⟩
  | refine ⟨_, _, rfl, rfl, ⟨by decide, by decide⟩, ?_⟩
  | refine ⟨_, _, _, rfl, rfl, ?_⟩
  | refine ⟨_, _, _, rfl, ?_⟩
  | refine And.intro (Nat.zero_le _) ?_
  | refine And.intro (show List.length _ ≤ sizeLine from Nat.le_of_ble_eq_true rfl) ?_
  | refine And.intro (.inl ⟨rfl, _, SqL.of (by assumption)⟩) ?_
  | refine And.intro (by assumption) ?_
  | refine And.intro (sz (by omega)) ?_
  | refine And.intro (by omega) ?_
  | refine Or.inl ⟨_, rfl, ?_⟩
  | refine Or.inr ⟨_, rfl, ?_⟩
  | refine ⟨_, _, rfl, .inl (SqL.of (by assumption)), ?_⟩
  | refine ⟨_, _, rfl, .inl (by assumption), ?_⟩
  | refine ⟨_, _, rfl, .inr (by assumption), ?_⟩
  | refine ⟨_, _, _, _, rfl, rfl, SqL.of (by assumption), rfl, ?_⟩
  | refine ⟨_, _, _, _, rfl, rfl, SqL.of upd_same, rfl, ?_⟩
  | refine ⟨_, _, _, _, rfl, rfl, by assumption, rfl, ?_⟩
  | refine ⟨_, _, _, _, rfl, rfl, upd_same, rfl, ?_⟩
  | refine And.intro (show CPow _ _ from ⟨by decide, by decide, by decide⟩) ?_
  | refine And.intro (show CDiv _ _ from ⟨by decide, by decide⟩) ?_
  | refine And.intro (show CMul _ _ from .inl ⟨by decide, by decide⟩) ?_
  | refine And.intro (show CMul _ _ from .inr ⟨by decide, by decide⟩) ?_)
local macro_rules | `(tactic| walk_at "rd") => `(tactic| repeat (walk_at "rd1"))
section
variable {P : Program} {w : World} {K : PySem.W.Frag} {mg : Str → Option Value} {base : Heap} {a : Ad} {d : Fd}
local macro_rules | `(tactic| walk_at "rd1") => `(tactic| first
  | refine And.intro ⟨_, rfl⟩ ?_
  | refine And.intro ⟨_, by assumption⟩ ?_
  | refine And.intro ⟨_, SqL.of (by assumption)⟩ ?_)
theorem pr_join {ys : List Str} (h : ∀ y ∈ ys, pr y) : pr (Txt.join "" ys) := fun c hc => by
  rw [join_eq, tl_join, show tl ("" : Str) = [] from rfl, joinL_nil] at hc
  obtain ⟨l, hl, hcl⟩ := List.mem_flatten.mp hc
  obtain ⟨y, hy, rfl⟩ := List.mem_map.mp hl
  exact h y hy c hcl
theorem len_join {n : Nat} : ∀ {ys : List Str}, (∀ y ∈ ys, y.length ≤ n) → (Txt.join "" ys).length ≤ n * ys.length ∧ (ys.map fun x => x.length).sum ≤ n * ys.length := fun {ys} h => by
  rw [len_tl, join_eq, tl_join, show tl ("" : Str) = [] from rfl, joinL_nil]
  induction ys with
  | nil => simp
  | cons y r ih =>
    have h1 := h y (by simp)
    have h2 := ih fun y hy => h y (List.mem_cons_of_mem _ hy)
    have h3 := len_tl y
    rw [List.map_cons, List.flatten_cons, List.length_append, List.map_cons, List.sum_cons, List.length_cons, Nat.mul_add, Nat.mul_one]
    omega
end
end
section
local macro_rules | `(tactic| walk_at "len") => `(tactic| (intro vs H Q E h; first
  | (obtain ⟨_, e, _⟩ := h; subst e; rfl) | (obtain ⟨_, _, e, _⟩ := h; subst e; rfl) | (obtain ⟨_, _, _, e, _⟩ := h; subst e; rfl) | (obtain ⟨_, _, _, _, e, _⟩ := h; subst e; rfl)))
local macro_rules | `(tactic| walk_at "rd1") => `(tactic| first
  | refine ⟨_, rfl, ?_⟩
  | refine ⟨rfl, ?_⟩
  | refine ⟨trivial, ?_⟩
  | refine ⟨_, _, rfl, rfl, ?_⟩
  | refine ⟨_, rfl, rfl, ?_⟩
  | refine ⟨_, _, _, _, true, rfl, .ty _, .base (.str _), kit_ty (by decide +kernel), ?_⟩
  | refine ⟨_, _, _, _, true, rfl, .ty _, .base (.int _), kit_ty (by decide +kernel), ?_⟩
  | refine ⟨_, _, _, _, false, rfl, .ty _, .base (.int _), kit_ty (by decide +kernel), ?_⟩
  | refine ⟨_, rfl, rfl, trivial, ?_⟩
  | refine ⟨_, _, rfl, ?_⟩
  | refine ⟨_, _, rfl, rfl, by decide, ?_⟩
  | refine ⟨_, _, rfl, rfl, sz (by omega), ?_⟩
  | refine ⟨_, _, rfl, rfl, ⟨by decide, by decide⟩, ?_⟩
  | refine ⟨_, _, _, rfl, rfl, ?_⟩
  | refine ⟨_, _, _, rfl, ?_⟩
  | refine And.intro (Nat.zero_le _) ?_
  | refine And.intro (show List.length _ ≤ sizeLine from Nat.le_of_ble_eq_true rfl) ?_
  | refine And.intro (.inl ⟨rfl, _, SqL.of (by assumption)⟩) ?_
  | refine And.intro (by assumption) ?_
  | refine And.intro (sz (by omega)) ?_
  | refine And.intro (by omega) ?_
  | refine Or.inl ⟨_, rfl, ?_⟩
  | refine Or.inr ⟨_, rfl, ?_⟩
  | refine ⟨_, _, rfl, .inl (SqL.of (by assumption)), ?_⟩
  | refine ⟨_, _, rfl, .inl (by assumption), ?_⟩
  | refine ⟨_, _, rfl, .inr (by assumption), ?_⟩
  | refine ⟨_, _, _, _, rfl, rfl, SqL.of (by assumption), rfl, ?_⟩
  | refine ⟨_, _, _, _, rfl, rfl, SqL.of upd_same, rfl, ?_⟩
  | refine ⟨_, _, _, _, rfl, rfl, by assumption, rfl, ?_⟩
  | refine ⟨_, _, _, _, rfl, rfl, upd_same, rfl, ?_⟩
  | refine And.intro (show CPow _ _ from ⟨by decide, by decide, by decide⟩) ?_
  | refine And.intro (show CDiv _ _ from ⟨by decide, by decide⟩) ?_
  | refine And.intro (show CMul _ _ from .inl ⟨by decide, by decide⟩) ?_
  | refine And.intro (show CMul _ _ from .inr ⟨by decide, by decide⟩) ?_)
local macro_rules | `(tactic| walk_at "rd") => `(tactic| repeat (walk_at "rd1"))
section
variable {P : Program} {w : World} {K : PySem.W.Frag} {mg : Str → Option Value} {base : Heap} {a : Ad} {d : Fd}
def sp_is_number (K : PySem.W.Frag) : Sp := fun vs H Q _ => ∃ v a b : Int, vs = [.int v, .int a, .int b] ∧ a ≤ v ∧ v ≤ b ∧ -1000000 ≤ v ∧ v ≤ 1000000 ∧ Q (.bl true) H
def sp_is_cell (K : PySem.W.Frag) : Sp := fun vs H Q _ => ∃ v : Int, vs = [.int v] ∧ 0 ≤ v ∧ v ≤ 996 ∧ Q (.bl true) H
def sp_is_cells (K : PySem.W.Frag) : Sp := fun vs H Q _ => ∃ (a : Addr) (cs : List Int), vs = [.ref a] ∧ SqT K H a (cs.map V.int) ∧ cs.length ≤ 20000 ∧ (∀ c ∈ cs, 0 ≤ c ∧ c ≤ 996) ∧ ∀ H', Same H H' → Q (.bl true) H'
def sp_check_cells (K : PySem.W.Frag) : Sp := fun vs H Q _ => ∃ (a : Addr) (cs : List Int) (m : Int), vs = [.ref a, .int m] ∧ SqT K H a (cs.map V.int) ∧ cs.length ≤ 20000 ∧ (∀ c ∈ cs, 0 ≤ c ∧ c ≤ 996) ∧ cs.length ≤ m ∧ ∀ H', Same H H' → Q .non H'
def sp_digits_of (K : PySem.W.Frag) : Sp := fun vs H Q _ => ∃ (a : Addr) (cs : List Int), vs = [.ref a] ∧ SqT K H a (cs.map V.int) ∧ cs.length ≤ 20000 ∧ (∀ c ∈ cs, 0 ≤ c ∧ c ≤ 996) ∧ ∀ z H', Same H H' → tl z = cs.flatMap three → Q (.str z) H'
def sp_cells_text (K : PySem.W.Frag) : Sp := sp_digits_of K
def sp_told_cells (K : PySem.W.Frag) : Sp := sp_digits_cells K
def sp_window_text (K : PySem.W.Frag) : Sp := fun vs H Q _ => ∃ (a : Addr) (cs : List Int), vs = [.ref a] ∧ SqT K H a (cs.map V.int) ∧ cs.length = 40 ∧ (∀ c ∈ cs, 0 ≤ c ∧ c ≤ 996) ∧ ∀ H', Same H H' → Q (.str (winS cs)) H'
/-- the cells of a window, of any other text none -/
def winO (l : List Nat) : Option (List Int) := if l.length = 122 then winAt l 0 else none
def sp_window_cells (K : PySem.W.Frag) : Sp := fun vs H Q _ => ∃ z : Str, vs = [.str z] ∧ pr z ∧ z.length ≤ 60000 ∧ ∀ v H', Same H H' → Tp K H' v (encO (winO (tl z))) → Q v H'
def sp_is_window (K : PySem.W.Frag) : Sp := fun vs H Q _ => ∃ v, vs = [v] ∧ ((∃ z : Str, v = .str z ∧ pr z ∧ z.length ≤ 60000 ∧ ∀ H', Same H H' → Q (.bl (winO (tl z)).isSome) H') ∨ (NotS K H v ∧ Q (.bl false) H))
theorem tyx_tup {K : PySem.W.Frag} {H : Hp} {a : Addr} {xs : List V} (h : SqT K H a xs) : TyX K H (.ref a) (.type "tuple") := by
  rcases h with (h | ⟨o, h⟩) | ⟨o, _, _, h, c, _⟩
  · exact .base (.tup h)
  · exact .fTuple h
  · exact .kTuple h c
theorem dig_three : ∀ n, n < 997 → dig3 n = (numL (1000 + n)).drop 1 := by decide +kernel
theorem dig3_three {c : Int} (h0 : 0 ≤ c) (h1 : c ≤ 996) : dig3 c.toNat = three c := dig_three c.toNat (by omega)
theorem dig3_v : ∀ n, n < 997 → okc (dig3 n) = true ∧ digv (dig3 n) = n := by decide +kernel
theorem ok_is_number (T : Txt K mg a d)  : FnOk P w K mg base CX0 1 a.is_number d.is_number ["value", "least", "most"] (sp_is_number K) := by
  refine T.F_is_number.ok sc_is_number (by walk_at "len") (fun cdv A outer s H vs Q E hr h => ?_)
  obtain ⟨v, a, b, rfl, h1, h2, h3, h4, k⟩ := h
  refine ⟨_, (pss_cons (ps_if (PW.pt (pw_or (pt_not (pt_val (pe_callB call_isi (by rfl) T.b_isinstance (by decide +kernel) (pa_cons (pv 0) (pa_cons (pe_bltn (v := .ty "int") (by rfl) T.b_int (by decide +kernel) rfl) pa_nil))))) (pw_or1 (pt_val (pe_callB call_isi (by rfl) T.b_isinstance (by decide +kernel) (pa_cons (pv 0) (pa_cons (pe_bltn (v := .ty "bool") (by rfl) T.b_bool (by decide +kernel) rfl) pa_nil))))))) (pss_one (ps_ret pe_bl)) pss_nil)
      (pss_one (ps_ret (pe_chain op_le op_le (pe_callB (call_max2 rfl) (by rfl) T.b_max (by decide +kernel) (pa_cons (pv 1) (pa_cons (pe_un un_neg (pe_glob (v := .int 999999999999999999999999999999999999999999999999999999999999) rfl T.c_LONGEST.choose_spec ⟨_, rfl⟩)) pa_nil))) (pv 0) (pe_callB (call_min2 rfl) (by rfl) T.b_min (by decide +kernel) (pa_cons (pv 2) (pa_cons (pe_glob (v := .int 999999999999999999999999999999999999999999999999999999999999) rfl T.c_LONGEST.choose_spec ⟨_, rfl⟩) pa_nil))))))), ?_⟩
  walk_at "rd"
  have e1 : (if -999999999999999999999999999999999999999999999999999999999999 > a then -999999999999999999999999999999999999999999999999999999999999 else a) ≤ v := by split <;> omega
  rw [if_pos (decide_eq_true e1)]
  walk_at "rd"
  have e2 : v ≤ (if (999999999999999999999999999999999999999999999999999999999999 : Int) < b then 999999999999999999999999999999999999999999999999999999999999 else b) := by split <;> omega
  show Q (.bl (decide (v ≤ _))) H
  rw [decide_eq_true e2]
  exact k
theorem ok_is_cell (T : Txt K mg a d) (G_is_number : FnOk P w K mg base CX0 1 a.is_number d.is_number ["value", "least", "most"] (sp_is_number K)) : FnOk P w K mg base CX0 2 a.is_cell d.is_cell ["value"] (sp_is_cell K) := by
  refine T.F_is_cell.ok sc_is_cell (by walk_at "len") (fun cdv A outer s H vs Q E hr h => ?_)
  obtain ⟨v, rfl, h1, h2, k⟩ := h
  refine ⟨_, (pss_one (ps_ret (pe_call G_is_number (hr.mono (by decide)) (by rfl) T.g_is_number T.k_is_number T.B_is_number .nil pass0 (pa_cons (pv 0) (pa_cons pe_int (pa_cons (pe_glob (v := .int 996) rfl T.c_MAX_CELL.choose_spec ⟨_, rfl⟩) pa_nil)))))), ?_⟩
  walk_at "rd"
  exact k
end
end
section
local macro_rules | `(tactic| walk_at "len") => `(tactic| (intro vs H Q E h; first
  | (obtain ⟨_, e, _⟩ := h; subst e; rfl) | (obtain ⟨_, _, e, _⟩ := h; subst e; rfl) | (obtain ⟨_, _, _, e, _⟩ := h; subst e; rfl) | (obtain ⟨_, _, _, _, e, _⟩ := h; subst e; rfl)))
local macro_rules | `(tactic| walk_at "rd1") => `(tactic| first
  | refine ⟨_, rfl, ?_⟩
  | refine ⟨rfl, ?_⟩
  | refine ⟨trivial, ?_⟩
  | refine ⟨_, _, rfl, rfl, ?_⟩
  | refine ⟨_, rfl, rfl, ?_⟩
  | refine ⟨_, _, _, _, true, rfl, .ty _, .base (.str _), kit_ty (by decide +kernel), ?_⟩
  | refine ⟨_, _, _, _, true, rfl, .ty _, .base (.int _), kit_ty (by decide +kernel), ?_⟩
  | refine ⟨_, _, _, _, false, rfl, .ty _, .base (.int _), kit_ty (by decide +kernel), ?_⟩
  | refine ⟨_, rfl, rfl, trivial, ?_⟩
  | refine ⟨_, _, rfl, ?_⟩
  | refine ⟨_, _, rfl, rfl, by decide, ?_⟩
  | refine ⟨_, _, rfl, rfl, sz (by omega), ?_⟩
  | refine ⟨_, _, rfl, rfl, ⟨by decide, by decide⟩, ?_⟩
  | refine ⟨_, _, _, rfl, rfl, ?_⟩
  | refine ⟨_, _, _, rfl, ?_⟩
  | refine And.intro (Nat.zero_le _) ?_
  | refine And.intro (show List.length _ ≤ sizeLine from Nat.le_of_ble_eq_true rfl) ?_
  | refine And.intro (.inl ⟨rfl, _, SqL.of (by assumption)⟩) ?_
  | refine And.intro (by assumption) ?_
  | refine And.intro (sz (by omega)) ?_
  | refine And.intro (by omega) ?_
  | refine Or.inl ⟨_, rfl, ?_⟩
  | refine Or.inr ⟨_, rfl, ?_⟩
  | refine ⟨_, _, rfl, .inl (SqL.of (by assumption)), ?_⟩
  | refine ⟨_, _, rfl, .inl (by assumption), ?_⟩
  | refine ⟨_, _, rfl, .inr (by assumption), ?_⟩
  | refine ⟨_, _, _, _, rfl, rfl, SqL.of (by assumption), rfl, ?_⟩
  | refine ⟨_, _, _, _, rfl, rfl, SqL.of upd_same, rfl, ?_⟩
  | refine ⟨_, _, _, _, rfl, rfl, by assumption, rfl, ?_⟩
  | refine ⟨_, _, _, _, rfl, rfl, upd_same, rfl, ?_⟩
  | refine And.intro (show CPow _ _ from ⟨by decide, by decide, by decide⟩) ?_
  | refine And.intro (show CDiv _ _ from ⟨by decide, by decide⟩) ?_
  | refine And.intro (show CMul _ _ from .inl ⟨by decide, by decide⟩) ?_
  | refine And.intro (show CMul _ _ from .inr ⟨by decide, by decide⟩) ?_)
local macro_rules | `(tactic| walk_at "rd") => `(tactic| repeat (walk_at "rd1"))
section
variable {P : Program} {w : World} {K : PySem.W.Frag} {mg : Str → Option Value} {base : Heap} {a : Ad} {d : Fd}
local macro_rules | `(tactic| walk_at "rd1") => `(tactic| first
  | refine And.intro ⟨_, rfl⟩ ?_
  | refine And.intro ⟨_, by assumption⟩ ?_
  | refine And.intro ⟨_, SqL.of (by assumption)⟩ ?_)
theorem ok_is_cells (T : Txt K mg a d) (G_is_cell : FnOk P w K mg base CX0 2 a.is_cell d.is_cell ["value"] (sp_is_cell K)) : FnOk P w K mg base CX0 3 a.is_cells d.is_cells ["value"] (sp_is_cells K) := by
  refine T.F_is_cells.ok sc_is_cells (by walk_at "len") (fun cdv A outer s H vs Q E hr h => ?_)
  obtain ⟨a', cs, rfl, hS, hl, hb, k⟩ := h
  refine ⟨_, (pss_one (ps_ret (pe_and (pe_callB call_isi (by rfl) T.b_isinstance (by decide +kernel) (pa_cons (pv 0) (pa_cons (pe_bltn (v := .ty "tuple") (by rfl) T.b_tuple (by decide +kernel) rfl) pa_nil))) (pe_one (pe_callB (cr_all rfl) (by rfl) T.b_all (by decide +kernel) (pa_cons (pe_lc (own := [("cell", 1)]) rfl sc_is_cells.nd (pi_tup (pv 0)) (blkOk_by (N := n_is_cells) (sc := defScope s_is_cells) (by decide +kernel)) (fun _ _ _ _ _ => (pg_name (i := 1) sc_is_cells.nd rfl (Or.inl rfl))) (fun _ _ _ _ _ => pts_nil) (fun _ _ _ _ _ => (pe_call G_is_cell (hr.mono (by decide)) (by rfl) T.g_is_cell T.k_is_cell T.B_is_cell .nil pass0 (pa_cons (pv 1) pa_nil)))) pa_nil)))))), ?_⟩
  walk_at "rd"
  refine ⟨_, _, _, _, true, rfl, .ty _, tyx_tup hS, kit_ty (by decide +kernel), ?_⟩
  walk_at "rd"
  refine fun D hD => lc_it walk_tup (fun i H' => Same H H' ∧ H' D = some (.lst ((List.replicate i true).map V.bl))) ⟨Same.new hD, upd_same⟩ (fun i H' _ ⟨s1, _⟩ => kt_t (Kt.of s1) hS) ?_ ?_
  · rintro i x H1 H2 hi ⟨s1, hD1⟩ ⟨rfl, hx⟩
    rw [List.length_map] at hi
    rw [List.getElem?_map, List.getElem?_eq_getElem hi] at hx
    obtain rfl := (Option.some.inj hx).symm
    have hc := hb cs[i] (List.getElem_mem hi)
    walk_at "rd"
    refine ⟨_, hD1, szl (by rw [List.length_map, List.length_replicate]; omega), fun b o e => ?_, ?_⟩
    · rw [upd_ne (ne_of_none e hD)]; exact s1 b o e
    · rw [upd_same, List.replicate_succ', List.map_append]; rfl
  rintro H1 ⟨s1, hD1⟩
  refine ⟨_, _, rfl, SqL.of hD1, ?_⟩
  have e : (List.replicate (cs.map V.int).length true).all id = true := by
    rw [List.all_eq_true]
    intro b hb
    exact (List.mem_replicate.mp hb).2
  rw [e]
  exact k H1 s1
theorem ok_check_cells (T : Txt K mg a d) (G_is_cells : FnOk P w K mg base CX0 3 a.is_cells d.is_cells ["value"] (sp_is_cells K)) : FnOk P w K mg base CX0 4 a.check_cells d.check_cells ["cells", "most"] (sp_check_cells K) := by
  refine T.F_check_cells.ok sc_check_cells (by walk_at "len") (fun cdv A outer s H vs Q E hr h => ?_)
  obtain ⟨a', cs, m, rfl, hS, hl, hb, hm, k⟩ := h
  refine ⟨_, (pss_one (ps_if (PW.pt (pw_or (pt_not (pt_val (pe_call G_is_cells (hr.mono (by decide)) (by rfl) T.g_is_cells T.k_is_cells T.B_is_cells .nil pass0 (pa_cons (pv 0) pa_nil)))) (pw_or1 (pt_cmpR op_gt (pe_callB call_len_seq (by rfl) T.b_len (by decide +kernel) (pa_cons (pv 0) pa_nil)) (pv 1) (nomark _))))) (pss_one ps_never) pss_nil)), ?_⟩
  walk_at "rd"
  refine ⟨a', cs, rfl, hS, hl, hb, fun H1 s1 => ?_⟩
  have hS1 := kt_t (Kt.of s1) hS
  walk_at "rd"
  refine iteB (fun c => ?_) (fun c => ?_)
  · have c' := of_decide_eq_true c
    rw [List.length_map] at c'
    omega
  exact k H1 s1
theorem ok_digits_of (T : Txt K mg a d)  : FnOk P w K mg base CX0 1 a.digits_of d.digits_of ["cells"] (sp_digits_of K) := by
  refine T.F_digits_of.ok sc_digits_of (by walk_at "len") (fun cdv A outer s H vs Q E hr h => ?_)
  obtain ⟨a', cs, rfl, hS, hl, hb, k⟩ := h
  refine ⟨_, (pss_one (ps_ret (pe_join pe_str (pe_lc (own := [("cell", 1)]) rfl sc_digits_of.nd (pi_tup (pv 0)) (blkOk_by (N := n_digits_of) (sc := defScope s_digits_of) (by decide +kernel)) (fun _ _ _ _ _ => (pg_name (i := 1) sc_digits_of.nd rfl (Or.inl rfl))) (fun _ _ _ _ _ => pts_nil) (fun _ _ _ _ _ => (pe_joined1 (pe_fmt3 (pv 1)))))))), ?_⟩
  walk_at "rd"
  refine fun D hD => lc_it walk_tup (fun i H' => Same H H' ∧ H' D = some (.lst (((cs.take i).map thr).map V.str))) ⟨Same.new hD, upd_same⟩ (fun i H' _ ⟨s1, _⟩ => kt_t (Kt.of s1) hS) ?_ ?_
  · rintro i x H1 H2 hi ⟨s1, hD1⟩ ⟨rfl, hx⟩
    rw [List.length_map] at hi
    have hci : cs[i]? = some cs[i] := List.getElem?_eq_getElem hi
    rw [List.getElem?_map, hci] at hx
    obtain rfl : x = V.int cs[i] := (Option.some.inj hx).symm
    have hc := hb cs[i] (List.mem_of_getElem? hci)
    walk_at "rd"
    rw [dig3_three hc.1 hc.2]
    refine ⟨_, hD1, szl (by rw [List.length_map, List.length_map, List.length_take]; omega), fun b o e => ?_, ?_⟩
    · rw [upd_ne (ne_of_none e hD)]; exact s1 b o e
    · rw [upd_same, take_snoc hci, List.map_append, List.map_append]; rfl
  rintro H1 ⟨s1, hD1⟩
  rw [List.length_map, List.take_length] at hD1
  have hsum := thr_sum cs hb
  refine ⟨_, _, cs.map thr, rfl, rfl, .inl (SqL.of hD1), ?_, ?_⟩
  · rw [show (Str.ofString "").length = 0 from rfl, Nat.mul_zero]; omega
  exact k _ H1 s1 (join_thr cs)
theorem ok_cells_text (T : Txt K mg a d) (G_check_cells : FnOk P w K mg base CX0 4 a.check_cells d.check_cells ["cells", "most"] (sp_check_cells K)) (G_digits_of : FnOk P w K mg base CX0 1 a.digits_of d.digits_of ["cells"] (sp_digits_of K)) : FnOk P w K mg base CX0 5 a.cells_text d.cells_text ["cells"] (sp_cells_text K) := by
  refine T.F_cells_text.ok sc_cells_text (by walk_at "len") (fun cdv A outer s H vs Q E hr h => ?_)
  obtain ⟨a', cs, rfl, hS, hl, hb, k⟩ := h
  refine ⟨_, (pss_cons (ps_expr (pe_call G_check_cells (hr.mono (by decide)) (by rfl) T.g_check_cells T.k_check_cells T.B_check_cells .nil pass0 (pa_cons (pv 0) (pa_cons (pe_glob (v := .int 20000) rfl T.c_MOST_DIGITS.choose_spec ⟨_, rfl⟩) pa_nil))))
      (pss_one (ps_ret (pe_call G_digits_of (hr.mono (by decide)) (by rfl) T.g_digits_of T.k_digits_of T.B_digits_of .nil pass0 (pa_cons (pv 0) pa_nil))))), ?_⟩
  walk_at "rd"
  refine ⟨a', cs, 20000, rfl, hS, hl, hb, by omega, fun H1 s1 => ?_⟩
  have hS1 := kt_t (Kt.of s1) hS
  walk_at "rd"
  refine ⟨a', cs, rfl, hS1, hl, hb, fun z H2 s2 e => k z H2 (s1.trans s2) e⟩
theorem ok_told_cells (T : Txt K mg a d) (G_check_text : FnOk P w K mg base CX0 2 a.check_text d.check_text ["text"] (sp_check_text K)) (G_digits_cells : FnOk P w K mg base CX0 1 a.digits_cells d.digits_cells ["signs"] (sp_digits_cells K)) : FnOk P w K mg base CX0 3 a.told_cells d.told_cells ["text"] (sp_told_cells K) := by
  refine T.F_told_cells.ok sc_told_cells (by walk_at "len") (fun cdv A outer s H vs Q E hr h => ?_)
  obtain ⟨z, rfl, hp, hz, k⟩ := h
  have hz1 : z.length ≤ sizeLine := sz (by omega)
  refine ⟨_, (pss_cons (ps_expr (pe_call G_check_text (hr.mono (by decide)) (by rfl) T.g_check_text T.k_check_text T.B_check_text .nil pass0 (pa_cons (pv 0) pa_nil)))
      (pss_one (ps_ret (pe_call G_digits_cells (hr.mono (by decide)) (by rfl) T.g_digits_cells T.k_digits_cells T.B_digits_cells .nil pass0 (pa_cons (pv 0) pa_nil))))), ?_⟩
  walk_at "rd"
  exact k
theorem ok_window_text (T : Txt K mg a d) (G_digits_of : FnOk P w K mg base CX0 1 a.digits_of d.digits_of ["cells"] (sp_digits_of K)) (G_is_cells : FnOk P w K mg base CX0 3 a.is_cells d.is_cells ["value"] (sp_is_cells K)) : FnOk P w K mg base CX0 4 a.window_text d.window_text ["cells"] (sp_window_text K) := by
  refine T.F_window_text.ok sc_window_text (by walk_at "len") (fun cdv A outer s H vs Q E hr h => ?_)
  obtain ⟨a', cs, rfl, hS, hl, hb, k⟩ := h
  refine ⟨_, (pss_cons (ps_if (PW.pt (pw_or (pt_not (pt_val (pe_call G_is_cells (hr.mono (by decide)) (by rfl) T.g_is_cells T.k_is_cells T.B_is_cells .nil pass0 (pa_cons (pv 0) pa_nil)))) (pw_or1 (pt_cmpR op_ne (pe_callB call_len_seq (by rfl) T.b_len (by decide +kernel) (pa_cons (pv 0) pa_nil)) (pe_glob (v := .int 40) rfl T.c_WINDOW_CELLS.choose_spec ⟨_, rfl⟩) (nomark _))))) (pss_one ps_never) pss_nil)
      (pss_one (ps_ret (pe_op op_add_str (pe_op op_add_str pe_str (pe_call G_digits_of (hr.mono (by decide)) (by rfl) T.g_digits_of T.k_digits_of T.B_digits_of .nil pass0 (pa_cons (pv 0) pa_nil))) pe_str)))), ?_⟩
  walk_at "rd"
  refine ⟨a', cs, rfl, hS, by omega, hb, fun H1 s1 => ?_⟩
  have hS1 := kt_t (Kt.of s1) hS
  walk_at "rd"
  rw [show ((cs.map V.int).length : Int) = 40 by rw [List.length_map]; omega]
  walk_at "rd"
  refine ⟨a', cs, rfl, hS1, by omega, hb, fun z H2 s2 e => ?_⟩
  have hfl := flat_len cs hb
  have hzl : z.length ≤ 120 := by rw [len_tl, e]; omega
  have l1 : (Str.ofString "#").length = 1 := rfl
  have l2 : (Str.ofString ";").length = 1 := rfl
  have l3 := len_app (Str.ofString "#") z
  walk_at "rd"
  have ew : Str.ofString "#" ++ z ++ Str.ofString ";" = winS cs := ext_tl (by
    rw [tl_append, tl_append, e]
    rfl)
  rw [ew]
  exact k H2 (s1.trans s2)
end
end
section
local macro_rules | `(tactic| walk_at "len") => `(tactic| (intro vs H Q E h; first
  | (obtain ⟨_, e, _⟩ := h; subst e; rfl) | (obtain ⟨_, _, e, _⟩ := h; subst e; rfl) | (obtain ⟨_, _, _, e, _⟩ := h; subst e; rfl) | (obtain ⟨_, _, _, _, e, _⟩ := h; subst e; rfl)))
local macro_rules | `(tactic| walk_at "rd1") => `(tactic| first
  | refine ⟨_, rfl, ?_⟩
  | refine ⟨rfl, ?_⟩
  | refine ⟨trivial, ?_⟩
  | refine ⟨_, _, rfl, rfl, ?_⟩
  | refine ⟨_, rfl, rfl, ?_⟩
  | refine ⟨_, _, _, _, true, rfl, .ty _, .base (.str _), kit_ty (by decide +kernel), ?_⟩
  | refine ⟨_, _, _, _, true, rfl, .ty _, .base (.int _), kit_ty (by decide +kernel), ?_⟩
  | refine ⟨_, _, _, _, false, rfl, .ty _, .base (.int _), kit_ty (by decide +kernel), ?_⟩
  | refine ⟨_, rfl, rfl, trivial, ?_⟩
  | refine ⟨_, _, rfl, ?_⟩
  | refine ⟨_, _, rfl, rfl, by decide, ?_⟩
  | refine ⟨_, _, rfl, rfl, sz (by omega), ?_⟩
  | refine ⟨_, _, rfl, rfl, ⟨by decide, by decide⟩, ?_⟩
  | refine ⟨_, _, _, rfl, rfl, ?_⟩
  | refine ⟨_, _, _, rfl, ?_⟩
  | refine And.intro (Nat.zero_le _) ?_
  | refine And.intro (show List.length _ ≤ sizeLine from Nat.le_of_ble_eq_true rfl) ?_
  | refine And.intro (.inl ⟨rfl, _, SqL.of (by assumption)⟩) ?_
  | refine And.intro (by assumption) ?_
  | refine And.intro (sz (by omega)) ?_
  | refine And.intro (by omega) ?_
  | refine Or.inl ⟨_, rfl, ?_⟩
  | refine Or.inr ⟨_, rfl, ?_⟩
  | refine ⟨_, _, rfl, .inl (SqL.of (by assumption)), ?_⟩
  | refine ⟨_, _, rfl, .inl (by assumption), ?_⟩
  | refine ⟨_, _, rfl, .inr (by assumption), ?_⟩
  | refine ⟨_, _, _, _, rfl, rfl, SqL.of (by assumption), rfl, ?_⟩
  | refine ⟨_, _, _, _, rfl, rfl, SqL.of upd_same, rfl, ?_⟩
  | refine ⟨_, _, _, _, rfl, rfl, by assumption, rfl, ?_⟩
  | refine ⟨_, _, _, _, rfl, rfl, upd_same, rfl, ?_⟩
  | refine And.intro (show CPow _ _ from ⟨by decide, by decide, by decide⟩) ?_
  | refine And.intro (show CDiv _ _ from ⟨by decide, by decide⟩) ?_
  | refine And.intro (show CMul _ _ from .inl ⟨by decide, by decide⟩) ?_
  | refine And.intro (show CMul _ _ from .inr ⟨by decide, by decide⟩) ?_)
local macro_rules | `(tactic| walk_at "rd") => `(tactic| repeat (walk_at "rd1"))
section
variable {P : Program} {w : World} {K : PySem.W.Frag} {mg : Str → Option Value} {base : Heap} {a : Ad} {d : Fd}
local macro_rules | `(tactic| walk_at "rd1") => `(tactic| first
  | refine And.intro ⟨_, rfl⟩ ?_
  | refine And.intro ⟨_, by assumption⟩ ?_
  | refine And.intro ⟨_, SqL.of (by assumption)⟩ ?_)
theorem ok_window_cells (T : Txt K mg a d) (G_cells_from : FnOk P w K mg base CX0 2 a.cells_from d.cells_from ["text", "place"] (sp_cells_from K)) (G_check_text : FnOk P w K mg base CX0 2 a.check_text d.check_text ["text"] (sp_check_text K)) : FnOk P w K mg base CX0 3 a.window_cells d.window_cells ["text"] (sp_window_cells K) := by
  refine T.F_window_cells.ok sc_window_cells (by walk_at "len") (fun cdv A outer s H vs Q E hr h => ?_)
  obtain ⟨z, rfl, hp, hz, k⟩ := h
  have hz1 : z.length ≤ sizeLine := sz (by omega)
  have hlt := len_tl z
  refine ⟨_, (pss_cons (ps_expr (pe_call G_check_text (hr.mono (by decide)) (by rfl) T.g_check_text T.k_check_text T.B_check_text .nil pass0 (pa_cons (pv 0) pa_nil)))
      (pss_one (ps_ret (pe_ifExp (pt_cmpR op_eq (pe_callB call_len_str (by rfl) T.b_len (by decide +kernel) (pa_cons (pv 0) pa_nil)) (pe_glob (v := .int 122) rfl T.c_WINDOW_SIGNS.choose_spec ⟨_, rfl⟩) (nomark _)) (pe_call G_cells_from (hr.mono (by decide)) (by rfl) T.g_cells_from T.k_cells_from T.B_cells_from .nil pass0 (pa_cons (pv 0) (pa_cons pe_int pa_nil))) pe_non)))), ?_⟩
  walk_at "rd"
  refine iteB (fun c => ?_) (fun c => ?_)
  · have c' : z.length = 122 := by have q : (z.length : Int) = 122 := by { simpa using c }; omega
    walk_at "rd"
    refine ⟨by rw [c']; exact Nat.le_refl _, fun v H' s1 t => k v H' s1 ?_⟩
    unfold winO
    rw [if_pos (by omega)]
    exact t
  · have c' : ¬ z.length = 122 := by have q : ¬ (z.length : Int) = 122 := by { simpa using c }; omega
    walk_at "rd"
    refine k _ _ (Same.refl H) ?_
    unfold winO
    rw [if_neg (by omega)]
    exact .non
theorem ok_is_window (T : Txt K mg a d) (G_cells_from : FnOk P w K mg base CX0 2 a.cells_from d.cells_from ["text", "place"] (sp_cells_from K)) (G_is_text : FnOk P w K mg base CX0 1 a.is_text d.is_text ["value"] (sp_is_text K)) : FnOk P w K mg base CX0 3 a.is_window d.is_window ["value"] (sp_is_window K) := by
  refine T.F_is_window.ok sc_is_window (by walk_at "len") (fun cdv A outer s H vs Q E hr h => ?_)
  obtain ⟨v, rfl, h⟩ := h
  refine ⟨_, (pss_one (ps_ret (pe_and (pe_call G_is_text (hr.mono (by decide)) (by rfl) T.g_is_text T.k_is_text T.B_is_text .nil pass0 (pa_cons (pv 0) pa_nil)) (pe_and (pe_cmpR op_eq (pe_callB call_len_str (by rfl) T.b_len (by decide +kernel) (pa_cons (pv 0) pa_nil)) (pe_glob (v := .int 122) rfl T.c_WINDOW_SIGNS.choose_spec ⟨_, rfl⟩) (nomark _)) (pe_one (pe_cmpR op_notN (pe_call G_cells_from (hr.mono (by decide)) (by rfl) T.g_cells_from T.k_cells_from T.B_cells_from .nil pass0 (pa_cons (pv 0) (pa_cons pe_int pa_nil))) pe_non (nomark _))))))), ?_⟩
  rcases h with ⟨z, rfl, hp, hz, k⟩ | ⟨hv, k⟩
  · have hz1 : z.length ≤ sizeLine := sz (by omega)
    have hlt := len_tl z
    walk_at "rd"
    rw [txtM_ok hp hz]
    walk_at "rd"
    refine iteB (fun c => ?_) (fun c => ?_)
    · have c' : z.length = 122 := by have q : (z.length : Int) = 122 := by { simpa using c }; omega
      walk_at "rd"
      refine ⟨by rw [c']; exact Nat.le_refl _, fun v H' s1 t => ?_⟩
      have e : winO (tl z) = winAt (tl z) 0 := by unfold winO; rw [if_pos (by omega)]
      rw [← e] at t
      have k' := k H' s1
      cases ho : winO (tl z) with
      | none =>
        rw [ho] at t k'
        cases t
        walk_at "rd"
        exact k'
      | some cs =>
        rw [ho] at t k'
        cases t
        walk_at "rd"
        exact k'
    · have c' : ¬ z.length = 122 := by have q : ¬ (z.length : Int) = 122 := by { simpa using c }; omega
      have e : winO (tl z) = none := by unfold winO; rw [if_neg (by omega)]
      have k' := k H (Same.refl H)
      rw [e] at k'
      exact k'
  · walk_at "rd"
    refine .inr ⟨hv, ?_⟩
    walk_at "rd"
    exact k
end
end
section
local macro_rules | `(tactic| walk_at "len") => `(tactic| (intro vs H Q E h; first
  | (obtain ⟨_, e, _⟩ := h; subst e; rfl) | (obtain ⟨_, _, e, _⟩ := h; subst e; rfl) | (obtain ⟨_, _, _, e, _⟩ := h; subst e; rfl) | (obtain ⟨_, _, _, _, e, _⟩ := h; subst e; rfl)))
local macro_rules | `(tactic| walk_at "rd1") => `(tactic| first
  | refine ⟨_, rfl, ?_⟩
  | refine ⟨rfl, ?_⟩
  | refine ⟨trivial, ?_⟩
  | refine ⟨_, _, rfl, rfl, ?_⟩
  | refine ⟨_, rfl, rfl, ?_⟩
  | refine ⟨_, _, _, _, true, rfl, .ty _, .base (.str _), kit_ty (by decide +kernel), ?_⟩
  | refine ⟨_, _, _, _, true, rfl, .ty _, .base (.int _), kit_ty (by decide +kernel), ?_⟩
  | refine ⟨_, _, _, _, false, rfl, .ty _, .base (.int _), kit_ty (by decide +kernel), ?_⟩
  | refine ⟨_, rfl, rfl, trivial, ?_⟩
  | refine ⟨_, _, rfl, ?_⟩
  | refine ⟨_, _, rfl, rfl, by decide, ?_⟩
  | refine ⟨_, _, rfl, rfl, sz (by omega), ?_⟩
  | refine ⟨_, _, rfl, rfl, ⟨by decide, by decide⟩, ?_⟩
  | refine ⟨_, _, _, rfl, rfl, ?_⟩
  | refine ⟨_, _, _, rfl, ?_⟩
  | refine And.intro (Nat.zero_le _) ?_
  | refine And.intro (show List.length _ ≤ sizeLine from Nat.le_of_ble_eq_true rfl) ?_
  | refine And.intro (.inl ⟨rfl, _, SqL.of (by assumption)⟩) ?_
  | refine And.intro (by assumption) ?_
  | refine And.intro (sz (by omega)) ?_
  | refine And.intro (by omega) ?_
  | refine Or.inl ⟨_, rfl, ?_⟩
  | refine Or.inr ⟨_, rfl, ?_⟩
  | refine ⟨_, _, rfl, .inl (SqL.of (by assumption)), ?_⟩
  | refine ⟨_, _, rfl, .inl (by assumption), ?_⟩
  | refine ⟨_, _, rfl, .inr (by assumption), ?_⟩
  | refine ⟨_, _, _, _, rfl, rfl, SqL.of (by assumption), rfl, ?_⟩
  | refine ⟨_, _, _, _, rfl, rfl, SqL.of upd_same, rfl, ?_⟩
  | refine ⟨_, _, _, _, rfl, rfl, by assumption, rfl, ?_⟩
  | refine ⟨_, _, _, _, rfl, rfl, upd_same, rfl, ?_⟩
  | refine And.intro (show CPow _ _ from ⟨by decide, by decide, by decide⟩) ?_
  | refine And.intro (show CDiv _ _ from ⟨by decide, by decide⟩) ?_
  | refine And.intro (show CMul _ _ from .inl ⟨by decide, by decide⟩) ?_
  | refine And.intro (show CMul _ _ from .inr ⟨by decide, by decide⟩) ?_)
local macro_rules | `(tactic| walk_at "rd") => `(tactic| repeat (walk_at "rd1"))
section
variable {P : Program} {w : World} {K : PySem.W.Frag} {mg : Str → Option Value} {base : Heap} {a : Ad} {d : Fd}
theorem three_len3 {c : Int} (h0 : 0 ≤ c) (h1 : c ≤ 996) : (three c).length = 3 := by
  rw [← dig3_three h0 h1]; rfl
theorem flat_len3 : ∀ cs : List Int, (∀ c ∈ cs, 0 ≤ c ∧ c ≤ 996) → (cs.flatMap three).length = 3 * cs.length
  | [], _ => rfl
  | c :: r, h => by
    have h1 := three_len3 (h c (by simp)).1 (h c (by simp)).2
    have h2 := flat_len3 r fun c hc => h c (List.mem_cons_of_mem _ hc)
    rw [List.flatMap_cons, List.length_append, List.length_cons]
    omega
theorem ck_flat : ∀ (cs : List Int) (i : Nat) (c : Int), (∀ c ∈ cs, 0 ≤ c ∧ c ≤ 996) → cs[i]? = some c → ck (cs.flatMap three) i = three c
  | [], _, _, _, h => by simp at h
  | d :: r, 0, c, hb, h => by
    obtain rfl : d = c := by simpa using h
    have h1 := three_len3 (hb d (by simp)).1 (hb d (by simp)).2
    unfold ck
    rw [List.flatMap_cons, Nat.mul_zero, List.drop_zero, List.take_append_of_le_length (by omega), List.take_of_length_le (by omega)]
  | d :: r, i + 1, c, hb, h => by
    have h1 := three_len3 (hb d (by simp)).1 (hb d (by simp)).2
    have ih := ck_flat r i c (fun c hc => hb c (List.mem_cons_of_mem _ hc)) (by simpa using h)
    rw [← ih]
    unfold ck
    rw [List.flatMap_cons, show 3 * (i + 1) = (three d).length + 3 * i by omega, ← List.drop_drop, List.drop_left]
theorem told_flat {cs : List Int} (hb : ∀ c ∈ cs, 0 ≤ c ∧ c ≤ 996) : toldL (cs.flatMap three) = some cs := by
  have hl := flat_len3 cs hb
  have hn : nck (cs.flatMap three) = cs.length := by unfold nck; omega
  have hk : ∀ (i : Nat) (h : i < cs.length), ck (cs.flatMap three) i = dig3 cs[i].toNat := fun i h => by
    have hc := hb cs[i] (List.getElem_mem h)
    rw [ck_flat cs i cs[i] hb (List.getElem?_eq_getElem h), dig3_three hc.1 hc.2]
  rw [told_all, hn]
  · congr 1
    unfold vals
    refine List.ext_getElem (by simp) fun i h1 h2 => ?_
    have hc := hb cs[i] (List.getElem_mem h2)
    rw [List.getElem_map, List.getElem_range, hk i h2, (dig3_v cs[i].toNat (by omega)).2]
    omega
  · rw [hn, oks_iff]
    intro i hi
    have hc := hb cs[i] (List.getElem_mem hi)
    rw [hk i hi]
    exact (dig3_v cs[i].toNat (by omega)).1
theorem win_flat {cs : List Int} (hb : ∀ c ∈ cs, 0 ≤ c ∧ c ≤ 996) (hl : cs.length = 40) : winO (tl (winS cs)) = some cs := by
  have h1 := flat_len3 cs hb
  have e : tl (winS cs) = 35 :: (cs.flatMap three ++ [59]) := by unfold winS; rfl
  unfold winO winAt
  rw [e, if_pos (by rw [List.length_cons, List.length_append, h1, List.length_cons, List.length_nil]; omega), if_pos]
  · rw [List.drop_succ_cons, List.drop_zero, List.take_append_of_le_length (by omega), List.take_of_length_le (by omega)]
    exact told_flat hb
  · refine ⟨rfl, ?_⟩
    rw [Nat.zero_add, List.getElem?_cons_succ, List.getElem?_append_right (by omega), show 120 - (cs.flatMap three).length = 0 by omega]
    rfl
def prb (z : Str) : Bool := (tl z).all fun c => decide (32 ≤ c) && decide (c ≤ 126)
theorem pr_b {z : Str} (h : prb z = true) : pr z := fun c hc => by
  have := List.all_eq_true.mp h c hc
  simpa using this
/-- a text of at most n printable signs -/
def BL (n : Nat) (x : Str) : Prop := pr x ∧ x.length ≤ n
theorem BL.cut {n : Nat} {x : Str} {lo hi : Option Int} (h : BL n x) : BL n (cutS x lo hi) := ⟨pr_cut h.1 lo hi, Nat.le_trans (cutS_length x lo hi) h.2⟩
theorem BL.app {n m : Nat} {x y : Str} (h : BL n x) (g : BL m y) : BL (n + m) (x ++ y) := ⟨pr_app h.1 g.1, by rw [len_app]; exact Nat.add_le_add h.2 g.2⟩
theorem BL.lit {x : Str} (h : prb x = true) : BL x.length x := ⟨pr_b h, Nat.le_refl _⟩
theorem BL.mono {n m : Nat} {x : Str} (h : BL n x) (g : n ≤ m) : BL m x := ⟨h.1, Nat.le_trans h.2 g⟩
theorem BL.sz {n : Nat} {x : Str} (h : BL n x) (g : n ≤ 1000000) : x.length ≤ sizeLine := My.sz (Nat.le_trans h.2 g)
theorem BL.sz2 {n m : Nat} {x y : Str} (h : BL n x) (h2 : BL m y) (g : n + m ≤ 1000000) : x.length + y.length ≤ sizeLine := My.sz (Nat.le_trans (Nat.add_le_add h.2 h2.2) g)
/-- a value that is no text, and not the tray -/
inductive NS (t : Addr) (H : Hp) : V → Prop
  | non : NS t H .non
  | int (i : Int) : NS t H (.int i)
  | bl (b : Bool) : NS t H (.bl b)
  | tup {a : Addr} {xs : List V} (h : H a = some (.tup xs)) (n : a ≠ t) : NS t H (.ref a)
  | lst {a : Addr} {xs : List V} (h : H a = some (.lst xs)) (n : a ≠ t) : NS t H (.ref a)
  | dK {a : Addr} {kvs : List (Key × V)} (h : H a = some (.dK kvs)) (n : a ≠ t) : NS t H (.ref a)
theorem NS.but {t : Addr} {H H' : Hp} {v : V} (b : But t H H') (h : NS t H v) : NS t H' v := by
  cases h with
  | non => exact .non
  | int i => exact .int i
  | bl c => exact .bl c
  | tup h n => exact .tup (b _ _ n h) n
  | lst h n => exact .lst (b _ _ n h) n
  | dK h n => exact .dK (b _ _ n h) n
theorem NS.notS {K : PySem.W.Frag} {t : Addr} {H : Hp} {v : V} (h : NS t H v) : NotS K H v := by
  cases h with
  | non => exact ⟨_, .base .non, kit_ty (by decide +kernel)⟩
  | int i => exact ⟨_, .base (.int i), kit_ty (by decide +kernel)⟩
  | bl c => exact ⟨_, .base (.bl c), kit_ty (by decide +kernel)⟩
  | tup h n => exact ⟨_, .base (.tup h), kit_ty (by decide +kernel)⟩
  | lst h n => exact ⟨_, .base (.lst h), kit_ty (by decide +kernel)⟩
  | dK h n => exact ⟨_, .base (.dK h), kit_ty (by decide +kernel)⟩
end
end
section
local macro_rules | `(tactic| walk_at "len") => `(tactic| (intro vs H Q E h; first
  | (obtain ⟨_, e, _⟩ := h; subst e; rfl) | (obtain ⟨_, _, e, _⟩ := h; subst e; rfl) | (obtain ⟨_, _, _, e, _⟩ := h; subst e; rfl) | (obtain ⟨_, _, _, _, e, _⟩ := h; subst e; rfl)))
local macro_rules | `(tactic| walk_at "rd1") => `(tactic| first
  | refine ⟨_, rfl, ?_⟩
  | refine ⟨rfl, ?_⟩
  | refine ⟨trivial, ?_⟩
  | refine ⟨_, _, rfl, rfl, ?_⟩
  | refine ⟨_, rfl, rfl, ?_⟩
  | refine ⟨_, _, _, _, true, rfl, .ty _, .base (.str _), kit_ty (by decide +kernel), ?_⟩
  | refine ⟨_, _, _, _, true, rfl, .ty _, .base (.int _), kit_ty (by decide +kernel), ?_⟩
  | refine ⟨_, _, _, _, false, rfl, .ty _, .base (.int _), kit_ty (by decide +kernel), ?_⟩
  | refine ⟨_, rfl, rfl, trivial, ?_⟩
  | refine ⟨_, _, rfl, ?_⟩
  | refine ⟨_, _, rfl, rfl, by decide, ?_⟩
  | refine ⟨_, _, rfl, rfl, sz (by omega), ?_⟩
  | refine ⟨_, _, rfl, rfl, ⟨by decide, by decide⟩, ?_⟩
  | refine ⟨_, _, _, rfl, rfl, ?_⟩
  | refine ⟨_, _, _, rfl, ?_⟩
  | refine And.intro (Nat.zero_le _) ?_
  | refine And.intro (show List.length _ ≤ sizeLine from Nat.le_of_ble_eq_true rfl) ?_
  | refine And.intro (.inl ⟨rfl, _, SqL.of (by assumption)⟩) ?_
  | refine And.intro (by assumption) ?_
  | refine And.intro (sz (by omega)) ?_
  | refine And.intro (by omega) ?_
  | refine Or.inl ⟨_, rfl, ?_⟩
  | refine Or.inr ⟨_, rfl, ?_⟩
  | refine ⟨_, _, rfl, .inl (SqL.of (by assumption)), ?_⟩
  | refine ⟨_, _, rfl, .inl (by assumption), ?_⟩
  | refine ⟨_, _, rfl, .inr (by assumption), ?_⟩
  | refine ⟨_, _, _, _, rfl, rfl, SqL.of (by assumption), rfl, ?_⟩
  | refine ⟨_, _, _, _, rfl, rfl, SqL.of upd_same, rfl, ?_⟩
  | refine ⟨_, _, _, _, rfl, rfl, by assumption, rfl, ?_⟩
  | refine ⟨_, _, _, _, rfl, rfl, upd_same, rfl, ?_⟩
  | refine And.intro (show CPow _ _ from ⟨by decide, by decide, by decide⟩) ?_
  | refine And.intro (show CDiv _ _ from ⟨by decide, by decide⟩) ?_
  | refine And.intro (show CMul _ _ from .inl ⟨by decide, by decide⟩) ?_
  | refine And.intro (show CMul _ _ from .inr ⟨by decide, by decide⟩) ?_)
local macro_rules | `(tactic| walk_at "rd") => `(tactic| repeat (walk_at "rd1"))
section
variable {P : Program} {w : World} {K : PySem.W.Frag} {mg : Str → Option Value} {base : Heap} {a : Ad} {d : Fd}
local macro_rules | `(tactic| walk_at "rd1") => `(tactic| first
  | refine And.intro ⟨_, rfl⟩ ?_
  | refine And.intro ⟨_, by assumption⟩ ?_
  | refine And.intro ⟨_, SqL.of (by assumption)⟩ ?_)
local macro_rules | `(tactic| walk_at "bl") => `(tactic| repeat' (first | assumption | with_reducible apply BL.cut | with_reducible apply BL.app | exact BL.lit (by decide +kernel)))
local macro_rules | `(tactic| walk_at "rd1") => `(tactic| first
  | refine And.intro (BL.sz (by walk_at "bl") (by decide +kernel)) ?_
  | refine And.intro (BL.sz2 (by walk_at "bl") (by walk_at "bl") (by decide +kernel)) ?_)
def sp_law_near (K : PySem.W.Frag) : Sp := fun vs H Q _ => ∃ (t : Addr) (z : Str), vs = [.ref t, .str z] ∧ Tray H t ∧ BL 300 z ∧ ∀ p xs H', Dr t H H' → H' p = some (.lst xs) → (∀ v ∈ xs, ∃ y, v = .str y ∧ BL 1000 y) → xs.length ≤ 20 → Q (.ref p) H'
theorem ok_law_near (T : Txt K mg a d) (G_law_pluck : FnOk P w K mg base CX0 1 a.law_pluck d.law_pluck ["tray", "total"] (sp_law_pluck K)) : FnOk P w K mg base CX0 2 a.law_near d.law_near ["tray", "text"] (sp_law_near K) := by
  refine T.F_law_near.ok sc_law_near (by walk_at "len") (fun cdv A outer s H vs Q E hr h => ?_)
  obtain ⟨t, z, rfl, hT, hz, k⟩ := h
  have hz1 : z.length ≤ sizeLine := hz.sz (by decide)
  refine ⟨_, (pss_cons (ps_set (i := 2) sc_law_near.nd rfl (Or.inl rfl) (pe_call G_law_pluck (hr.mono (by decide)) (by rfl) T.g_law_pluck T.k_law_pluck T.B_law_pluck .nil pass0 (pa_cons (pv 0) (pa_cons (pe_op op_add (pe_callB call_len_str (by rfl) T.b_len (by decide +kernel) (pa_cons (pv 1) pa_nil)) pe_int) pa_nil))))
      (pss_cons (ps_set (i := 3) sc_law_near.nd rfl (Or.inl rfl) (pe_lst (pa_cons (pv 1) (pa_cons (pe_op op_add_str (pv 1) pe_str) (pa_cons (pe_slice sl_str (pv 1) po_none (po_some (pe_un un_neg pe_int))) (pa_cons (pe_slice sl_str (pv 1) (po_some pe_int) po_none) (pa_cons (pe_revS (pv 1)) (pa_cons (pe_op op_add_str pe_str (pv 1)) (pa_cons (pe_op op_add_str (pe_op op_add_str (pe_slice sl_str (pv 1) po_none (po_some (pv 2))) pe_str) (pe_slice sl_str (pv 1) (po_some (pv 2)) po_none)) pa_nil)))))))))
      (pss_cons (ps_set (i := 3) sc_law_near.nd rfl (Or.inl rfl) (pe_op op_cat (pv 3) (pe_lst (pa_cons (pe_op op_add_str (pe_op op_add_str (pe_slice sl_str (pv 1) po_none (po_some (pv 2))) pe_str) (pe_slice sl_str (pv 1) (po_some (pv 2)) po_none)) (pa_cons (pe_op op_add_str (pe_op op_add_str (pe_slice sl_str (pv 1) po_none (po_some (pv 2))) pe_str) (pe_slice sl_str (pv 1) (po_some (pe_op op_add (pv 2) pe_int)) po_none)) (pa_cons (pe_op op_add_str (pe_op op_add_str (pe_slice sl_str (pv 1) po_none (po_some (pv 2))) pe_str) (pe_slice sl_str (pv 1) (po_some (pv 2)) po_none)) pa_nil))))))
      (pss_one (ps_ret (pe_op op_cat (pv 3) (pe_lst (pa_cons (pe_op op_add_str (pe_op op_add_str (pe_slice sl_str (pv 1) po_none (po_some (pv 2))) pe_str) (pe_slice sl_str (pv 1) (po_some (pe_op op_add (pv 2) pe_int)) po_none)) (pa_cons (pe_op op_add_str (pe_op op_add_str (pe_slice sl_str (pv 1) po_none (po_some (pv 2))) pe_str) (pe_slice sl_str (pv 1) (po_some (pe_op op_add (pv 2) pe_int)) po_none)) (pa_cons (pe_op op_add_str pe_str (pe_slice sl_str (pv 1) (po_some pe_int) po_none)) (pa_cons (pe_op op_add_str pe_str (pv 1)) pa_nil))))))))))), ?_⟩
  walk_at "rd"
  have hz2 := hz.2
  refine ⟨by omega, fun r H1 r0 r1 d1 => ?_⟩
  walk_at "rd"
  refine fun y hym hyl => ?_
  have hy : BL 300 y := ⟨fun c hc => hz.1 c (hym c hc), Nat.le_trans hyl hz.2⟩
  have al : ∀ {n : Nat} {x : Str} {xs : List V}, BL n x → n ≤ 1000 → (∀ v ∈ xs, ∃ y, v = .str y ∧ BL 1000 y) → ∀ v ∈ V.str x :: xs, ∃ y, v = .str y ∧ BL 1000 y := fun h g t v hv => by
    rcases List.mem_cons.mp hv with rfl | hv
    · exact ⟨_, rfl, h.mono g⟩
    · exact t v hv
  have an : ∀ v ∈ ([] : List V), ∃ y, v = .str y ∧ BL 1000 y := fun v hv => nomatch hv
  walk_at "rd"
  refine fun L1 hL1 => ?_
  have s1 := Same.new (o := .lst [V.str z, .str (z ++ Str.ofString "0"), .str (cutS z none (some (-1))), .str (cutS z (some 1) none), .str y, .str (Str.ofString "997" ++ z), .str (cutS z none (some r) ++ Str.ofString "997" ++ cutS z (some r) none)]) hL1
  have g1 := upd_same (H := H1) (a := L1) (o := .lst [V.str z, .str (z ++ Str.ofString "0"), .str (cutS z none (some (-1))), .str (cutS z (some 1) none), .str y, .str (Str.ofString "997" ++ z), .str (cutS z none (some r) ++ Str.ofString "997" ++ cutS z (some r) none)])
  have a1 : ∀ v ∈ [V.str z, .str (z ++ Str.ofString "0"), .str (cutS z none (some (-1))), .str (cutS z (some 1) none), .str y, .str (Str.ofString "997" ++ z), .str (cutS z none (some r) ++ Str.ofString "997" ++ cutS z (some r) none)], ∃ y, v = .str y ∧ BL 1000 y := by
    repeat (refine al (by walk_at "bl") (by decide +kernel) ?_)
    exact an
  have n1 : [V.str z, .str (z ++ Str.ofString "0"), .str (cutS z none (some (-1))), .str (cutS z (some 1) none), .str y, .str (Str.ofString "997" ++ z), .str (cutS z none (some r) ++ Str.ofString "997" ++ cutS z (some r) none)].length = 7 := rfl
  generalize [V.str z, .str (z ++ Str.ofString "0"), .str (cutS z none (some (-1))), .str (cutS z (some 1) none), .str y, .str (Str.ofString "997" ++ z), .str (cutS z none (some r) ++ Str.ofString "997" ++ cutS z (some r) none)] = xs1 at *
  have d2 := d1.trans (Dr.same d1.2.1 s1)
  generalize upd H1 L1 (.lst xs1) = H2 at *
  walk_at "rd"
  refine fun L2 hL2 => ?_
  have a2 : ∀ v ∈ [V.str (cutS z none (some r) ++ Str.ofString " " ++ cutS z (some r) none), .str (cutS z none (some r) ++ Str.ofString "-" ++ cutS z (some (r + 1)) none), .str (cutS z none (some r) ++ Str.ofString "000" ++ cutS z (some r) none)], ∃ y, v = .str y ∧ BL 1000 y := by
    repeat (refine al (by walk_at "bl") (by decide +kernel) ?_)
    exact an
  have n2 : [V.str (cutS z none (some r) ++ Str.ofString " " ++ cutS z (some r) none), .str (cutS z none (some r) ++ Str.ofString "-" ++ cutS z (some (r + 1)) none), .str (cutS z none (some r) ++ Str.ofString "000" ++ cutS z (some r) none)].length ≤ 4 := by simp
  generalize [V.str (cutS z none (some r) ++ Str.ofString " " ++ cutS z (some r) none), .str (cutS z none (some r) ++ Str.ofString "-" ++ cutS z (some (r + 1)) none), .str (cutS z none (some r) ++ Str.ofString "000" ++ cutS z (some r) none)] = xs2 at *
  have s2 := Same.new (o := .lst xs2) hL2
  have g2 := upd_same (H := H2) (a := L2) (o := .lst xs2)
  have d3 := d2.trans (Dr.same d2.2.1 s2)
  generalize upd H2 L2 (.lst xs2) = H3 at *
  have g1' := s2 _ _ g1
  walk_at "rd"
  refine ⟨_, _, _, _, rfl, rfl, g1', g2, sz (by omega), fun L3 hL3 => ?_⟩
  have s3 := Same.new (o := .lst (xs1 ++ xs2)) hL3
  have g3 := upd_same (H := H3) (a := L3) (o := .lst (xs1 ++ xs2))
  have d4 := d3.trans (Dr.same d3.2.1 s3)
  generalize upd H3 L3 (.lst (xs1 ++ xs2)) = H4 at *
  walk_at "rd"
  refine fun L4 hL4 => ?_
  have a4 : ∀ v ∈ [V.str (cutS z none (some r) ++ Str.ofString "#" ++ cutS z (some (r + 1)) none), .str (cutS z none (some r) ++ Str.ofString "9" ++ cutS z (some (r + 1)) none), .str (Str.ofString " " ++ cutS z (some 1) none), .str (Str.ofString "+12" ++ z)], ∃ y, v = .str y ∧ BL 1000 y := by
    repeat (refine al (by walk_at "bl") (by decide +kernel) ?_)
    exact an
  have n4 : [V.str (cutS z none (some r) ++ Str.ofString "#" ++ cutS z (some (r + 1)) none), .str (cutS z none (some r) ++ Str.ofString "9" ++ cutS z (some (r + 1)) none), .str (Str.ofString " " ++ cutS z (some 1) none), .str (Str.ofString "+12" ++ z)].length ≤ 4 := by simp
  generalize [V.str (cutS z none (some r) ++ Str.ofString "#" ++ cutS z (some (r + 1)) none), .str (cutS z none (some r) ++ Str.ofString "9" ++ cutS z (some (r + 1)) none), .str (Str.ofString " " ++ cutS z (some 1) none), .str (Str.ofString "+12" ++ z)] = xs3 at *
  have s4 := Same.new (o := .lst xs3) hL4
  have g4 := upd_same (H := H4) (a := L4) (o := .lst xs3)
  have d5 := d4.trans (Dr.same d4.2.1 s4)
  generalize upd H4 L4 (.lst xs3) = H5 at *
  have g3' := s4 _ _ g3
  have n3 : (xs1 ++ xs2).length ≤ 12 := by rw [List.length_append]; omega
  walk_at "rd"
  refine ⟨_, _, _, _, rfl, rfl, g3', g4, sz (by omega), fun L5 hL5 => ?_⟩
  have s5 := Same.new (o := .lst (xs1 ++ xs2 ++ xs3)) hL5
  refine k L5 (xs1 ++ xs2 ++ xs3) _ (d5.trans (Dr.same d5.2.1 s5)) upd_same (fun v hv => ?_) (by rw [List.length_append]; omega)
  rcases List.mem_append.mp hv with hv | hv
  · rcases List.mem_append.mp hv with hv | hv
    · exact a1 v hv
    · exact a2 v hv
  · exact a4 v hv
end
end
section
local macro_rules | `(tactic| walk_at "len") => `(tactic| (intro vs H Q E h; first
  | (obtain ⟨_, e, _⟩ := h; subst e; rfl) | (obtain ⟨_, _, e, _⟩ := h; subst e; rfl) | (obtain ⟨_, _, _, e, _⟩ := h; subst e; rfl) | (obtain ⟨_, _, _, _, e, _⟩ := h; subst e; rfl)))
local macro_rules | `(tactic| walk_at "rd1") => `(tactic| first
  | refine ⟨_, rfl, ?_⟩
  | refine ⟨rfl, ?_⟩
  | refine ⟨trivial, ?_⟩
  | refine ⟨_, _, rfl, rfl, ?_⟩
  | refine ⟨_, rfl, rfl, ?_⟩
  | refine ⟨_, _, _, _, true, rfl, .ty _, .base (.str _), kit_ty (by decide +kernel), ?_⟩
  | refine ⟨_, _, _, _, true, rfl, .ty _, .base (.int _), kit_ty (by decide +kernel), ?_⟩
  | refine ⟨_, _, _, _, false, rfl, .ty _, .base (.int _), kit_ty (by decide +kernel), ?_⟩
  | refine ⟨_, rfl, rfl, trivial, ?_⟩
  | refine ⟨_, _, rfl, ?_⟩
  | refine ⟨_, _, rfl, rfl, by decide, ?_⟩
  | refine ⟨_, _, rfl, rfl, sz (by omega), ?_⟩
  | refine ⟨_, _, rfl, rfl, ⟨by decide, by decide⟩, ?_⟩
  | refine ⟨_, _, _, rfl, rfl, ?_⟩
  | refine ⟨_, _, _, rfl, ?_⟩
  | refine And.intro (Nat.zero_le _) ?_
  | refine And.intro (show List.length _ ≤ sizeLine from Nat.le_of_ble_eq_true rfl) ?_
  | refine And.intro (.inl ⟨rfl, _, SqL.of (by assumption)⟩) ?_
  | refine And.intro (by assumption) ?_
  | refine And.intro (sz (by omega)) ?_
  | refine And.intro (by omega) ?_
  | refine Or.inl ⟨_, rfl, ?_⟩
  | refine Or.inr ⟨_, rfl, ?_⟩
  | refine ⟨_, _, rfl, .inl (SqL.of (by assumption)), ?_⟩
  | refine ⟨_, _, rfl, .inl (by assumption), ?_⟩
  | refine ⟨_, _, rfl, .inr (by assumption), ?_⟩
  | refine ⟨_, _, _, _, rfl, rfl, SqL.of (by assumption), rfl, ?_⟩
  | refine ⟨_, _, _, _, rfl, rfl, SqL.of upd_same, rfl, ?_⟩
  | refine ⟨_, _, _, _, rfl, rfl, by assumption, rfl, ?_⟩
  | refine ⟨_, _, _, _, rfl, rfl, upd_same, rfl, ?_⟩
  | refine And.intro (show CPow _ _ from ⟨by decide, by decide, by decide⟩) ?_
  | refine And.intro (show CDiv _ _ from ⟨by decide, by decide⟩) ?_
  | refine And.intro (show CMul _ _ from .inl ⟨by decide, by decide⟩) ?_
  | refine And.intro (show CMul _ _ from .inr ⟨by decide, by decide⟩) ?_)
local macro_rules | `(tactic| walk_at "rd") => `(tactic| repeat (walk_at "rd1"))
section
variable {P : Program} {w : World} {K : PySem.W.Frag} {mg : Str → Option Value} {base : Heap} {a : Ad} {d : Fd}
local macro_rules | `(tactic| walk_at "rd1") => `(tactic| first
  | refine And.intro ⟨_, rfl⟩ ?_
  | refine And.intro ⟨_, by assumption⟩ ?_
  | refine And.intro ⟨_, SqL.of (by assumption)⟩ ?_)
def sp_law_is_window (K : PySem.W.Frag) : Sp := fun vs H Q _ => ∃ z : Str, vs = [.str z] ∧ pr z ∧ z.length ≤ 60000 ∧ ∀ H', Same H H' → Q (.bl (winO (tl z)).isSome) H'
def sp_law_odd_values (K : PySem.W.Frag) : Sp := fun vs H Q _ => ∃ t : Addr, vs = [.ref t] ∧ Tray H t ∧ ∀ p xs H', Dr t H H' → H' p = some (.lst xs) → (∀ v ∈ xs, NS t H' v) → xs.length ≤ 10 → Q (.ref p) H'
theorem atI_lastN {α : Type} {xs : List α} {x : α} (h : xs[xs.length - 1]? = some x) : atI xs (-1) = some x := by
  rcases List.eq_nil_or_concat xs with e | ⟨l, y, rfl⟩
  · subst e; cases h
  · rw [List.concat_eq_append] at h ⊢
    rw [atI_last l y]
    simpa using h
theorem cut_in {z : Str} (h : z.length = 122) : tl (cutS z (some 1) (some (-1))) = ((tl z).drop 1).take 120 := by
  rw [tl_cut, h]
  rfl
theorem ok_law_is_window (T : Txt K mg a d) (G_law_told : FnOk P w K mg base CX0 1 a.law_told d.law_told ["digits"] (sp_law_told K)) : FnOk P w K mg base CX0 2 a.law_is_window d.law_is_window ["value"] (sp_law_is_window K) := by
  refine T.F_law_is_window.ok sc_law_is_window (by walk_at "len") (fun cdv A outer s H vs Q E hr h => ?_)
  obtain ⟨z, rfl, hp, hz, k⟩ := h
  have hz1 : z.length ≤ sizeLine := sz (by omega)
  have hlt := len_tl z
  refine ⟨_, (pss_cons (ps_if (PW.pt (pw_or (pt_not (pt_val (pe_callB call_isi (by rfl) T.b_isinstance (by decide +kernel) (pa_cons (pv 0) (pa_cons (pe_bltn (v := .ty "str") (by rfl) T.b_str (by decide +kernel) rfl) pa_nil))))) (pw_or (pt_cmpR op_ne (pe_callB call_len_str (by rfl) T.b_len (by decide +kernel) (pa_cons (pv 0) pa_nil)) pe_int (nomark _)) (pw_or (pt_cmpR op_ne (pe_ix ix_str (pv 0) pe_int (fun _ _ => rfl)) pe_str (nomark _)) (pw_or1 (pt_cmpR op_ne (pe_ix ix_str (pv 0) (pe_un un_neg pe_int) (fun _ _ => rfl)) pe_str (nomark _))))))) (pss_one (ps_ret pe_bl)) pss_nil)
      (pss_one (ps_ret (pe_cmpR op_notN (pe_call G_law_told (hr.mono (by decide)) (by rfl) T.g_law_told T.k_law_told T.B_law_told .nil pass0 (pa_cons (pe_slice sl_str (pv 0) (po_some pe_int) (po_some (pe_un un_neg pe_int))) pa_nil)) pe_non (nomark _))))), ?_⟩
  have no : winO (tl z) = none → Q (.bl false) H := fun e => by
    have q := k H (Same.refl H)
    rw [e] at q
    exact q
  walk_at "rd"
  refine iteB (fun c => ?_) (fun c => ?_)
  · have c' : ¬ z.length = 122 := by have q : ¬ (z.length : Int) = 122 := by { simpa using c }; omega
    walk_at "rd"
    exact no (by unfold winO; rw [if_neg (by omega)])
  have c' : z.length = 122 := by have q : (z.length : Int) = 122 := by { simpa using c }; omega
  have ew : winO (tl z) = winAt (tl z) 0 := by unfold winO; rw [if_pos (by omega)]
  obtain ⟨c1, hc1⟩ : ∃ c, (tl z)[0]? = some c := ⟨_, List.getElem?_eq_getElem (by omega)⟩
  obtain ⟨c2, hc2⟩ : ∃ c, (tl z)[121]? = some c := ⟨_, List.getElem?_eq_getElem (by omega)⟩
  have non : ¬ ((tl z)[0]? = some 35 ∧ (tl z)[0 + 121]? = some 59) → winO (tl z) = none := fun g => by rw [ew]; unfold winAt; rw [if_neg g]
  walk_at "rd"
  refine ⟨_, _, c1, rfl, rfl, hz1, atI_nat hc1, ?_⟩
  walk_at "rd"
  refine iteB (fun h1 => ?_) (fun h1 => ?_)
  · walk_at "rd"
    refine no (non ?_)
    rintro ⟨g, _⟩
    rw [hc1] at g
    rw [(sgn (s := "#") (k := 35) rfl).mpr (Option.some.inj g)] at h1
    simp at h1
  have g1 : c1 = 35 := (sgn (s := "#") (k := 35) rfl).mp (by simpa using h1)
  walk_at "rd"
  refine ⟨_, _, c2, rfl, rfl, hz1, atI_lastN (by show (tl z)[(tl z).length - 1]? = _; rw [show (tl z).length - 1 = 121 by omega]; exact hc2), ?_⟩
  walk_at "rd"
  refine iteB (fun h2 => ?_) (fun h2 => ?_)
  · walk_at "rd"
    refine no (non ?_)
    rintro ⟨_, g⟩
    rw [Nat.zero_add, hc2] at g
    rw [(sgn (s := ";") (k := 59) rfl).mpr (Option.some.inj g)] at h2
    simp at h2
  have g2 : c2 = 59 := (sgn (s := ";") (k := 59) rfl).mp (by simpa using h2)
  walk_at "rd"
  refine ⟨pr_cut hp _ _, Nat.le_trans (cutS_length _ _ _) hz, fun v H' s1 t => ?_⟩
  have e2 : winO (tl z) = toldL (tl (cutS z (some 1) (some (-1)))) := by
    rw [ew, cut_in c']
    unfold winAt
    rw [if_pos ⟨by rw [hc1, g1], by rw [Nat.zero_add, hc2, g2]⟩]
  have k' := k H' s1
  rw [← e2] at t
  cases ho : winO (tl z) with
  | none =>
    rw [ho] at t k'
    cases t
    walk_at "rd"
    exact k'
  | some cs =>
    rw [ho] at t k'
    cases t
    walk_at "rd"
    exact k'
end
end
section
local macro_rules | `(tactic| walk_at "len") => `(tactic| (intro vs H Q E h; first
  | (obtain ⟨_, e, _⟩ := h; subst e; rfl) | (obtain ⟨_, _, e, _⟩ := h; subst e; rfl) | (obtain ⟨_, _, _, e, _⟩ := h; subst e; rfl) | (obtain ⟨_, _, _, _, e, _⟩ := h; subst e; rfl)))
local macro_rules | `(tactic| walk_at "rd1") => `(tactic| first
  | refine ⟨_, rfl, ?_⟩
  | refine ⟨rfl, ?_⟩
  | refine ⟨trivial, ?_⟩
  | refine ⟨_, _, rfl, rfl, ?_⟩
  | refine ⟨_, rfl, rfl, ?_⟩
  | refine ⟨_, _, _, _, true, rfl, .ty _, .base (.str _), kit_ty (by decide +kernel), ?_⟩
  | refine ⟨_, _, _, _, true, rfl, .ty _, .base (.int _), kit_ty (by decide +kernel), ?_⟩
  | refine ⟨_, _, _, _, false, rfl, .ty _, .base (.int _), kit_ty (by decide +kernel), ?_⟩
  | refine ⟨_, rfl, rfl, trivial, ?_⟩
  | refine ⟨_, _, rfl, ?_⟩
  | refine ⟨_, _, rfl, rfl, by decide, ?_⟩
  | refine ⟨_, _, rfl, rfl, sz (by omega), ?_⟩
  | refine ⟨_, _, rfl, rfl, ⟨by decide, by decide⟩, ?_⟩
  | refine ⟨_, _, _, rfl, rfl, ?_⟩
  | refine ⟨_, _, _, rfl, ?_⟩
  | refine And.intro (Nat.zero_le _) ?_
  | refine And.intro (show List.length _ ≤ sizeLine from Nat.le_of_ble_eq_true rfl) ?_
  | refine And.intro (.inl ⟨rfl, _, SqL.of (by assumption)⟩) ?_
  | refine And.intro (by assumption) ?_
  | refine And.intro (sz (by omega)) ?_
  | refine And.intro (by omega) ?_
  | refine Or.inl ⟨_, rfl, ?_⟩
  | refine Or.inr ⟨_, rfl, ?_⟩
  | refine ⟨_, _, rfl, .inl (SqL.of (by assumption)), ?_⟩
  | refine ⟨_, _, rfl, .inl (by assumption), ?_⟩
  | refine ⟨_, _, rfl, .inr (by assumption), ?_⟩
  | refine ⟨_, _, _, _, rfl, rfl, SqL.of (by assumption), rfl, ?_⟩
  | refine ⟨_, _, _, _, rfl, rfl, SqL.of upd_same, rfl, ?_⟩
  | refine ⟨_, _, _, _, rfl, rfl, by assumption, rfl, ?_⟩
  | refine ⟨_, _, _, _, rfl, rfl, upd_same, rfl, ?_⟩
  | refine And.intro (show CPow _ _ from ⟨by decide, by decide, by decide⟩) ?_
  | refine And.intro (show CDiv _ _ from ⟨by decide, by decide⟩) ?_
  | refine And.intro (show CMul _ _ from .inl ⟨by decide, by decide⟩) ?_
  | refine And.intro (show CMul _ _ from .inr ⟨by decide, by decide⟩) ?_)
local macro_rules | `(tactic| walk_at "rd") => `(tactic| repeat (walk_at "rd1"))
section
variable {P : Program} {w : World} {K : PySem.W.Frag} {mg : Str → Option Value} {base : Heap} {a : Ad} {d : Fd}
local macro_rules | `(tactic| walk_at "rd1") => `(tactic| first
  | refine And.intro ⟨_, rfl⟩ ?_
  | refine And.intro ⟨_, by assumption⟩ ?_
  | refine And.intro ⟨_, SqL.of (by assumption)⟩ ?_)
theorem NS.same {t : Addr} {H H' : Hp} {v : V} (b : Same H H') (h : NS t H v) : NS t H' v := h.but (But.of b)
theorem NS.newT {t a : Addr} {H : Hp} {xs : List V} (hT : Tray H t) (h : H a = none) : NS t (upd H a (.tup xs)) (.ref a) := .tup upd_same (hT.ne h)
theorem NS.newL {t a : Addr} {H : Hp} {xs : List V} (hT : Tray H t) (h : H a = none) : NS t (upd H a (.lst xs)) (.ref a) := .lst upd_same (hT.ne h)
theorem NS.newD {t a : Addr} {H : Hp} {xs : List (Key × V)} (hT : Tray H t) (h : H a = none) : NS t (upd H a (.dK xs)) (.ref a) := .dK upd_same (hT.ne h)
theorem ok_law_odd_values (T : Txt K mg a d) (G_law_some : FnOk P w K mg base CX0 2 a.law_some d.law_some ["tray", "items"] (sp_law_some K)) : FnOk P w K mg base CX0 3 a.law_odd_values d.law_odd_values ["tray"] (sp_law_odd_values K) := by
  refine T.F_law_odd_values.ok sc_law_odd_values (by walk_at "len") (fun cdv A outer s H vs Q E hr h => ?_)
  obtain ⟨t, rfl, t0, k⟩ := h
  refine ⟨_, (pss_one (ps_ret (pe_lst (pa_cons pe_non (pa_cons pe_int (pa_cons (pe_tup pa_nil) (pa_cons (pe_tup (pa_cons pe_str pa_nil)) (pa_cons (pe_lst (pa_cons pe_str pa_nil)) (pa_cons pe_dnewK (pa_cons pe_bl (pa_cons (pe_op op_pow pe_int pe_int) (pa_cons (pe_un un_neg pe_int) (pa_cons (pe_call G_law_some (hr.mono (by decide)) (by rfl) T.g_law_some T.k_law_some T.B_law_some .nil pass0 (pa_cons (pv 0) (pa_cons (pe_lst (pa_cons (pe_tup pa_nil) (pa_cons (pe_lst pa_nil) (pa_cons (pe_disp (pps_cons pe_str pe_int pps_nil) (by rfl) (by rfl) (fun z => by cases z) (by decide)) (pa_cons (pe_tup (pa_cons pe_int (pa_cons pe_int pa_nil))) pa_nil))))) pa_nil))) pa_nil))))))))))))), ?_⟩
  walk_at "rd"
  refine fun T1 h1 => ?_
  have s1 := Same.new (o := .tup []) h1
  have m1 := NS.newT (xs := []) (t0) h1
  have t1 := (t0).same s1
  generalize upd H T1 (.tup []) = H1 at *
  walk_at "rd"
  refine fun T2 h2 => ?_
  have s2 := Same.new (o := .tup [.str "#"]) h2
  have m2 := NS.newT (xs := [.str "#"]) (t1) h2
  have t2 := (t1).same s2
  generalize upd H1 T2 (.tup [.str "#"]) = H2 at *
  walk_at "rd"
  refine fun T3 h3 => ?_
  have s3 := Same.new (o := .lst [.str "#007;"]) h3
  have m3 := NS.newL (xs := [.str "#007;"]) (t2) h3
  have t3 := (t2).same s3
  generalize upd H2 T3 (.lst [.str "#007;"]) = H3 at *
  walk_at "rd"
  refine fun T4 h4 => ?_
  have s4 := Same.new (o := .dK []) h4
  have m4 := NS.newD (xs := []) (t3) h4
  have t4 := (t3).same s4
  generalize upd H3 T4 (.dK []) = H4 at *
  walk_at "rd"
  refine fun T5 h5 => ?_
  have s5 := Same.new (o := .tup []) h5
  have m5 := NS.newT (xs := []) (t4) h5
  have t5 := (t4).same s5
  generalize upd H4 T5 (.tup []) = H5 at *
  walk_at "rd"
  refine fun T6 h6 => ?_
  have s6 := Same.new (o := .lst []) h6
  have m6 := NS.newL (xs := []) (t5) h6
  have t6 := (t5).same s6
  generalize upd H5 T6 (.lst []) = H6 at *
  walk_at "rd"
  refine fun T7 h7 => ?_
  refine ⟨upd_same, [(Sum.inr (Str.ofString "x"), .int 1)], rfl, by decide, ?_⟩
  have s7 : Same H6 (upd (upd H6 T7 (.dK [])) T7 (.dK (mergeK [] [(Sum.inr (Str.ofString "x"), .int 1)]))) := fun b o e => by
    rw [upd_ne (ne_of_none e h7), upd_ne (ne_of_none e h7)]; exact e
  have m7 : NS t (upd (upd H6 T7 (.dK [])) T7 (.dK (mergeK [] [(Sum.inr (Str.ofString "x"), .int 1)]))) (.ref T7) := .dK upd_same (t6.ne h7)
  have t7 := t6.same s7
  generalize upd (upd H6 T7 (.dK [])) T7 (.dK (mergeK [] [(Sum.inr (Str.ofString "x"), .int 1)])) = H7 at *
  walk_at "rd"
  refine fun T8 h8 => ?_
  have s8 := Same.new (o := .tup [.int 1, .int 2]) h8
  have m8 := NS.newT (xs := [.int 1, .int 2]) (t7) h8
  have t8 := (t7).same s8
  generalize upd H7 T8 (.tup [.int 1, .int 2]) = H8 at *
  walk_at "rd"
  refine fun T9 h9 => ?_
  have s9 := Same.new (o := .lst [.ref T5, .ref T6, .ref T7, .ref T8]) h9
  have t9 := t8.same s9
  have hT9t := t8.ne h9
  refine ⟨t, T9, _, rfl, t9, hT9t, upd_same, by simp, by simp, fun y H10 hy d10 => ?_⟩
  have b9 := But.of (t := t) s9
  have b8 := (But.of (t := t) s8).trans b9
  have b7 := (But.of (t := t) s7).trans b8
  have b6 := (But.of (t := t) s6).trans b7
  have b5 := (But.of (t := t) s5).trans b6
  have b4 := (But.of (t := t) s4).trans b5
  have b3 := (But.of (t := t) s3).trans b4
  have b2 := (But.of (t := t) s2).trans b3
  have b1 := (But.of (t := t) s1).trans b2
  have my : NS t H10 y := by
    simp only [List.mem_cons, List.not_mem_nil, or_false] at hy
    rcases hy with rfl | rfl | rfl | rfl
    · exact m5.but (b6.trans d10.1)
    · exact m6.but (b7.trans d10.1)
    · exact m7.but (b8.trans d10.1)
    · exact m8.but (b9.trans d10.1)
  have q1 := m1.but (b2.trans d10.1)
  have q2 := m2.but (b3.trans d10.1)
  have q3 := m3.but (b4.trans d10.1)
  have q4 := m4.but (b5.trans d10.1)
  have dz : Dr t H H10 := ⟨b1.trans d10.1, d10.2.1, (Kt.of s1).trans ((Kt.of s2).trans ((Kt.of s3).trans ((Kt.of s4).trans ((Kt.of s5).trans ((Kt.of s6).trans ((Kt.of s7).trans ((Kt.of s8).trans ((Kt.of s9).trans d10.2.2))))))))⟩
  walk_at "rd"
  refine fun L hL => ?_
  have sL := But.of (t := t) (Same.new (o := .lst [.non, .int 0, .ref T1, .ref T2, .ref T3, .ref T4, .bl true, .int ((10 : Int) ^ (60 : Int).toNat), .int (-1), y]) hL)
  refine k L _ _ (dz.trans (Dr.new dz.2.1 hL)) upd_same (fun v hv => ?_) (by simp)
  simp only [List.mem_cons, List.not_mem_nil, or_false] at hv
  rcases hv with rfl | rfl | rfl | rfl | rfl | rfl | rfl | rfl | rfl | rfl
  · exact .non
  · exact .int _
  · exact q1.but sL
  · exact q2.but sL
  · exact q3.but sL
  · exact q4.but sL
  · exact .bl _
  · exact .int _
  · exact .int _
  · exact my.but sL
end
end
section
local macro_rules | `(tactic| walk_at "len") => `(tactic| (intro vs H Q E h; first
  | (obtain ⟨_, e, _⟩ := h; subst e; rfl) | (obtain ⟨_, _, e, _⟩ := h; subst e; rfl) | (obtain ⟨_, _, _, e, _⟩ := h; subst e; rfl) | (obtain ⟨_, _, _, _, e, _⟩ := h; subst e; rfl)))
local macro_rules | `(tactic| walk_at "rd1") => `(tactic| first
  | refine ⟨_, rfl, ?_⟩
  | refine ⟨rfl, ?_⟩
  | refine ⟨trivial, ?_⟩
  | refine ⟨_, _, rfl, rfl, ?_⟩
  | refine ⟨_, rfl, rfl, ?_⟩
  | refine ⟨_, _, _, _, true, rfl, .ty _, .base (.str _), kit_ty (by decide +kernel), ?_⟩
  | refine ⟨_, _, _, _, true, rfl, .ty _, .base (.int _), kit_ty (by decide +kernel), ?_⟩
  | refine ⟨_, _, _, _, false, rfl, .ty _, .base (.int _), kit_ty (by decide +kernel), ?_⟩
  | refine ⟨_, rfl, rfl, trivial, ?_⟩
  | refine ⟨_, _, rfl, ?_⟩
  | refine ⟨_, _, rfl, rfl, by decide, ?_⟩
  | refine ⟨_, _, rfl, rfl, sz (by omega), ?_⟩
  | refine ⟨_, _, rfl, rfl, ⟨by decide, by decide⟩, ?_⟩
  | refine ⟨_, _, _, rfl, rfl, ?_⟩
  | refine ⟨_, _, _, rfl, ?_⟩
  | refine And.intro (Nat.zero_le _) ?_
  | refine And.intro (show List.length _ ≤ sizeLine from Nat.le_of_ble_eq_true rfl) ?_
  | refine And.intro (.inl ⟨rfl, _, SqL.of (by assumption)⟩) ?_
  | refine And.intro (by assumption) ?_
  | refine And.intro (sz (by omega)) ?_
  | refine And.intro (by omega) ?_
  | refine Or.inl ⟨_, rfl, ?_⟩
  | refine Or.inr ⟨_, rfl, ?_⟩
  | refine ⟨_, _, rfl, .inl (SqL.of (by assumption)), ?_⟩
  | refine ⟨_, _, rfl, .inl (by assumption), ?_⟩
  | refine ⟨_, _, rfl, .inr (by assumption), ?_⟩
  | refine ⟨_, _, _, _, rfl, rfl, SqL.of (by assumption), rfl, ?_⟩
  | refine ⟨_, _, _, _, rfl, rfl, SqL.of upd_same, rfl, ?_⟩
  | refine ⟨_, _, _, _, rfl, rfl, by assumption, rfl, ?_⟩
  | refine ⟨_, _, _, _, rfl, rfl, upd_same, rfl, ?_⟩
  | refine And.intro (show CPow _ _ from ⟨by decide, by decide, by decide⟩) ?_
  | refine And.intro (show CDiv _ _ from ⟨by decide, by decide⟩) ?_
  | refine And.intro (show CMul _ _ from .inl ⟨by decide, by decide⟩) ?_
  | refine And.intro (show CMul _ _ from .inr ⟨by decide, by decide⟩) ?_)
local macro_rules | `(tactic| walk_at "rd") => `(tactic| repeat (walk_at "rd1"))
section
variable {P : Program} {w : World} {K : PySem.W.Frag} {mg : Str → Option Value} {base : Heap} {a : Ad} {d : Fd}
local macro_rules | `(tactic| walk_at "rd1") => `(tactic| first
  | refine And.intro ⟨_, rfl⟩ ?_
  | refine And.intro ⟨_, by assumption⟩ ?_
  | refine And.intro ⟨_, SqL.of (by assumption)⟩ ?_)
def sp_law_right (K : PySem.W.Frag) : Sp := fun vs H Q _ => ∃ t : Addr, vs = [.ref t] ∧ Tray H t ∧ ∀ H', Dr t H H' → Q (.bl true) H'
theorem pr_flat {z : Str} {cs : List Int} (e : tl z = cs.flatMap three) : pr z := fun c hc => by
  rw [e] at hc
  obtain ⟨i, _, q⟩ := List.mem_flatMap.mp hc
  have := numL_digits (1000 + i.toNat) c (List.mem_of_mem_drop q)
  omega
theorem sh_encO (o : Option (List Int)) : SeqAt.shaped (encO o) = true := by
  cases o with
  | none => rfl
  | some c => exact flat_shaped (n := 1) (flat_ints c) (by decide)
theorem win_cut {z : Str} (h : (winO (tl z)).isSome = true) : toldL (tl (cutS z (some 1) (some (-1)))) = winO (tl z) := by
  have hlt := len_tl z
  by_cases c : (tl z).length = 122
  · have ew : winO (tl z) = winAt (tl z) 0 := by unfold winO; rw [if_pos c]
    rw [ew] at h ⊢
    rw [cut_in (by omega)]
    unfold winAt at h ⊢
    by_cases g : (tl z)[0]? = some 35 ∧ (tl z)[0 + 121]? = some 59
    · rw [if_pos g]
    · rw [if_neg g] at h; cases h
  · unfold winO at h
    rw [if_neg c] at h
    cases h
theorem ok_law_right (T : Txt K mg a d) (G_law_cells : FnOk P w K mg base CX0 3 a.law_cells d.law_cells ["tray"] (sp_law_cells K)) (G_law_is_window : FnOk P w K mg base CX0 2 a.law_is_window d.law_is_window ["value"] (sp_law_is_window K)) (G_law_near : FnOk P w K mg base CX0 2 a.law_near d.law_near ["tray", "text"] (sp_law_near K)) (G_law_odd_values : FnOk P w K mg base CX0 3 a.law_odd_values d.law_odd_values ["tray"] (sp_law_odd_values K)) (G_law_pluck : FnOk P w K mg base CX0 1 a.law_pluck d.law_pluck ["tray", "total"] (sp_law_pluck K)) (G_law_some : FnOk P w K mg base CX0 2 a.law_some d.law_some ["tray", "items"] (sp_law_some K)) (G_law_three : FnOk P w K mg base CX0 1 a.law_three d.law_three ["cell"] (sp_law_three K)) (G_law_told : FnOk P w K mg base CX0 1 a.law_told d.law_told ["digits"] (sp_law_told K)) (G_law_window : FnOk P w K mg base CX0 2 a.law_window d.law_window ["cells"] (sp_law_window K)) (G_cells_text : FnOk P w K mg base CX0 5 a.cells_text d.cells_text ["cells"] (sp_cells_text K)) (G_is_text : FnOk P w K mg base CX0 1 a.is_text d.is_text ["value"] (sp_is_text K)) (G_is_window : FnOk P w K mg base CX0 3 a.is_window d.is_window ["value"] (sp_is_window K)) (G_told_cells : FnOk P w K mg base CX0 3 a.told_cells d.told_cells ["text"] (sp_told_cells K)) (G_window_cells : FnOk P w K mg base CX0 3 a.window_cells d.window_cells ["text"] (sp_window_cells K)) (G_window_text : FnOk P w K mg base CX0 4 a.window_text d.window_text ["cells"] (sp_window_text K)) : FnOk P w K mg base CX0 6 a.law_right d.law_right ["tray"] (sp_law_right K) := by
  refine T.F_law_right.ok sc_law_right (by walk_at "len") (fun cdv A outer s H vs Q E hr h => ?_)
  obtain ⟨t, rfl, hT, k⟩ := h
  refine ⟨_, (pss_cons (ps_set (i := 1) sc_law_right.nd rfl (Or.inl rfl) (pe_call G_law_some (hr.mono (by decide)) (by rfl) T.g_law_some T.k_law_some T.B_law_some .nil pass0 (pa_cons (pv 0) (pa_cons (pe_lst (pa_cons pe_int (pa_cons pe_int (pa_cons pe_int (pa_cons pe_int (pa_cons pe_int (pa_cons (pe_call G_law_pluck (hr.mono (by decide)) (by rfl) T.g_law_pluck T.k_law_pluck T.B_law_pluck .nil pass0 (pa_cons (pv 0) (pa_cons pe_int pa_nil))) pa_nil))))))) pa_nil))))
      (pss_cons (ps_set (i := 2) sc_law_right.nd rfl (Or.inl rfl) (pe_callTy call_tuple_of (by rfl) T.b_tuple (by decide +kernel) (pa_cons (pe_lc (own := [("turn", 8)]) rfl sc_law_right.nd (pi_range1 (by rfl) T.b_range (pa_cons (pv 1) pa_nil)) (blkOk_by (N := n_law_right) (sc := defScope s_law_right) (by decide +kernel)) (fun _ _ _ _ _ => (pg_name (i := 8) sc_law_right.nd rfl (Or.inl rfl))) (fun _ _ _ _ _ => pts_nil) (fun _ _ _ _ _ => (pe_call G_law_some (hr.mono (by decide)) (by rfl) T.g_law_some T.k_law_some T.B_law_some .nil pass0 (pa_cons (pv 0) (pa_cons (pe_lst (pa_cons pe_int (pa_cons pe_int (pa_cons pe_int (pa_cons pe_int (pa_cons pe_int (pa_cons (pe_call G_law_pluck (hr.mono (by decide)) (by rfl) T.g_law_pluck T.k_law_pluck T.B_law_pluck .nil pass0 (pa_cons (pv 0) (pa_cons pe_int pa_nil))) pa_nil))))))) pa_nil))))) pa_nil)))
      (pss_cons (ps_set (i := 3) sc_law_right.nd rfl (Or.inl rfl) (pe_join pe_str (pe_lc (own := [("cell", 9)]) rfl sc_law_right.nd (pi_tup (pv 2)) (blkOk_by (N := n_law_right) (sc := defScope s_law_right) (by decide +kernel)) (fun _ _ _ _ _ => (pg_name (i := 9) sc_law_right.nd rfl (Or.inl rfl))) (fun _ _ _ _ _ => pts_nil) (fun _ _ _ _ _ => (pe_call G_law_three (hr.mono (by decide)) (by rfl) T.g_law_three T.k_law_three T.B_law_three .nil pass0 (pa_cons (pv 9) pa_nil))))))
      (pss_cons (ps_if (PW.pt (pw_or (pt_cmpR op_ne (pe_call G_cells_text (hr.mono (by decide)) (by rfl) T.g_cells_text T.k_cells_text T.B_cells_text .nil pass0 (pa_cons (pv 2) pa_nil)) (pv 3) (nomark _)) (pw_or1 (pt_cmpR (op_neD hr.units) (pe_call G_told_cells (hr.mono (by decide)) (by rfl) T.g_told_cells T.k_told_cells T.B_told_cells .nil pass0 (pa_cons (pv 3) pa_nil)) (pv 2) (nomark _))))) (pss_one (ps_ret pe_bl)) pss_nil)
      (pss_cons (ps_for PassesOwn.never rfl (pi_list (pe_call G_law_near (hr.mono (by decide)) (by rfl) T.g_law_near T.k_law_near T.B_law_near .nil pass0 (pa_cons (pv 0) (pa_cons (pv 3) pa_nil)))) (pg_name (i := 4) sc_law_right.nd rfl (Or.inl rfl))
      (pss_one (ps_if (PW.pt (pw_or (pt_cmpR (op_neD hr.units) (pe_call G_told_cells (hr.mono (by decide)) (by rfl) T.g_told_cells T.k_told_cells T.B_told_cells .nil pass0 (pa_cons (pv 4) pa_nil)) (pe_call G_law_told (hr.mono (by decide)) (by rfl) T.g_law_told T.k_law_told T.B_law_told .nil pass0 (pa_cons (pv 4) pa_nil)) (nomark _)) (pw_or1 (pt_not (pt_val (pe_call G_is_text (hr.mono (by decide)) (by rfl) T.g_is_text T.k_is_text T.B_is_text .nil pass0 (pa_cons (pv 4) pa_nil))))))) (pss_one (ps_ret pe_bl)) pss_nil)))
      (pss_cons (ps_set (i := 5) sc_law_right.nd rfl (Or.inl rfl) (pe_call G_law_cells (hr.mono (by decide)) (by rfl) T.g_law_cells T.k_law_cells T.B_law_cells .nil pass0 (pa_cons (pv 0) pa_nil)))
      (pss_cons (ps_set (i := 6) sc_law_right.nd rfl (Or.inl rfl) (pe_call G_law_window (hr.mono (by decide)) (by rfl) T.g_law_window T.k_law_window T.B_law_window .nil pass0 (pa_cons (pv 5) pa_nil)))
      (pss_cons (ps_if (PW.pt (pw_or (pt_cmpR op_ne (pe_call G_window_text (hr.mono (by decide)) (by rfl) T.g_window_text T.k_window_text T.B_window_text .nil pass0 (pa_cons (pv 5) pa_nil)) (pv 6) (nomark _)) (pw_or1 (pt_cmpR (op_neD hr.units) (pe_call G_window_cells (hr.mono (by decide)) (by rfl) T.g_window_cells T.k_window_cells T.B_window_cells .nil pass0 (pa_cons (pv 6) pa_nil)) (pv 5) (nomark _))))) (pss_one (ps_ret pe_bl)) pss_nil)
      (pss_cons (ps_for PassesOwn.never rfl (pi_list (pe_op op_cat (pe_call G_law_near (hr.mono (by decide)) (by rfl) T.g_law_near T.k_law_near T.B_law_near .nil pass0 (pa_cons (pv 0) (pa_cons (pv 6) pa_nil))) (pe_lst (pa_cons (pe_op op_add_str (pe_slice sl_str (pv 6) po_none (po_some pe_int)) pe_str) (pa_cons (pe_op op_add_str pe_str (pe_slice sl_str (pv 6) (po_some pe_int) po_none)) (pa_cons (pe_op op_add_str (pe_op op_add_str pe_str (pv 3)) pe_str) pa_nil)))))) (pg_name (i := 4) sc_law_right.nd rfl (Or.inl rfl))
      (pss_cons (ps_set (i := 7) sc_law_right.nd rfl (Or.inl rfl) (pe_ifExp (pt_val (pe_call G_law_is_window (hr.mono (by decide)) (by rfl) T.g_law_is_window T.k_law_is_window T.B_law_is_window .nil pass0 (pa_cons (pv 4) pa_nil))) (pe_call G_law_told (hr.mono (by decide)) (by rfl) T.g_law_told T.k_law_told T.B_law_told .nil pass0 (pa_cons (pe_slice sl_str (pv 4) (po_some pe_int) (po_some (pe_un un_neg pe_int))) pa_nil)) pe_non))
      (pss_one (ps_if (PW.pt (pw_or (pt_cmpR op_ne (pe_call G_is_window (hr.mono (by decide)) (by rfl) T.g_is_window T.k_is_window T.B_is_window .nil pass0 (pa_cons (pv 4) pa_nil)) (pe_call G_law_is_window (hr.mono (by decide)) (by rfl) T.g_law_is_window T.k_law_is_window T.B_law_is_window .nil pass0 (pa_cons (pv 4) pa_nil)) (nomark _)) (pw_or1 (pt_cmpR (op_neD hr.units) (pe_call G_window_cells (hr.mono (by decide)) (by rfl) T.g_window_cells T.k_window_cells T.B_window_cells .nil pass0 (pa_cons (pv 4) pa_nil)) (pv 7) (nomark _))))) (pss_one (ps_ret pe_bl)) pss_nil))))
      (pss_one (ps_ret (pe_cmpR (op_eqD hr.units) (pe_lc (own := [("value", 10)]) rfl sc_law_right.nd (pi_list (pe_call G_law_odd_values (hr.mono (by decide)) (by rfl) T.g_law_odd_values T.k_law_odd_values T.B_law_odd_values .nil pass0 (pa_cons (pv 0) pa_nil))) (blkOk_by (N := n_law_right) (sc := defScope s_law_right) (by decide +kernel)) (fun _ _ _ _ _ => (pg_name (i := 10) sc_law_right.nd rfl (Or.inl rfl))) (fun _ _ _ _ _ => (pts_one (PW.pt (pw_or (pt_val (pe_call G_is_text (hr.mono (by decide)) (by rfl) T.g_is_text T.k_is_text T.B_is_text .nil pass0 (pa_cons (pv 10) pa_nil))) (pw_or1 (pt_val (pe_call G_is_window (hr.mono (by decide)) (by rfl) T.g_is_window T.k_is_window T.B_is_window .nil pass0 (pa_cons (pv 10) pa_nil)))))))) (fun _ _ _ _ _ => (pv 10))) (pe_lst pa_nil) (nomark _))))))))))))), ?_⟩
  walk_at "rd"
  intro r H1 r0 r1 d1
  walk_at "rd"
  refine fun M1 hM1 => ?_
  have dM1 := Dr.new (o := .lst [.int 0, .int 1, .int 2, .int 40, .int 41, .int r]) d1.2.1 hM1
  refine ⟨t, M1, _, rfl, dM1.2.1, d1.2.1.ne hM1, upd_same, by simp, by simp, fun y H2 hy d2 => ?_⟩
  obtain ⟨m, rfl, m0, m1⟩ : ∃ m : Int, y = .int m ∧ 0 ≤ m ∧ m ≤ 90 := by
    simp only [List.mem_cons, List.not_mem_nil, or_false] at hy
    rcases hy with rfl | rfl | rfl | rfl | rfl | rfl <;> exact ⟨_, rfl, by omega, by omega⟩
  have d3 := (d1.trans dM1).trans d2
  have hT3 := d3.2.1
  have hb : -2 ^ 62 ≤ m ∧ m < 2 ^ 62 := by omega
  walk_at "rd"
  refine fun D hD => ?_
  have hDt := hT3.ne hD
  have hfr := d3.fresh hD
  refine lc_it walk_range (fun i H' => ∃ cs : List Int, Dr t H H' ∧ H' D = some (.lst (cs.map V.int)) ∧ cs.length = i ∧ ∀ c ∈ cs, 0 ≤ c ∧ c ≤ 996) ⟨[], d3.trans (Dr.new hT3 hD), upd_same, rfl, fun _ h => nomatch h⟩ (fun _ _ _ _ => trivial) ?_ ?_
  · rintro i x H4 H5 hi ⟨cs, d4, hD4, hlen, hcs⟩ ⟨rfl, rfl⟩
    have hi' : i < m.toNat := hi
    have hT4 := d4.2.1
    walk_at "rd"
    intro q H6 q0 q1 d6
    walk_at "rd"
    refine fun M2 hM2 => ?_
    have dM2 := Dr.new (o := .lst [.int 0, .int 5, .int 99, .int 100, .int 996, .int q]) d6.2.1 hM2
    refine ⟨t, M2, _, rfl, dM2.2.1, d6.2.1.ne hM2, upd_same, by simp, by simp, fun y H7 hy d7 => ?_⟩
    obtain ⟨c, rfl, c0, c1⟩ : ∃ c : Int, y = .int c ∧ 0 ≤ c ∧ c ≤ 996 := by
      simp only [List.mem_cons, List.not_mem_nil, or_false] at hy
      rcases hy with rfl | rfl | rfl | rfl | rfl | rfl <;> exact ⟨_, rfl, by omega, by omega⟩
    have d8 := (d6.trans dM2).trans d7
    refine ⟨_, d8.1 _ _ hDt hD4, szl (by rw [List.length_map, hlen]; omega), cs ++ [c], Dr.mut (d4.trans d8) hfr hDt (d8.1 _ _ hDt hD4), by rw [upd_same, List.map_append]; rfl, by rw [List.length_append, hlen]; rfl, fun y h => ?_⟩
    rcases List.mem_append.mp h with h | h
    · exact hcs y h
    · obtain rfl : y = c := by simpa using h
      exact ⟨c0, c1⟩
  rintro H4 ⟨cs, d4, hD4, hlen, hcs⟩
  have hcl : cs.length ≤ 90 := by omega
  walk_at "rd"
  refine ⟨_, _, rfl, .inl ⟨SqL.of hD4, fun C hC => ?_⟩⟩
  have d5 := d4.trans (Dr.new (o := .tup (cs.map V.int)) d4.2.1 hC)
  have hS5 : SqT K (upd H4 C (.tup (cs.map V.int))) C (cs.map V.int) := SqT.of upd_same
  generalize upd H4 C (.tup (cs.map V.int)) = H5 at *
  clear d1 dM1 d2 d3 d4 hD4 hfr hM1
  walk_at "rd"
  refine fun D2 hD2 => lc_it walk_tup (fun i H' => Same H5 H' ∧ H' D2 = some (.lst (((cs.take i).map thr).map V.str))) ⟨Same.new hD2, upd_same⟩ (fun i H' _ ⟨s1, _⟩ => kt_t (Kt.of s1) hS5) ?_ ?_
  · rintro i x H6 H7 hi ⟨s1, hD6⟩ ⟨rfl, hx⟩
    rw [List.length_map] at hi
    have hci : cs[i]? = some cs[i] := List.getElem?_eq_getElem hi
    rw [List.getElem?_map, hci] at hx
    obtain rfl : x = V.int cs[i] := (Option.some.inj hx).symm
    have hb := hcs cs[i] (List.mem_of_getElem? hci)
    walk_at "rd"
    refine ⟨_, hD6, szl (by rw [List.length_map, List.length_map, List.length_take]; omega), fun b o e => ?_, ?_⟩
    · rw [upd_ne (ne_of_none e hD2)]; exact s1 b o e
    · rw [upd_same, take_snoc hci, List.map_append, List.map_append]; rfl
  rintro H6 ⟨s6, hD6⟩
  rw [List.length_map, List.take_length] at hD6
  have hsum := thr_sum cs hcs
  refine ⟨_, _, cs.map thr, rfl, rfl, .inl (SqL.of hD6), ?_, ?_⟩
  · rw [show (Str.ofString "").length = 0 from rfl, Nat.mul_zero]; omega
  have ez := join_thr cs
  generalize Txt.join "" (cs.map thr) = z at ez
  have hz : z.length ≤ 270 := by rw [len_tl, ez, flat_len3 cs hcs]; omega
  have hzp : pr z := pr_flat ez
  have hz1 : z.length ≤ sizeLine := sz (by omega)
  have hzb : BL 300 z := ⟨hzp, by omega⟩
  have d6 := d5.trans (Dr.same d5.2.1 s6)
  have hS6 := kt_t (Kt.of s6) hS5
  walk_at "rd"
  refine ⟨C, cs, rfl, hS6, by omega, hcs, fun z2 H7 s7 e2 => ?_⟩
  obtain rfl : z = z2 := ext_tl (ez.trans e2.symm)
  have hS7 := kt_t (Kt.of s7) hS6
  have d7 := d6.trans (Dr.same d6.2.1 s7)
  walk_at "rd"
  refine iteB (fun c => absurd c (by simp)) (fun _ => ?_)
  walk_at "rd"
  refine fun v H8 s8 t8 => ?_
  rw [ez, told_flat hcs] at t8
  have hS8 := kt_t (Kt.of s8) hS7
  have d8 := d7.trans (Dr.same d7.2.1 s8)
  walk_at "rd"
  refine ⟨_, _, t8.dp, (tp_ints hS8).dp, sh_encO (some cs), sh_encO (some cs), ?_⟩
  rw [show PyData.eqv (encO (some cs)) (.tuple (cs.map PyData.int)) = true from shaped_eqv (sh_encO (some cs))]
  have hT8 := d8.2.1
  walk_at "rd"
  intro p xs H9 d9 g9 a9 n9
  have d10 := d8.trans d9
  clear t8 hS8 hS7 hS6 hS5 hD6 s6 s7 s8
  refine ⟨_, rfl, ⟨_, SqL.of g9⟩, ?_⟩
  refine for_it walk_list (fun i σ H' => ∃ v4 : Option V, σ = [some (.ref t), some (.int m), some (.ref C), some (.str z), v4, none, none, none, none, none, none] ∧ Same H9 H') ⟨none, rfl, Same.refl _⟩ (fun i σ H' _ ⟨_, _, s2⟩ => SqL.of (s2 _ _ g9)) ?_ ?_
  · rintro i x σ H10 H11 hi ⟨v4, rfl, s10⟩ ⟨rfl, hx⟩
    obtain ⟨y, rfl, hy⟩ := a9 x (List.mem_of_getElem? hx)
    have hyp := hy.1
    have hyl : y.length ≤ 60000 := Nat.le_trans hy.2 (by decide)
    have hys : y.length ≤ sizeLine := sz (by omega)
    walk_at "rd"
    refine fun v H12 s12 t12 => ?_
    walk_at "rd"
    refine fun u H13 s13 t13 => ?_
    refine ⟨_, _, (t12.keep (Kt.of s13)).dp, t13.dp, sh_encO _, sh_encO _, ?_⟩
    rw [shaped_eqv (sh_encO _)]
    walk_at "rd"
    rw [txtM_ok hyp hyl]
    walk_at "rd"
    exact s10.trans (s12.trans s13)
  rintro σ H10 ⟨v4, rfl, s10⟩
  have d11 := d10.trans (Dr.same d10.2.1 s10)
  have hT11 := d11.2.1
  clear d5 d6 d7 d8 d9 d10 hT8
  walk_at "rd"
  intro F fs H12 d12 hF hfl hfb
  have d13 := d11.trans d12
  have eW := win_flat hfb hfl
  have hWl := len_win hfb
  rw [hfl] at hWl
  have hWp : pr (winS fs) := pr_win
  walk_at "rd"
  refine ⟨F, fs, rfl, hF, by omega, hfb, fun H13 s13 => ?_⟩
  have hF13 := kt_t (Kt.of s13) hF
  have d14 := d13.trans (Dr.same d13.2.1 s13)
  have hT14 := d14.2.1
  generalize hWg : winS fs = W at *
  have hWs : W.length ≤ sizeLine := sz (by omega)
  walk_at "rd"
  refine ⟨F, fs, rfl, hF13, hfl, hfb, fun H14 s14 => ?_⟩
  have hF14 := kt_t (Kt.of s14) hF13
  walk_at "rd"
  refine iteB (fun c => absurd c (by simp [hWg])) (fun _ => ?_)
  walk_at "rd"
  refine fun v H15 s15 t15 => ?_
  rw [eW] at t15
  have hF15 := kt_t (Kt.of s15) hF14
  have d16 := d14.trans (Dr.same hT14 (s14.trans s15))
  have hT16 := d16.2.1
  walk_at "rd"
  refine ⟨_, _, t15.dp, (tp_ints hF15).dp, sh_encO (some fs), sh_encO (some fs), ?_⟩
  rw [show PyData.eqv (encO (some fs)) (.tuple (fs.map PyData.int)) = true from shaped_eqv (sh_encO (some fs))]
  have hWb : BL 300 W := ⟨hWp, by omega⟩
  walk_at "rd"
  intro p2 xs2 H17 d17 g17 a17 n17
  have d18 := d16.trans d17
  have l1 : (Str.ofString "#").length = 1 := rfl
  have l2 : (Str.ofString ";").length = 1 := rfl
  have c1 := cutS_length W none (some 121)
  have c2 := cutS_length W (some 1) none
  have l3 := len_app (Str.ofString "#") z
  walk_at "rd"
  refine fun L2 hL2 => ?_
  have b1 : BL 1000 (cutS W none (some 121) ++ Str.ofString "#") := (hWb.cut.app (BL.lit (by decide +kernel))).mono (by decide +kernel)
  have b2 : BL 1000 (Str.ofString ";" ++ cutS W (some 1) none) := (BL.app (BL.lit (by decide +kernel)) hWb.cut).mono (by decide +kernel)
  have b3 : BL 1000 (Str.ofString "#" ++ z ++ Str.ofString ";") := ((BL.app (BL.lit (by decide +kernel)) hzb).app (BL.lit (by decide +kernel))).mono (by decide +kernel)
  have a18 : ∀ v ∈ [V.str (cutS W none (some 121) ++ Str.ofString "#"), .str (Str.ofString ";" ++ cutS W (some 1) none), .str (Str.ofString "#" ++ z ++ Str.ofString ";")], ∃ y, v = .str y ∧ BL 1000 y := by
    intro v hv
    simp only [List.mem_cons, List.not_mem_nil, or_false] at hv
    rcases hv with rfl | rfl | rfl
    · exact ⟨_, rfl, b1⟩
    · exact ⟨_, rfl, b2⟩
    · exact ⟨_, rfl, b3⟩
  have n18 : [V.str (cutS W none (some 121) ++ Str.ofString "#"), .str (Str.ofString ";" ++ cutS W (some 1) none), .str (Str.ofString "#" ++ z ++ Str.ofString ";")].length = 3 := rfl
  generalize [V.str (cutS W none (some 121) ++ Str.ofString "#"), .str (Str.ofString ";" ++ cutS W (some 1) none), .str (Str.ofString "#" ++ z ++ Str.ofString ";")] = ys at *
  have s18 := Same.new (o := .lst ys) hL2
  have g18 := upd_same (H := H17) (a := L2) (o := .lst ys)
  have g18' := s18 _ _ g17
  have d19 := d18.trans (Dr.same d18.2.1 s18)
  generalize upd H17 L2 (.lst ys) = H18 at *
  walk_at "rd"
  refine ⟨_, _, _, _, rfl, rfl, g18', g18, sz (by omega), fun L3 hL3 => ?_⟩
  have g19 := upd_same (H := H18) (a := L3) (o := .lst (xs2 ++ ys))
  have d20 := d19.trans (Dr.new (o := .lst (xs2 ++ ys)) d19.2.1 hL3)
  have a19 : ∀ v ∈ xs2 ++ ys, ∃ y, v = .str y ∧ BL 1000 y := fun v hv => by
    rcases List.mem_append.mp hv with hv | hv
    · exact a17 v hv
    · exact a18 v hv
  generalize xs2 ++ ys = zs at *
  generalize upd H18 L3 (.lst zs) = H19 at *
  clear d16 d17 d18 d19 g18 g18' g17 a17 a18 b1 b2 b3 c1 c2 l3
  refine ⟨_, rfl, ⟨_, SqL.of g19⟩, ?_⟩
  refine for_it walk_list (fun i σ H' => ∃ v4 v7 : Option V, σ = [some (.ref t), some (.int m), some (.ref C), some (.str z), v4, some (.ref F), some (.str W), v7, none, none, none] ∧ Same H19 H') ⟨_, _, rfl, Same.refl _⟩ (fun i σ H' _ ⟨_, _, _, s2⟩ => SqL.of (s2 _ _ g19)) ?_ ?_
  · rintro i x σ H20 H21 hi ⟨v4, v7, rfl, s20⟩ ⟨rfl, hx⟩
    obtain ⟨y, rfl, hy⟩ := a19 x (List.mem_of_getElem? hx)
    have hyp := hy.1
    have hyl : y.length ≤ 60000 := Nat.le_trans hy.2 (by decide)
    have hys : y.length ≤ sizeLine := sz (by omega)
    walk_at "rd"
    intro H22 s22
    cases hb : (winO (tl y)).isSome
    case' false =>
      have hn : winO (tl y) = none := by cases e : winO (tl y) <;> simp_all
      walk_at "rd"
      have t23 : Tp K H22 .non (encO (winO (tl y))) := by rw [hn]; exact .non
      obtain ⟨H23, eH⟩ : ∃ H23, H23 = H22 := ⟨_, rfl⟩
      subst eH
      have s23 := Same.refl H23
      obtain ⟨v, ev⟩ : ∃ v : V, v = .non := ⟨_, rfl⟩
    case' true =>
      have hy9 : pr (cutS y (some 1) (some (-1))) := pr_cut hyp _ _
      have hy8 : (cutS y (some 1) (some (-1))).length ≤ 60000 := Nat.le_trans (cutS_length _ _ _) hyl
      walk_at "rd"
      refine fun v H23 s23 t23 => ?_
      rw [win_cut hb] at t23
    all_goals
      walk_at "rd"
      intro H24 s24
      walk_at "rd"
      intro H25 s25
      walk_at "rd"
      refine iteB (fun c => absurd c (by simp)) (fun _ => ?_)
      walk_at "rd"
      refine fun u H26 s26 t26 => ?_
      walk_at "rd"
      refine ⟨_, _, t26.dp, (t23.keep (Kt.of (s24.trans (s25.trans s26)))).dp, sh_encO _, sh_encO _, ?_⟩
      rw [shaped_eqv (sh_encO _)]
      walk_at "rd"
      exact s20.trans (s22.trans (s23.trans (s24.trans (s25.trans s26))))
  rintro σ H20 ⟨v4, v7, rfl, s20⟩
  have d21 := d20.trans (Dr.same d20.2.1 s20)
  have hT21 := d21.2.1
  walk_at "rd"
  intro p3 vs H22 d22 g22 m22 n22
  walk_at "rd"
  refine fun D3 hD3 => lc_it walk_list (fun i H' => Same H22 H' ∧ H' D3 = some (.lst [])) ⟨Same.new hD3, upd_same⟩ (fun i H' _ ⟨s1, _⟩ => SqL.of (s1 _ _ g22)) ?_ ?_
  · rintro i x H23 H24 hi ⟨s23, hD23⟩ ⟨rfl, hx⟩
    have hn := (m22 x (List.mem_of_getElem? hx)).same s23
    walk_at "rd"
    refine .inr ⟨hn.notS, ?_⟩
    walk_at "rd"
    refine .inr ⟨hn.notS, ?_⟩
    exact ⟨_, rfl, iteF ⟨s23, hD23⟩⟩
  rintro H23 ⟨s23, hD23⟩
  walk_at "rd"
  refine fun L4 hL4 => ?_
  refine ⟨_, _, dp_lst ((Same.new hL4) _ _ hD23) .nil, dp_lst upd_same .nil, rfl, rfl, ?_⟩
  exact k _ ((d21.trans d22).trans (Dr.same (d21.trans d22).2.1 (s23.trans (Same.new hL4))))
end
end
section
local macro_rules | `(tactic| walk_at "len") => `(tactic| (intro vs H Q E h; first
  | (obtain ⟨_, e, _⟩ := h; subst e; rfl) | (obtain ⟨_, _, e, _⟩ := h; subst e; rfl) | (obtain ⟨_, _, _, e, _⟩ := h; subst e; rfl) | (obtain ⟨_, _, _, _, e, _⟩ := h; subst e; rfl)))
local macro_rules | `(tactic| walk_at "rd1") => `(tactic| first
  | refine ⟨_, rfl, ?_⟩
  | refine ⟨rfl, ?_⟩
  | refine ⟨trivial, ?_⟩
  | refine ⟨_, _, rfl, rfl, ?_⟩
  | refine ⟨_, rfl, rfl, ?_⟩
  | refine ⟨_, _, _, _, true, rfl, .ty _, .base (.str _), kit_ty (by decide +kernel), ?_⟩
  | refine ⟨_, _, _, _, true, rfl, .ty _, .base (.int _), kit_ty (by decide +kernel), ?_⟩
  | refine ⟨_, _, _, _, false, rfl, .ty _, .base (.int _), kit_ty (by decide +kernel), ?_⟩
  | refine ⟨_, rfl, rfl, trivial, ?_⟩
  | refine ⟨_, _, rfl, ?_⟩
  | refine ⟨_, _, rfl, rfl, by decide, ?_⟩
  | refine ⟨_, _, rfl, rfl, sz (by omega), ?_⟩
  | refine ⟨_, _, rfl, rfl, ⟨by decide, by decide⟩, ?_⟩
  | refine ⟨_, _, _, rfl, rfl, ?_⟩
  | refine ⟨_, _, _, rfl, ?_⟩
  | refine And.intro (Nat.zero_le _) ?_
  | refine And.intro (show List.length _ ≤ sizeLine from Nat.le_of_ble_eq_true rfl) ?_
  | refine And.intro (.inl ⟨rfl, _, SqL.of (by assumption)⟩) ?_
  | refine And.intro (by assumption) ?_
  | refine And.intro (sz (by omega)) ?_
  | refine And.intro (by omega) ?_
  | refine Or.inl ⟨_, rfl, ?_⟩
  | refine Or.inr ⟨_, rfl, ?_⟩
  | refine ⟨_, _, rfl, .inl (SqL.of (by assumption)), ?_⟩
  | refine ⟨_, _, rfl, .inl (by assumption), ?_⟩
  | refine ⟨_, _, rfl, .inr (by assumption), ?_⟩
  | refine ⟨_, _, _, _, rfl, rfl, SqL.of (by assumption), rfl, ?_⟩
  | refine ⟨_, _, _, _, rfl, rfl, SqL.of upd_same, rfl, ?_⟩
  | refine ⟨_, _, _, _, rfl, rfl, by assumption, rfl, ?_⟩
  | refine ⟨_, _, _, _, rfl, rfl, upd_same, rfl, ?_⟩
  | refine And.intro (show CPow _ _ from ⟨by decide, by decide, by decide⟩) ?_
  | refine And.intro (show CDiv _ _ from ⟨by decide, by decide⟩) ?_
  | refine And.intro (show CMul _ _ from .inl ⟨by decide, by decide⟩) ?_
  | refine And.intro (show CMul _ _ from .inr ⟨by decide, by decide⟩) ?_)
local macro_rules | `(tactic| walk_at "rd") => `(tactic| repeat (walk_at "rd1"))
section
variable {P : Program} {w : World} {K : PySem.W.Frag} {mg : Str → Option Value} {base : Heap} {a : Ad} {d : Fd}
local macro_rules | `(tactic| walk_at "rd1") => `(tactic| first
  | refine And.intro ⟨_, rfl⟩ ?_
  | refine And.intro ⟨_, by assumption⟩ ?_
  | refine And.intro ⟨_, SqL.of (by assumption)⟩ ?_)
def c3 : List Int := [7, 0, 996]
def zs0 : List Int := List.replicate 20000 0
theorem zs_b : ∀ c ∈ zs0, 0 ≤ c ∧ c ≤ 996 := fun c hc => by
  obtain rfl : c = 0 := List.eq_of_mem_replicate hc
  exact ⟨by decide, by decide⟩
theorem zs_l : zs0.length = 20000 := List.length_replicate
theorem zs_t : (List.replicate (20000 : Int).toNat [V.int 0]).flatten = zs0.map V.int := by
  unfold zs0
  rw [List.map_replicate, show (20000 : Int).toNat = 20000 from rfl, List.flatten_replicate_singleton]
theorem zs_f : zs0.flatMap three = List.replicate 60000 48 := by
  unfold zs0
  rw [List.flatMap_replicate, show three 0 = List.replicate 3 48 by decide +kernel, List.flatten_replicate_replicate]
theorem tl_mul {x : Str} {c : Nat} {n : Int} (h : x = ⟨#[c]⟩) : tl (Txt.mul x n) = List.replicate n.toNat c := by
  subst h
  exact PyProof.Rows.mul_one_list c n
theorem pr_mul {x : Str} {c : Nat} {n : Int} (h : x = ⟨#[c]⟩) (h1 : 32 ≤ c) (h2 : c ≤ 126) : pr (Txt.mul x n) := fun d hd => by
  rw [tl_mul h] at hd
  obtain rfl : d = c := List.eq_of_mem_replicate hd
  exact ⟨h1, h2⟩
theorem ln_mul {x : Str} {c : Nat} {n : Int} (h : x = ⟨#[c]⟩) : (Txt.mul x n).length = n.toNat := by
  rw [len_tl, tl_mul h, List.length_replicate]
theorem zs_told : toldL (tl (Txt.mul (Str.ofString "0") 60000)) = some zs0 := by
  rw [tl_mul (c := 48) (by decide +kernel), show (60000 : Int).toNat = 60000 from rfl, ← zs_f]
  exact told_flat zs_b
theorem okX (x : Str) (h : x.length = 1) : MulOk x 60000 := ⟨by decide +kernel, fun _ _ => by rw [h]; decide +kernel, fun _ _ => by rw [h]; decide +kernel⟩
theorem ev1 : toldL (tl (Str.ofString "007000996")) = some c3 := by decide +kernel
theorem ev2 : toldL (tl (Str.ofString "997")) = none := by decide +kernel
theorem ev3 : toldL (tl (Str.ofString "07")) = none := by decide +kernel
theorem ev4 : toldL (tl (Str.ofString "")) = some [] := by decide +kernel
theorem ev5 : c3.flatMap three = tl (Str.ofString "007000996") := by decide +kernel
def sp_law (K : PySem.W.Frag) : Sp := fun vs H Q _ => ∃ (a : Addr) (ns : List Int), vs = [.ref a] ∧ SqL K H a (ns.map V.int) ∧ ns.length ≤ 63 ∧ ∀ H', Q (.bl true) H'
theorem ok_law (T : Txt K mg a d) (G_law_right : FnOk P w K mg base CX0 6 a.law_right d.law_right ["tray"] (sp_law_right K)) (G_law_tray : FnOk P w K mg base CX0 1 a.law_tray d.law_tray ["script", "spot"] (sp_law_tray K)) (G_cells_text : FnOk P w K mg base CX0 5 a.cells_text d.cells_text ["cells"] (sp_cells_text K)) (G_is_text : FnOk P w K mg base CX0 1 a.is_text d.is_text ["value"] (sp_is_text K)) (G_told_cells : FnOk P w K mg base CX0 3 a.told_cells d.told_cells ["text"] (sp_told_cells K)) : FnOk P w K mg base CX0 7 a.law d.law ["script"] (sp_law K) := by
  refine T.F_law.ok sc_law (by walk_at "len") (fun cdv A outer s H vs Q E hr h => ?_)
  obtain ⟨l, ns, rfl, hS, hl, k⟩ := h
  refine ⟨_, (pss_cons (ps_for PassesOwn.never rfl (pi_range1 (by rfl) T.b_range (pa_cons (pe_callB (call_max2 rfl) (by rfl) T.b_max (by decide +kernel) (pa_cons pe_int (pa_cons (pe_callB (call_min2 rfl) (by rfl) T.b_min (by decide +kernel) (pa_cons pe_int (pa_cons (pe_callB call_len_seq (by rfl) T.b_len (by decide +kernel) (pa_cons (pv 0) pa_nil)) pa_nil))) pa_nil))) pa_nil)) (pg_name (i := 1) sc_law.nd rfl (Or.inl rfl))
      (pss_cons (ps_set (i := 2) sc_law.nd rfl (Or.inl rfl) (pe_call G_law_tray (hr.mono (by decide)) (by rfl) T.g_law_tray T.k_law_tray T.B_law_tray .nil pass0 (pa_cons (pv 0) (pa_cons (pv 1) pa_nil))))
      (pss_one (ps_for PassesOwn.never rfl (pi_range1 (by rfl) T.b_range (pa_cons pe_int pa_nil)) (pg_name (i := 3) sc_law.nd rfl (Or.inl rfl))
      (pss_one (ps_if (pt_not (pt_val (pe_call G_law_right (hr.mono (by decide)) (by rfl) T.g_law_right T.k_law_right T.B_law_right .nil pass0 (pa_cons (pv 2) pa_nil)))) (pss_one (ps_ret pe_bl)) pss_nil))))))
      (pss_cons (ps_set (i := 4) sc_law.nd rfl (Or.inl rfl) (pe_lst (pa_cons (pe_call G_cells_text (hr.mono (by decide)) (by rfl) T.g_cells_text T.k_cells_text T.B_cells_text .nil pass0 (pa_cons (pe_tup (pa_cons pe_int (pa_cons pe_int (pa_cons pe_int pa_nil)))) pa_nil)) (pa_cons (pe_call G_told_cells (hr.mono (by decide)) (by rfl) T.g_told_cells T.k_told_cells T.B_told_cells .nil pass0 (pa_cons pe_str pa_nil)) (pa_cons (pe_call G_told_cells (hr.mono (by decide)) (by rfl) T.g_told_cells T.k_told_cells T.B_told_cells .nil pass0 (pa_cons pe_str pa_nil)) (pa_cons (pe_call G_told_cells (hr.mono (by decide)) (by rfl) T.g_told_cells T.k_told_cells T.B_told_cells .nil pass0 (pa_cons pe_str pa_nil)) (pa_cons (pe_call G_told_cells (hr.mono (by decide)) (by rfl) T.g_told_cells T.k_told_cells T.B_told_cells .nil pass0 (pa_cons pe_str pa_nil)) pa_nil)))))))
      (pss_cons (ps_if (PW.pt (pw_or (pt_cmpR (op_neD hr.units) (pv 4) (pe_lst (pa_cons pe_str (pa_cons (pe_tup (pa_cons pe_int (pa_cons pe_int (pa_cons pe_int pa_nil)))) (pa_cons pe_non (pa_cons pe_non (pa_cons (pe_tup pa_nil) pa_nil)))))) (nomark _)) (pw_or (pt_not (pt_val (pe_call G_is_text (hr.mono (by decide)) (by rfl) T.g_is_text T.k_is_text T.B_is_text .nil pass0 (pa_cons pe_str pa_nil)))) (pw_or1 (pt_not (pt_val (pe_call G_is_text (hr.mono (by decide)) (by rfl) T.g_is_text T.k_is_text T.B_is_text .nil pass0 (pa_cons (pe_op op_repS pe_str pe_int) pa_nil)))))))) (pss_one (ps_ret pe_bl)) pss_nil)
      (pss_one (ps_ret (pe_cmpR (op_eqD hr.units) (pe_call G_told_cells (hr.mono (by decide)) (by rfl) T.g_told_cells T.k_told_cells T.B_told_cells .nil pass0 (pa_cons (pe_op op_repS pe_str pe_int) pa_nil)) (pe_op op_repTW (pe_tup (pa_cons pe_int pa_nil)) pe_int) (nomark _))))))), ?_⟩
  walk_at "rd"
  refine for_it walk_range (fun i σ H' => ∃ v1 v2 v3 : Option V, σ = [some (.ref l), v1, v2, v3, none] ∧ Same H H') ⟨none, none, none, rfl, Same.refl H⟩ (fun _ _ _ _ _ => trivial) ?_ ?_
  · rintro i v σ H1 H2 hi ⟨v1, v2, v3, rfl, s1⟩ ⟨rfl, rfl⟩
    have hi3 : i ≤ 3 := by
      revert hi
      split <;> (try split) <;> intro hi <;> omega
    have hS1 := s1.seq hS
    walk_at "rd"
    refine ⟨l, ns, i, by show [V.ref l, V.int ((0 : Int) + i)] = _; rw [Int.zero_add], hS1, hi3, fun p H3 s3 hp hTp => ?_⟩
    have d0 : Dr p H3 H3 := Dr.refl hTp
    have fin : ∀ H4, Dr p H3 H4 → Same H H4 := fun H4 d b o e => d.1 b o (ne_of_none (s1 b o e) hp) (s3 b o (s1 b o e))
    walk_at "rd"
    refine for_it walk_range (fun j σ H' => ∃ v3 : Option V, σ = [some (.ref l), some (.int ((0 : Int) + (i : Int))), some (.ref p), v3, none] ∧ Dr p H3 H') ⟨v3, rfl, d0⟩ (fun _ _ _ _ _ => trivial) ?_ ?_
    · rintro j v σ H4 H5 hj ⟨v3, rfl, d5⟩ ⟨rfl, rfl⟩
      have hT5 := d5.2.1
      walk_at "rd"
      intro H6 d6
      walk_at "rd"
      exact d5.trans d6
    · rintro σ H4 ⟨v3, rfl, d4⟩
      exact ⟨_, _, _, rfl, fin H4 d4⟩
  rintro σ H1 ⟨v1, v2, v3, rfl, s1⟩
  walk_at "rd"
  refine fun T1 hT1 => ?_
  refine ⟨T1, c3, rfl, SqT.of upd_same, by decide, by decide, fun z H2 s2 e => ?_⟩
  obtain rfl : Str.ofString "007000996" = z := ext_tl (ev5.symm.trans e.symm)
  have p1 : pr (Str.ofString "007000996") := pr_b (by decide +kernel)
  have n1 : (Str.ofString "007000996").length ≤ 60000 := by decide +kernel
  have p2 : pr (Str.ofString "997") := pr_b (by decide +kernel)
  have n2 : (Str.ofString "997").length ≤ 60000 := by decide +kernel
  have p3 : pr (Str.ofString "07") := pr_b (by decide +kernel)
  have n3 : (Str.ofString "07").length ≤ 60000 := by decide +kernel
  have p4 : pr (Str.ofString "") := pr_b (by decide +kernel)
  have n4 : (Str.ofString "").length ≤ 60000 := by decide +kernel
  have p5 : pr (Str.ofString " ~#;") := pr_b (by decide +kernel)
  have n5 : (Str.ofString " ~#;").length ≤ 60000 := by decide +kernel
  have z5 : (Str.ofString " ~#;").length ≤ sizeLine := sz (by omega)
  walk_at "rd"
  refine fun u1 H3 s3 t1 => ?_
  rw [ev1] at t1
  walk_at "rd"
  refine fun u2 H4 s4 t2 => ?_
  rw [ev2] at t2
  cases t2
  walk_at "rd"
  refine fun u3 H5 s5 t3 => ?_
  rw [ev3] at t3
  cases t3
  walk_at "rd"
  refine fun u4 H6 s6 t4 => ?_
  rw [ev4] at t4
  walk_at "rd"
  refine fun L hL => ?_
  have sL := Same.new (o := .lst [.str (Str.ofString "007000996"), u1, .non, .non, u4]) hL
  have gL := upd_same (H := H6) (a := L) (o := .lst [.str (Str.ofString "007000996"), u1, .non, .non, u4])
  have t1' := t1.keep (Kt.of (((s4.trans s5).trans s6).trans sL))
  have t4' := t4.keep (Kt.of sL)
  clear t1 t4
  generalize upd H6 L (.lst [.str (Str.ofString "007000996"), u1, .non, .non, u4]) = H7 at *
  walk_at "rd"
  refine fun q1 hq1 => ?_
  walk_at "rd"
  refine fun q2 hq2 => ?_
  walk_at "rd"
  refine fun q3 hq3 => ?_
  have m1 := Same.new (o := .tup [.int 7, .int 0, .int 996]) hq1
  have m2 := Same.new (o := .tup []) hq2
  have m3 := Same.new (o := .lst [.str (Str.ofString "007000996"), .ref q1, .non, .non, .ref q2]) hq3
  have ma := (m1.trans m2).trans m3
  have sh : SeqAt.shaped (.list [.str (Str.ofString "007000996"), encT c3, .none, .none, encT []]) = true := by decide +kernel
  refine ⟨.list [.str (Str.ofString "007000996"), encT c3, .none, .none, encT []], .list [.str (Str.ofString "007000996"), encT c3, .none, .none, encT []], .lst (SqL.of (ma _ _ gL)) (.cons (.str _) (.cons (t1'.keep (Kt.of ma)).dp (.cons .non (.cons .non (.cons (t4'.keep (Kt.of ma)).dp .nil))))),
    .lst (SqL.of upd_same) (.cons (.str _) (.cons (tp_ints (ns := c3) (SqT.of ((m2.trans m3) _ _ upd_same))).dp (.cons .non (.cons .non (.cons (tp_ints (ns := []) (SqT.of (m3 _ _ upd_same))).dp .nil))))), sh, sh, ?_⟩
  rw [shaped_eqv sh]
  generalize upd (upd (upd H7 q1 (.tup [.int 7, .int 0, .int 996])) q2 (.tup [])) q3 (.lst [.str (Str.ofString "007000996"), .ref q1, .non, .non, .ref q2]) = H8 at *
  walk_at "rd"
  rw [txtM_ok p5 n5]
  have hx : Str.ofString "x" = ⟨#[120]⟩ := by decide +kernel
  have hx1 : (Txt.mul (Str.ofString "x") 60000).length ≤ 60000 := Nat.le_of_eq (ln_mul hx)
  have hx3 : pr (Txt.mul (Str.ofString "x") 60000) := pr_mul hx (by decide) (by decide)
  have h0 : Str.ofString "0" = ⟨#[48]⟩ := by decide +kernel
  have h01 : (Txt.mul (Str.ofString "0") 60000).length ≤ 60000 := Nat.le_of_eq (ln_mul h0)
  have h02 : pr (Txt.mul (Str.ofString "0") 60000) := pr_mul h0 (by decide) (by decide)
  have ztd := zs_told
  walk_at "rd"
  refine ⟨okX _ (by decide +kernel), ?_⟩
  generalize Txt.mul (Str.ofString "x") 60000 = X6 at *
  have hx2 : X6.length ≤ sizeLine := sz (by omega)
  walk_at "rd"
  rw [txtM_ok hx3 hx1]
  walk_at "rd"
  refine ⟨okX _ (by decide +kernel), ?_⟩
  generalize Txt.mul (Str.ofString "0") 60000 = X0 at *
  walk_at "rd"
  refine fun u9 H9 s9 t9 => ?_
  rw [ztd] at t9
  walk_at "rd"
  refine fun q4 hq4 => ?_
  walk_at "rd"
  refine ⟨_, _, _, rfl, rfl, SqT.of upd_same, by simp, by decide, by decide, fun q5 hq5 => ?_⟩
  have m6 := (Same.new (o := .tup [.int 0]) hq4).trans (Same.new (o := .tup (List.replicate (20000 : Int).toNat [V.int 0]).flatten) hq5)
  have t9' := t9.keep (Kt.of m6)
  have g5 : (upd (upd H9 q4 (.tup [.int 0])) q5 (.tup (List.replicate (20000 : Int).toNat [V.int 0]).flatten)) q5 = some (.tup (zs0.map V.int)) := by rw [← My.zs_t]; exact upd_same
  generalize upd (upd H9 q4 (.tup [.int 0])) q5 (.tup (List.replicate (20000 : Int).toNat [V.int 0]).flatten) = H10 at *
  refine ⟨_, _, t9'.dp, (tp_ints (SqT.of g5)).dp, sh_encO (some zs0), sh_encO (some zs0), ?_⟩
  rw [show PyData.eqv (encO (some zs0)) (.tuple (zs0.map PyData.int)) = true from shaped_eqv (sh_encO (some zs0))]
  exact k _
end
end
local macro_rules | `(tactic| walk_at "len") => `(tactic| (intro vs H Q E h; first
  | (obtain ⟨_, e, _⟩ := h; subst e; rfl) | (obtain ⟨_, _, e, _⟩ := h; subst e; rfl) | (obtain ⟨_, _, _, e, _⟩ := h; subst e; rfl) | (obtain ⟨_, _, _, _, e, _⟩ := h; subst e; rfl)))
local macro_rules | `(tactic| walk_at "rd1") => `(tactic| first
  | refine ⟨_, rfl, ?_⟩
  | refine ⟨rfl, ?_⟩
  | refine ⟨trivial, ?_⟩
  | refine ⟨_, _, rfl, rfl, ?_⟩
  | refine ⟨_, rfl, rfl, ?_⟩
  | refine ⟨_, _, _, _, true, rfl, .ty _, .base (.str _), kit_ty (by decide +kernel), ?_⟩
  | refine ⟨_, _, _, _, true, rfl, .ty _, .base (.int _), kit_ty (by decide +kernel), ?_⟩
  | refine ⟨_, _, _, _, false, rfl, .ty _, .base (.int _), kit_ty (by decide +kernel), ?_⟩
  | refine ⟨_, rfl, rfl, trivial, ?_⟩
  | refine ⟨_, _, rfl, ?_⟩
  | refine ⟨_, _, rfl, rfl, by decide, ?_⟩
  | refine ⟨_, _, rfl, rfl, sz (by omega), ?_⟩
  | refine ⟨_, _, rfl, rfl, ⟨by decide, by decide⟩, ?_⟩
  | refine ⟨_, _, _, rfl, rfl, ?_⟩
  | refine ⟨_, _, _, rfl, ?_⟩
  | refine And.intro (Nat.zero_le _) ?_
  | refine And.intro (show List.length _ ≤ sizeLine from Nat.le_of_ble_eq_true rfl) ?_
  | refine And.intro (.inl ⟨rfl, _, SqL.of (by assumption)⟩) ?_
  | refine And.intro (by assumption) ?_
  | refine And.intro (sz (by omega)) ?_
  | refine And.intro (by omega) ?_
  | refine Or.inl ⟨_, rfl, ?_⟩
  | refine Or.inr ⟨_, rfl, ?_⟩
  | refine ⟨_, _, rfl, .inl (SqL.of (by assumption)), ?_⟩
  | refine ⟨_, _, rfl, .inl (by assumption), ?_⟩
  | refine ⟨_, _, rfl, .inr (by assumption), ?_⟩
  | refine ⟨_, _, _, _, rfl, rfl, SqL.of (by assumption), rfl, ?_⟩
  | refine ⟨_, _, _, _, rfl, rfl, SqL.of upd_same, rfl, ?_⟩
  | refine ⟨_, _, _, _, rfl, rfl, by assumption, rfl, ?_⟩
  | refine ⟨_, _, _, _, rfl, rfl, upd_same, rfl, ?_⟩
  | refine And.intro (show CPow _ _ from ⟨by decide, by decide, by decide⟩) ?_
  | refine And.intro (show CDiv _ _ from ⟨by decide, by decide⟩) ?_
  | refine And.intro (show CMul _ _ from .inl ⟨by decide, by decide⟩) ?_
  | refine And.intro (show CMul _ _ from .inr ⟨by decide, by decide⟩) ?_)
local macro_rules | `(tactic| walk_at "rd") => `(tactic| repeat (walk_at "rd1"))
section
variable {P : Program} {w : World} {K : PySem.W.Frag} {mg : Str → Option Value} {base : Heap} {a : Ad} {d : Fd}
end
section
theorem all_mk {l : PySem.W.OpenLaw} {w : World} {K : PySem.W.Frag} {h : Heap} {mg : Str → Option Value} {fa : Addr} (X : K.In h) (G : h.Ns mainGlobals mg) (hfa : mg "law" = some (.ref fa))
    {f0 : Addr} {f1 : Addr} {f2 : Addr} {f3 : Addr} {f4 : Addr} {f5 : Addr} {f6 : Addr} {f7 : Addr} {f8 : Addr} {f9 : Addr} {f10 : Addr} {f11 : Addr} {f12 : Addr} {f13 : Addr} {f14 : Addr} {f15 : Addr} {f16 : Addr} {f17 : Addr} {f18 : Addr} {f19 : Addr} {f20 : Addr} {f21 : Addr} {f22 : Addr} {f23 : Addr} {f24 : Addr} {f25 : Addr}
    {od0 an0 : Option Addr} {sl0 : Array (Option Value)} {oc0 kV0 dc0 pm0 cd0 ct0 : Value}
    (a0 : PySem.W.nsIn K mainGlobals "is_number" = some (some (.ref f0))) (l0 : K.lookup f0 = some ⟨oc0, od0, .func (PySem.W.fnOf "is_number" "is_number" (defArgs s_is_number) (defBody s_is_number) (defScope s_is_number) .none kV0 dc0 pm0 an0 cd0 ct0), sl0⟩) (c0 : PySem.W.codeIn K cd0 "is_number" = true) (k0 : PySem.W.keepIn K (.ref f0) = true)
    {od1 an1 : Option Addr} {sl1 : Array (Option Value)} {oc1 kV1 dc1 pm1 cd1 ct1 : Value}
    (a1 : PySem.W.nsIn K mainGlobals "is_cell" = some (some (.ref f1))) (l1 : K.lookup f1 = some ⟨oc1, od1, .func (PySem.W.fnOf "is_cell" "is_cell" (defArgs s_is_cell) (defBody s_is_cell) (defScope s_is_cell) .none kV1 dc1 pm1 an1 cd1 ct1), sl1⟩) (c1 : PySem.W.codeIn K cd1 "is_cell" = true) (k1 : PySem.W.keepIn K (.ref f1) = true)
    {od2 an2 : Option Addr} {sl2 : Array (Option Value)} {oc2 kV2 dc2 pm2 cd2 ct2 : Value}
    (a2 : PySem.W.nsIn K mainGlobals "is_cells" = some (some (.ref f2))) (l2 : K.lookup f2 = some ⟨oc2, od2, .func (PySem.W.fnOf "is_cells" "is_cells" (defArgs s_is_cells) (defBody s_is_cells) (defScope s_is_cells) .none kV2 dc2 pm2 an2 cd2 ct2), sl2⟩) (c2 : PySem.W.codeIn K cd2 "is_cells" = true) (k2 : PySem.W.keepIn K (.ref f2) = true)
    {od3 an3 : Option Addr} {sl3 : Array (Option Value)} {oc3 kV3 dc3 pm3 cd3 ct3 : Value}
    (a3 : PySem.W.nsIn K mainGlobals "check_cells" = some (some (.ref f3))) (l3 : K.lookup f3 = some ⟨oc3, od3, .func (PySem.W.fnOf "check_cells" "check_cells" (defArgs s_check_cells) (defBody s_check_cells) (defScope s_check_cells) .none kV3 dc3 pm3 an3 cd3 ct3), sl3⟩) (c3 : PySem.W.codeIn K cd3 "check_cells" = true) (k3 : PySem.W.keepIn K (.ref f3) = true)
    {od4 an4 : Option Addr} {sl4 : Array (Option Value)} {oc4 kV4 dc4 pm4 cd4 ct4 : Value}
    (a4 : PySem.W.nsIn K mainGlobals "is_text" = some (some (.ref f4))) (l4 : K.lookup f4 = some ⟨oc4, od4, .func (PySem.W.fnOf "is_text" "is_text" (defArgs s_is_text) (defBody s_is_text) (defScope s_is_text) .none kV4 dc4 pm4 an4 cd4 ct4), sl4⟩) (c4 : PySem.W.codeIn K cd4 "is_text" = true) (k4 : PySem.W.keepIn K (.ref f4) = true)
    {od5 an5 : Option Addr} {sl5 : Array (Option Value)} {oc5 kV5 dc5 pm5 cd5 ct5 : Value}
    (a5 : PySem.W.nsIn K mainGlobals "check_text" = some (some (.ref f5))) (l5 : K.lookup f5 = some ⟨oc5, od5, .func (PySem.W.fnOf "check_text" "check_text" (defArgs s_check_text) (defBody s_check_text) (defScope s_check_text) .none kV5 dc5 pm5 an5 cd5 ct5), sl5⟩) (c5 : PySem.W.codeIn K cd5 "check_text" = true) (k5 : PySem.W.keepIn K (.ref f5) = true)
    {od6 an6 : Option Addr} {sl6 : Array (Option Value)} {oc6 kV6 dc6 pm6 cd6 ct6 : Value}
    (a6 : PySem.W.nsIn K mainGlobals "is_window" = some (some (.ref f6))) (l6 : K.lookup f6 = some ⟨oc6, od6, .func (PySem.W.fnOf "is_window" "is_window" (defArgs s_is_window) (defBody s_is_window) (defScope s_is_window) .none kV6 dc6 pm6 an6 cd6 ct6), sl6⟩) (c6 : PySem.W.codeIn K cd6 "is_window" = true) (k6 : PySem.W.keepIn K (.ref f6) = true)
    {od7 an7 : Option Addr} {sl7 : Array (Option Value)} {oc7 kV7 dc7 pm7 cd7 ct7 : Value}
    (a7 : PySem.W.nsIn K mainGlobals "digits_of" = some (some (.ref f7))) (l7 : K.lookup f7 = some ⟨oc7, od7, .func (PySem.W.fnOf "digits_of" "digits_of" (defArgs s_digits_of) (defBody s_digits_of) (defScope s_digits_of) .none kV7 dc7 pm7 an7 cd7 ct7), sl7⟩) (c7 : PySem.W.codeIn K cd7 "digits_of" = true) (k7 : PySem.W.keepIn K (.ref f7) = true)
    {od8 an8 : Option Addr} {sl8 : Array (Option Value)} {oc8 kV8 dc8 pm8 cd8 ct8 : Value}
    (a8 : PySem.W.nsIn K mainGlobals "cells_text" = some (some (.ref f8))) (l8 : K.lookup f8 = some ⟨oc8, od8, .func (PySem.W.fnOf "cells_text" "cells_text" (defArgs s_cells_text) (defBody s_cells_text) (defScope s_cells_text) .none kV8 dc8 pm8 an8 cd8 ct8), sl8⟩) (c8 : PySem.W.codeIn K cd8 "cells_text" = true) (k8 : PySem.W.keepIn K (.ref f8) = true)
    {od9 an9 : Option Addr} {sl9 : Array (Option Value)} {oc9 kV9 dc9 pm9 cd9 ct9 : Value}
    (a9 : PySem.W.nsIn K mainGlobals "told_cells" = some (some (.ref f9))) (l9 : K.lookup f9 = some ⟨oc9, od9, .func (PySem.W.fnOf "told_cells" "told_cells" (defArgs s_told_cells) (defBody s_told_cells) (defScope s_told_cells) .none kV9 dc9 pm9 an9 cd9 ct9), sl9⟩) (c9 : PySem.W.codeIn K cd9 "told_cells" = true) (k9 : PySem.W.keepIn K (.ref f9) = true)
    {od10 an10 : Option Addr} {sl10 : Array (Option Value)} {oc10 kV10 dc10 pm10 cd10 ct10 : Value}
    (a10 : PySem.W.nsIn K mainGlobals "digits_cells" = some (some (.ref f10))) (l10 : K.lookup f10 = some ⟨oc10, od10, .func (PySem.W.fnOf "digits_cells" "digits_cells" (defArgs s_digits_cells) (defBody s_digits_cells) (defScope s_digits_cells) .none kV10 dc10 pm10 an10 cd10 ct10), sl10⟩) (c10 : PySem.W.codeIn K cd10 "digits_cells" = true) (k10 : PySem.W.keepIn K (.ref f10) = true)
    {od11 an11 : Option Addr} {sl11 : Array (Option Value)} {oc11 kV11 dc11 pm11 cd11 ct11 : Value}
    (a11 : PySem.W.nsIn K mainGlobals "window_text" = some (some (.ref f11))) (l11 : K.lookup f11 = some ⟨oc11, od11, .func (PySem.W.fnOf "window_text" "window_text" (defArgs s_window_text) (defBody s_window_text) (defScope s_window_text) .none kV11 dc11 pm11 an11 cd11 ct11), sl11⟩) (c11 : PySem.W.codeIn K cd11 "window_text" = true) (k11 : PySem.W.keepIn K (.ref f11) = true)
    {od12 an12 : Option Addr} {sl12 : Array (Option Value)} {oc12 kV12 dc12 pm12 cd12 ct12 : Value}
    (a12 : PySem.W.nsIn K mainGlobals "window_cells" = some (some (.ref f12))) (l12 : K.lookup f12 = some ⟨oc12, od12, .func (PySem.W.fnOf "window_cells" "window_cells" (defArgs s_window_cells) (defBody s_window_cells) (defScope s_window_cells) .none kV12 dc12 pm12 an12 cd12 ct12), sl12⟩) (c12 : PySem.W.codeIn K cd12 "window_cells" = true) (k12 : PySem.W.keepIn K (.ref f12) = true)
    {od13 an13 : Option Addr} {sl13 : Array (Option Value)} {oc13 kV13 dc13 pm13 cd13 ct13 : Value}
    (a13 : PySem.W.nsIn K mainGlobals "cells_from" = some (some (.ref f13))) (l13 : K.lookup f13 = some ⟨oc13, od13, .func (PySem.W.fnOf "cells_from" "cells_from" (defArgs s_cells_from) (defBody s_cells_from) (defScope s_cells_from) .none kV13 dc13 pm13 an13 cd13 ct13), sl13⟩) (c13 : PySem.W.codeIn K cd13 "cells_from" = true) (k13 : PySem.W.keepIn K (.ref f13) = true)
    {od14 an14 : Option Addr} {sl14 : Array (Option Value)} {oc14 kV14 dc14 pm14 cd14 ct14 : Value}
    (a14 : PySem.W.nsIn K mainGlobals "_law_tray" = some (some (.ref f14))) (l14 : K.lookup f14 = some ⟨oc14, od14, .func (PySem.W.fnOf "_law_tray" "_law_tray" (defArgs s_law_tray) (defBody s_law_tray) (defScope s_law_tray) .none kV14 dc14 pm14 an14 cd14 ct14), sl14⟩) (c14 : PySem.W.codeIn K cd14 "_law_tray" = true) (k14 : PySem.W.keepIn K (.ref f14) = true)
    {od15 an15 : Option Addr} {sl15 : Array (Option Value)} {oc15 kV15 dc15 pm15 cd15 ct15 : Value}
    (a15 : PySem.W.nsIn K mainGlobals "_law_pluck" = some (some (.ref f15))) (l15 : K.lookup f15 = some ⟨oc15, od15, .func (PySem.W.fnOf "_law_pluck" "_law_pluck" (defArgs s_law_pluck) (defBody s_law_pluck) (defScope s_law_pluck) .none kV15 dc15 pm15 an15 cd15 ct15), sl15⟩) (c15 : PySem.W.codeIn K cd15 "_law_pluck" = true) (k15 : PySem.W.keepIn K (.ref f15) = true)
    {od16 an16 : Option Addr} {sl16 : Array (Option Value)} {oc16 kV16 dc16 pm16 cd16 ct16 : Value}
    (a16 : PySem.W.nsIn K mainGlobals "_law_some" = some (some (.ref f16))) (l16 : K.lookup f16 = some ⟨oc16, od16, .func (PySem.W.fnOf "_law_some" "_law_some" (defArgs s_law_some) (defBody s_law_some) (defScope s_law_some) .none kV16 dc16 pm16 an16 cd16 ct16), sl16⟩) (c16 : PySem.W.codeIn K cd16 "_law_some" = true) (k16 : PySem.W.keepIn K (.ref f16) = true)
    {od17 an17 : Option Addr} {sl17 : Array (Option Value)} {oc17 kV17 dc17 pm17 cd17 ct17 : Value}
    (a17 : PySem.W.nsIn K mainGlobals "_law_three" = some (some (.ref f17))) (l17 : K.lookup f17 = some ⟨oc17, od17, .func (PySem.W.fnOf "_law_three" "_law_three" (defArgs s_law_three) (defBody s_law_three) (defScope s_law_three) .none kV17 dc17 pm17 an17 cd17 ct17), sl17⟩) (c17 : PySem.W.codeIn K cd17 "_law_three" = true) (k17 : PySem.W.keepIn K (.ref f17) = true)
    {od18 an18 : Option Addr} {sl18 : Array (Option Value)} {oc18 kV18 dc18 pm18 cd18 ct18 : Value}
    (a18 : PySem.W.nsIn K mainGlobals "_law_told" = some (some (.ref f18))) (l18 : K.lookup f18 = some ⟨oc18, od18, .func (PySem.W.fnOf "_law_told" "_law_told" (defArgs s_law_told) (defBody s_law_told) (defScope s_law_told) .none kV18 dc18 pm18 an18 cd18 ct18), sl18⟩) (c18 : PySem.W.codeIn K cd18 "_law_told" = true) (k18 : PySem.W.keepIn K (.ref f18) = true)
    {od19 an19 : Option Addr} {sl19 : Array (Option Value)} {oc19 kV19 dc19 pm19 cd19 ct19 : Value}
    (a19 : PySem.W.nsIn K mainGlobals "_law_window" = some (some (.ref f19))) (l19 : K.lookup f19 = some ⟨oc19, od19, .func (PySem.W.fnOf "_law_window" "_law_window" (defArgs s_law_window) (defBody s_law_window) (defScope s_law_window) .none kV19 dc19 pm19 an19 cd19 ct19), sl19⟩) (c19 : PySem.W.codeIn K cd19 "_law_window" = true) (k19 : PySem.W.keepIn K (.ref f19) = true)
    {od20 an20 : Option Addr} {sl20 : Array (Option Value)} {oc20 kV20 dc20 pm20 cd20 ct20 : Value}
    (a20 : PySem.W.nsIn K mainGlobals "_law_cells" = some (some (.ref f20))) (l20 : K.lookup f20 = some ⟨oc20, od20, .func (PySem.W.fnOf "_law_cells" "_law_cells" (defArgs s_law_cells) (defBody s_law_cells) (defScope s_law_cells) .none kV20 dc20 pm20 an20 cd20 ct20), sl20⟩) (c20 : PySem.W.codeIn K cd20 "_law_cells" = true) (k20 : PySem.W.keepIn K (.ref f20) = true)
    {od21 an21 : Option Addr} {sl21 : Array (Option Value)} {oc21 kV21 dc21 pm21 cd21 ct21 : Value}
    (a21 : PySem.W.nsIn K mainGlobals "_law_near" = some (some (.ref f21))) (l21 : K.lookup f21 = some ⟨oc21, od21, .func (PySem.W.fnOf "_law_near" "_law_near" (defArgs s_law_near) (defBody s_law_near) (defScope s_law_near) .none kV21 dc21 pm21 an21 cd21 ct21), sl21⟩) (c21 : PySem.W.codeIn K cd21 "_law_near" = true) (k21 : PySem.W.keepIn K (.ref f21) = true)
    {od22 an22 : Option Addr} {sl22 : Array (Option Value)} {oc22 kV22 dc22 pm22 cd22 ct22 : Value}
    (a22 : PySem.W.nsIn K mainGlobals "_law_is_window" = some (some (.ref f22))) (l22 : K.lookup f22 = some ⟨oc22, od22, .func (PySem.W.fnOf "_law_is_window" "_law_is_window" (defArgs s_law_is_window) (defBody s_law_is_window) (defScope s_law_is_window) .none kV22 dc22 pm22 an22 cd22 ct22), sl22⟩) (c22 : PySem.W.codeIn K cd22 "_law_is_window" = true) (k22 : PySem.W.keepIn K (.ref f22) = true)
    {od23 an23 : Option Addr} {sl23 : Array (Option Value)} {oc23 kV23 dc23 pm23 cd23 ct23 : Value}
    (a23 : PySem.W.nsIn K mainGlobals "_law_odd_values" = some (some (.ref f23))) (l23 : K.lookup f23 = some ⟨oc23, od23, .func (PySem.W.fnOf "_law_odd_values" "_law_odd_values" (defArgs s_law_odd_values) (defBody s_law_odd_values) (defScope s_law_odd_values) .none kV23 dc23 pm23 an23 cd23 ct23), sl23⟩) (c23 : PySem.W.codeIn K cd23 "_law_odd_values" = true) (k23 : PySem.W.keepIn K (.ref f23) = true)
    {od24 an24 : Option Addr} {sl24 : Array (Option Value)} {oc24 kV24 dc24 pm24 cd24 ct24 : Value}
    (a24 : PySem.W.nsIn K mainGlobals "_law_right" = some (some (.ref f24))) (l24 : K.lookup f24 = some ⟨oc24, od24, .func (PySem.W.fnOf "_law_right" "_law_right" (defArgs s_law_right) (defBody s_law_right) (defScope s_law_right) .none kV24 dc24 pm24 an24 cd24 ct24), sl24⟩) (c24 : PySem.W.codeIn K cd24 "_law_right" = true) (k24 : PySem.W.keepIn K (.ref f24) = true)
    {od25 an25 : Option Addr} {sl25 : Array (Option Value)} {oc25 kV25 dc25 pm25 cd25 ct25 : Value}
    (a25 : PySem.W.nsIn K mainGlobals "law" = some (some (.ref f25))) (l25 : K.lookup f25 = some ⟨oc25, od25, .func (PySem.W.fnOf "law" "law" (defArgs s_law) (defBody s_law) (defScope s_law) .none kV25 dc25 pm25 an25 cd25 ct25), sl25⟩) (c25 : PySem.W.codeIn K cd25 "law" = true) (k25 : PySem.W.keepIn K (.ref f25) = true)
    (z_abs : PySem.W.nsIn K mainGlobals "abs" = some none)
    (z_all : PySem.W.nsIn K mainGlobals "all" = some none)
    (z_bool : PySem.W.nsIn K mainGlobals "bool" = some none)
    (z_int : PySem.W.nsIn K mainGlobals "int" = some none)
    (z_isinstance : PySem.W.nsIn K mainGlobals "isinstance" = some none)
    (z_len : PySem.W.nsIn K mainGlobals "len" = some none)
    (z_max : PySem.W.nsIn K mainGlobals "max" = some none)
    (z_min : PySem.W.nsIn K mainGlobals "min" = some none)
    (z_range : PySem.W.nsIn K mainGlobals "range" = some none)
    (z_str : PySem.W.nsIn K mainGlobals "str" = some none)
    (z_tuple : PySem.W.nsIn K mainGlobals "tuple" = some none)
    {t_CELL_DIGITS : Tok} (y_CELL_DIGITS : PySem.W.nsIn K mainGlobals "CELL_DIGITS" = some (some (.int 3 t_CELL_DIGITS)))
    {t_LONGEST : Tok} (y_LONGEST : PySem.W.nsIn K mainGlobals "LONGEST" = some (some (.int 999999999999999999999999999999999999999999999999999999999999 t_LONGEST)))
    {t_MAX_CELL : Tok} (y_MAX_CELL : PySem.W.nsIn K mainGlobals "MAX_CELL" = some (some (.int 996 t_MAX_CELL)))
    {t_MOST_DIGITS : Tok} (y_MOST_DIGITS : PySem.W.nsIn K mainGlobals "MOST_DIGITS" = some (some (.int 20000 t_MOST_DIGITS)))
    {t_MOST_SIGNS : Tok} (y_MOST_SIGNS : PySem.W.nsIn K mainGlobals "MOST_SIGNS" = some (some (.int 60000 t_MOST_SIGNS)))
    {t_WINDOW_CELLS : Tok} (y_WINDOW_CELLS : PySem.W.nsIn K mainGlobals "WINDOW_CELLS" = some (some (.int 40 t_WINDOW_CELLS)))
    {t_WINDOW_SIGNS : Tok} (y_WINDOW_SIGNS : PySem.W.nsIn K mainGlobals "WINDOW_SIGNS" = some (some (.int 122 t_WINDOW_SIGNS)))
    : ∃ fd : FuncData, (∀ (s : Shared) (v : Value), BindsTo s fd ⟨[v], []⟩ [("script", v)]) ∧ ∀ base : Heap, K.In base → base.Ns mainGlobals mg → FnOk l.prog w K mg base CX0 7 fa fd ["script"] (sp_law K) := by
  have e := hfa.symm.trans (PySem.W.mg_of X G a25)
  cases e
  have F0 := fun_mk (st := s_is_number) l0 c0 k0
  have F1 := fun_mk (st := s_is_cell) l1 c1 k1
  have F2 := fun_mk (st := s_is_cells) l2 c2 k2
  have F3 := fun_mk (st := s_check_cells) l3 c3 k3
  have F4 := fun_mk (st := s_is_text) l4 c4 k4
  have F5 := fun_mk (st := s_check_text) l5 c5 k5
  have F6 := fun_mk (st := s_is_window) l6 c6 k6
  have F7 := fun_mk (st := s_digits_of) l7 c7 k7
  have F8 := fun_mk (st := s_cells_text) l8 c8 k8
  have F9 := fun_mk (st := s_told_cells) l9 c9 k9
  have F10 := fun_mk (st := s_digits_cells) l10 c10 k10
  have F11 := fun_mk (st := s_window_text) l11 c11 k11
  have F12 := fun_mk (st := s_window_cells) l12 c12 k12
  have F13 := fun_mk (st := s_cells_from) l13 c13 k13
  have F14 := fun_mk (st := s_law_tray) l14 c14 k14
  have F15 := fun_mk (st := s_law_pluck) l15 c15 k15
  have F16 := fun_mk (st := s_law_some) l16 c16 k16
  have F17 := fun_mk (st := s_law_three) l17 c17 k17
  have F18 := fun_mk (st := s_law_told) l18 c18 k18
  have F19 := fun_mk (st := s_law_window) l19 c19 k19
  have F20 := fun_mk (st := s_law_cells) l20 c20 k20
  have F21 := fun_mk (st := s_law_near) l21 c21 k21
  have F22 := fun_mk (st := s_law_is_window) l22 c22 k22
  have F23 := fun_mk (st := s_law_odd_values) l23 c23 k23
  have F24 := fun_mk (st := s_law_right) l24 c24 k24
  have F25 := fun_mk (st := s_law) l25 c25 k25
  have T : Txt K mg ⟨f0, f1, f2, f3, f4, f5, f6, f7, f8, f9, f10, f11, f12, f13, f14, f15, f16, f17, f18, f19, f20, f21, f22, f23, f24, fa⟩ ⟨_, _, _, _, _, _, _, _, _, _, _, _, _, _, _, _, _, _, _, _, _, _, _, _, _, _⟩ := {
    b_abs := PySem.W.mg_none_of X G z_abs
    b_all := PySem.W.mg_none_of X G z_all
    b_bool := PySem.W.mg_none_of X G z_bool
    b_int := PySem.W.mg_none_of X G z_int
    b_isinstance := PySem.W.mg_none_of X G z_isinstance
    b_len := PySem.W.mg_none_of X G z_len
    b_max := PySem.W.mg_none_of X G z_max
    b_min := PySem.W.mg_none_of X G z_min
    b_range := PySem.W.mg_none_of X G z_range
    b_str := PySem.W.mg_none_of X G z_str
    b_tuple := PySem.W.mg_none_of X G z_tuple
    c_CELL_DIGITS := ⟨_, PySem.W.mg_of X G y_CELL_DIGITS⟩
    c_LONGEST := ⟨_, PySem.W.mg_of X G y_LONGEST⟩
    c_MAX_CELL := ⟨_, PySem.W.mg_of X G y_MAX_CELL⟩
    c_MOST_DIGITS := ⟨_, PySem.W.mg_of X G y_MOST_DIGITS⟩
    c_MOST_SIGNS := ⟨_, PySem.W.mg_of X G y_MOST_SIGNS⟩
    c_WINDOW_CELLS := ⟨_, PySem.W.mg_of X G y_WINDOW_CELLS⟩
    c_WINDOW_SIGNS := ⟨_, PySem.W.mg_of X G y_WINDOW_SIGNS⟩
    g_is_number := PySem.W.mg_of X G a0
    k_is_number := k0
    F_is_number := F0
    B_is_number := F0.binds (ps := ["value", "least", "most"]) fun _ _ _ _ _ _ us hl => match us, hl with | [_, _, _], _ => rfl
    g_is_cell := PySem.W.mg_of X G a1
    k_is_cell := k1
    F_is_cell := F1
    B_is_cell := F1.binds (ps := ["value"]) fun _ _ _ _ _ _ us hl => match us, hl with | [_], _ => rfl
    g_is_cells := PySem.W.mg_of X G a2
    k_is_cells := k2
    F_is_cells := F2
    B_is_cells := F2.binds (ps := ["value"]) fun _ _ _ _ _ _ us hl => match us, hl with | [_], _ => rfl
    g_check_cells := PySem.W.mg_of X G a3
    k_check_cells := k3
    F_check_cells := F3
    B_check_cells := F3.binds (ps := ["cells", "most"]) fun _ _ _ _ _ _ us hl => match us, hl with | [_, _], _ => rfl
    g_is_text := PySem.W.mg_of X G a4
    k_is_text := k4
    F_is_text := F4
    B_is_text := F4.binds (ps := ["value"]) fun _ _ _ _ _ _ us hl => match us, hl with | [_], _ => rfl
    g_check_text := PySem.W.mg_of X G a5
    k_check_text := k5
    F_check_text := F5
    B_check_text := F5.binds (ps := ["text"]) fun _ _ _ _ _ _ us hl => match us, hl with | [_], _ => rfl
    g_is_window := PySem.W.mg_of X G a6
    k_is_window := k6
    F_is_window := F6
    B_is_window := F6.binds (ps := ["value"]) fun _ _ _ _ _ _ us hl => match us, hl with | [_], _ => rfl
    g_digits_of := PySem.W.mg_of X G a7
    k_digits_of := k7
    F_digits_of := F7
    B_digits_of := F7.binds (ps := ["cells"]) fun _ _ _ _ _ _ us hl => match us, hl with | [_], _ => rfl
    g_cells_text := PySem.W.mg_of X G a8
    k_cells_text := k8
    F_cells_text := F8
    B_cells_text := F8.binds (ps := ["cells"]) fun _ _ _ _ _ _ us hl => match us, hl with | [_], _ => rfl
    g_told_cells := PySem.W.mg_of X G a9
    k_told_cells := k9
    F_told_cells := F9
    B_told_cells := F9.binds (ps := ["text"]) fun _ _ _ _ _ _ us hl => match us, hl with | [_], _ => rfl
    g_digits_cells := PySem.W.mg_of X G a10
    k_digits_cells := k10
    F_digits_cells := F10
    B_digits_cells := F10.binds (ps := ["signs"]) fun _ _ _ _ _ _ us hl => match us, hl with | [_], _ => rfl
    g_window_text := PySem.W.mg_of X G a11
    k_window_text := k11
    F_window_text := F11
    B_window_text := F11.binds (ps := ["cells"]) fun _ _ _ _ _ _ us hl => match us, hl with | [_], _ => rfl
    g_window_cells := PySem.W.mg_of X G a12
    k_window_cells := k12
    F_window_cells := F12
    B_window_cells := F12.binds (ps := ["text"]) fun _ _ _ _ _ _ us hl => match us, hl with | [_], _ => rfl
    g_cells_from := PySem.W.mg_of X G a13
    k_cells_from := k13
    F_cells_from := F13
    B_cells_from := F13.binds (ps := ["text", "place"]) fun _ _ _ _ _ _ us hl => match us, hl with | [_, _], _ => rfl
    g_law_tray := PySem.W.mg_of X G a14
    k_law_tray := k14
    F_law_tray := F14
    B_law_tray := F14.binds (ps := ["script", "spot"]) fun _ _ _ _ _ _ us hl => match us, hl with | [_, _], _ => rfl
    g_law_pluck := PySem.W.mg_of X G a15
    k_law_pluck := k15
    F_law_pluck := F15
    B_law_pluck := F15.binds (ps := ["tray", "total"]) fun _ _ _ _ _ _ us hl => match us, hl with | [_, _], _ => rfl
    g_law_some := PySem.W.mg_of X G a16
    k_law_some := k16
    F_law_some := F16
    B_law_some := F16.binds (ps := ["tray", "items"]) fun _ _ _ _ _ _ us hl => match us, hl with | [_, _], _ => rfl
    g_law_three := PySem.W.mg_of X G a17
    k_law_three := k17
    F_law_three := F17
    B_law_three := F17.binds (ps := ["cell"]) fun _ _ _ _ _ _ us hl => match us, hl with | [_], _ => rfl
    g_law_told := PySem.W.mg_of X G a18
    k_law_told := k18
    F_law_told := F18
    B_law_told := F18.binds (ps := ["digits"]) fun _ _ _ _ _ _ us hl => match us, hl with | [_], _ => rfl
    g_law_window := PySem.W.mg_of X G a19
    k_law_window := k19
    F_law_window := F19
    B_law_window := F19.binds (ps := ["cells"]) fun _ _ _ _ _ _ us hl => match us, hl with | [_], _ => rfl
    g_law_cells := PySem.W.mg_of X G a20
    k_law_cells := k20
    F_law_cells := F20
    B_law_cells := F20.binds (ps := ["tray"]) fun _ _ _ _ _ _ us hl => match us, hl with | [_], _ => rfl
    g_law_near := PySem.W.mg_of X G a21
    k_law_near := k21
    F_law_near := F21
    B_law_near := F21.binds (ps := ["tray", "text"]) fun _ _ _ _ _ _ us hl => match us, hl with | [_, _], _ => rfl
    g_law_is_window := PySem.W.mg_of X G a22
    k_law_is_window := k22
    F_law_is_window := F22
    B_law_is_window := F22.binds (ps := ["value"]) fun _ _ _ _ _ _ us hl => match us, hl with | [_], _ => rfl
    g_law_odd_values := PySem.W.mg_of X G a23
    k_law_odd_values := k23
    F_law_odd_values := F23
    B_law_odd_values := F23.binds (ps := ["tray"]) fun _ _ _ _ _ _ us hl => match us, hl with | [_], _ => rfl
    g_law_right := PySem.W.mg_of X G a24
    k_law_right := k24
    F_law_right := F24
    B_law_right := F24.binds (ps := ["tray"]) fun _ _ _ _ _ _ us hl => match us, hl with | [_], _ => rfl
    g_law := PySem.W.mg_of X G a25
    k_law := k25
    F_law := F25
    B_law := F25.binds (ps := ["script"]) fun _ _ _ _ _ _ us hl => match us, hl with | [_], _ => rfl
  }
  refine ⟨PySem.W.fnOf "law" "law" (defArgs s_law) (defBody s_law) (defScope s_law) .none kV25 dc25 pm25 an25 cd25 ct25, fun s v => .of_eq rfl, fun base _ _ => ?_⟩
  have G_is_text := ok_is_text (P := l.prog) (w := w) (base := base) T 
  have G_digits_cells := ok_digits_cells (P := l.prog) (w := w) (base := base) T 
  have G_law_tray := ok_law_tray (P := l.prog) (w := w) (base := base) T 
  have G_law_pluck := ok_law_pluck (P := l.prog) (w := w) (base := base) T 
  have G_law_three := ok_law_three (P := l.prog) (w := w) (base := base) T 
  have G_law_told := ok_law_told (P := l.prog) (w := w) (base := base) T 
  have G_is_number := ok_is_number (P := l.prog) (w := w) (base := base) T 
  have G_digits_of := ok_digits_of (P := l.prog) (w := w) (base := base) T 
  have G_check_text := ok_check_text (P := l.prog) (w := w) (base := base) T G_is_text
  have G_cells_from := ok_cells_from (P := l.prog) (w := w) (base := base) T G_digits_cells
  have G_law_some := ok_law_some (P := l.prog) (w := w) (base := base) T G_law_pluck
  have G_law_window := ok_law_window (P := l.prog) (w := w) (base := base) T G_law_three
  have G_is_cell := ok_is_cell (P := l.prog) (w := w) (base := base) T G_is_number
  have G_law_near := ok_law_near (P := l.prog) (w := w) (base := base) T G_law_pluck
  have G_law_is_window := ok_law_is_window (P := l.prog) (w := w) (base := base) T G_law_told
  have G_law_cells := ok_law_cells (P := l.prog) (w := w) (base := base) T G_law_pluck G_law_some
  have G_is_cells := ok_is_cells (P := l.prog) (w := w) (base := base) T G_is_cell
  have G_told_cells := ok_told_cells (P := l.prog) (w := w) (base := base) T G_check_text G_digits_cells
  have G_window_cells := ok_window_cells (P := l.prog) (w := w) (base := base) T G_cells_from G_check_text
  have G_is_window := ok_is_window (P := l.prog) (w := w) (base := base) T G_cells_from G_is_text
  have G_law_odd_values := ok_law_odd_values (P := l.prog) (w := w) (base := base) T G_law_some
  have G_check_cells := ok_check_cells (P := l.prog) (w := w) (base := base) T G_is_cells
  have G_window_text := ok_window_text (P := l.prog) (w := w) (base := base) T G_digits_of G_is_cells
  have G_cells_text := ok_cells_text (P := l.prog) (w := w) (base := base) T G_check_cells G_digits_of
  have G_law_right := ok_law_right (P := l.prog) (w := w) (base := base) T G_law_cells G_law_is_window G_law_near G_law_odd_values G_law_pluck G_law_some G_law_three G_law_told G_law_window G_cells_text G_is_text G_is_window G_told_cells G_window_cells G_window_text
  have G_law := ok_law (P := l.prog) (w := w) (base := base) T G_law_right G_law_tray G_cells_text G_is_text G_told_cells
  exact G_law
theorem walk {l : PySem.W.OpenLaw} {q : Program} {loose : List Str} {XP : (Str → Option Value) → Heap → Prop} {YP : World → Heap → Prop} {d : DefRec} {K : Params → PySem.W.Frag} (hn : l.most = some 63) (hdf : d.params.defaults = [])
    (hY : ∀ (w : World) (h : Heap), YP w h → (K w.params).In h)
    (F : ∀ (w : World) (mg : Str → Option Value) (fa : Addr) (h : Heap), (K w.params).In h → h.Ns mainGlobals mg → mg d.name = some (.ref fa) →
      ∃ fd : FuncData, (∀ (s : Shared) (u : Value), BindsTo s fd ⟨[u], []⟩ [("script", u)]) ∧ ∀ base : Heap, (K w.params).In base → base.Ns mainGlobals mg → FnOk l.prog w (K w.params) mg base CX0 7 fa fd ["script"] (sp_law (K w.params))) :
    PySem.W.WalkO q loose XP YP l.row.toRowW d [] (fun f vs => PySem.call f vs) :=
  L2.walk_of (n := 63) (k := 7) (x := "script") (CX := fun _ => CX0) (sp := fun w => sp_law (K w.params)) hn (by decide) hdf ⟨rfl, by decide, by decide⟩ hY F (fun _ _ a ns hl _ hS => ⟨a, ns, rfl, hS, hl, fun _ => rfl⟩) fun _ _ _ _ _ z => z
end
end My
open PySem PySem.W PyProof.Rows
set_option maxRecDepth 100000 in
set_option maxHeartbeats 0 in
theorem PySem.Challenge.cw_stillread_k09_whole_digits_of_cells_holds : PySem.Challenge.rw_stillread_k09_whole_digits_of_cells.Holds := by
  w_on; o_law; k_head; (case hw => w_witness2)
  k_fill
  refine My.walk (l := PySem.Challenge.rw_stillread_k09_whole_digits_of_cells) rfl rfl (fun w h Y => PySem.W.kIn_of Y) ?F
  case F =>
    intro w mg fa h KX G hmg
    refine' My.all_mk KX G hmg ?a0 ?l0 ?c0 ?k0 ?a1 ?l1 ?c1 ?k1 ?a2 ?l2 ?c2 ?k2 ?a3 ?l3 ?c3 ?k3 ?a4 ?l4 ?c4 ?k4 ?a5 ?l5 ?c5 ?k5 ?a6 ?l6 ?c6 ?k6 ?a7 ?l7 ?c7 ?k7 ?a8 ?l8 ?c8 ?k8 ?a9 ?l9 ?c9 ?k9 ?a10 ?l10 ?c10 ?k10 ?a11 ?l11 ?c11 ?k11 ?a12 ?l12 ?c12 ?k12 ?a13 ?l13 ?c13 ?k13 ?a14 ?l14 ?c14 ?k14 ?a15 ?l15 ?c15 ?k15 ?a16 ?l16 ?c16 ?k16 ?a17 ?l17 ?c17 ?k17 ?a18 ?l18 ?c18 ?k18 ?a19 ?l19 ?c19 ?k19 ?a20 ?l20 ?c20 ?k20 ?a21 ?l21 ?c21 ?k21 ?a22 ?l22 ?c22 ?k22 ?a23 ?l23 ?c23 ?k23 ?a24 ?l24 ?c24 ?k24 ?a25 ?l25 ?c25 ?k25 ?z_abs ?z_all ?z_bool ?z_int ?z_isinstance ?z_len ?z_max ?z_min ?z_range ?z_str ?z_tuple ?y_CELL_DIGITS ?y_LONGEST ?y_MAX_CELL ?y_MOST_DIGITS ?y_MOST_SIGNS ?y_WINDOW_CELLS ?y_WINDOW_SIGNS
    (case a0 => k_is)
    (case l0 => k_is)
    (case c0 => k_is)
    (case k0 => k_is)
    (case a1 => k_is)
    (case l1 => k_is)
    (case c1 => k_is)
    (case k1 => k_is)
    (case a2 => k_is)
    (case l2 => k_is)
    (case c2 => k_is)
    (case k2 => k_is)
    (case a3 => k_is)
    (case l3 => k_is)
    (case c3 => k_is)
    (case k3 => k_is)
    (case a4 => k_is)
    (case l4 => k_is)
    (case c4 => k_is)
    (case k4 => k_is)
    (case a5 => k_is)
    (case l5 => k_is)
    (case c5 => k_is)
    (case k5 => k_is)
    (case a6 => k_is)
    (case l6 => k_is)
    (case c6 => k_is)
    (case k6 => k_is)
    (case a7 => k_is)
    (case l7 => k_is)
    (case c7 => k_is)
    (case k7 => k_is)
    (case a8 => k_is)
    (case l8 => k_is)
    (case c8 => k_is)
    (case k8 => k_is)
    (case a9 => k_is)
    (case l9 => k_is)
    (case c9 => k_is)
    (case k9 => k_is)
    (case a10 => k_is)
    (case l10 => k_is)
    (case c10 => k_is)
    (case k10 => k_is)
    (case a11 => k_is)
    (case l11 => k_is)
    (case c11 => k_is)
    (case k11 => k_is)
    (case a12 => k_is)
    (case l12 => k_is)
    (case c12 => k_is)
    (case k12 => k_is)
    (case a13 => k_is)
    (case l13 => k_is)
    (case c13 => k_is)
    (case k13 => k_is)
    (case a14 => k_is)
    (case l14 => k_is)
    (case c14 => k_is)
    (case k14 => k_is)
    (case a15 => k_is)
    (case l15 => k_is)
    (case c15 => k_is)
    (case k15 => k_is)
    (case a16 => k_is)
    (case l16 => k_is)
    (case c16 => k_is)
    (case k16 => k_is)
    (case a17 => k_is)
    (case l17 => k_is)
    (case c17 => k_is)
    (case k17 => k_is)
    (case a18 => k_is)
    (case l18 => k_is)
    (case c18 => k_is)
    (case k18 => k_is)
    (case a19 => k_is)
    (case l19 => k_is)
    (case c19 => k_is)
    (case k19 => k_is)
    (case a20 => k_is)
    (case l20 => k_is)
    (case c20 => k_is)
    (case k20 => k_is)
    (case a21 => k_is)
    (case l21 => k_is)
    (case c21 => k_is)
    (case k21 => k_is)
    (case a22 => k_is)
    (case l22 => k_is)
    (case c22 => k_is)
    (case k22 => k_is)
    (case a23 => k_is)
    (case l23 => k_is)
    (case c23 => k_is)
    (case k23 => k_is)
    (case a24 => k_is)
    (case l24 => k_is)
    (case c24 => k_is)
    (case k24 => k_is)
    (case a25 => k_is)
    (case l25 => k_is)
    (case c25 => k_is)
    (case k25 => k_is)
    (case z_abs => k_is)
    (case z_all => k_is)
    (case z_bool => k_is)
    (case z_int => k_is)
    (case z_isinstance => k_is)
    (case z_len => k_is)
    (case z_max => k_is)
    (case z_min => k_is)
    (case z_range => k_is)
    (case z_str => k_is)
    (case z_tuple => k_is)
    (case y_CELL_DIGITS => k_is)
    (case y_LONGEST => k_is)
    (case y_MAX_CELL => k_is)
    (case y_MOST_DIGITS => k_is)
    (case y_MOST_SIGNS => k_is)
    (case y_WINDOW_CELLS => k_is)
    (case y_WINDOW_SIGNS => k_is)
