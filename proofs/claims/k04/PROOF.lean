import PyProof.Rows.All
import Wide.All
import OpenK.AllK
import Wide.FinOn
import HandS.ForMost
import HandS.Exc
import HandS.ExcOwn
import HandS.TryOnly
import HandS.Wide
import HandS.TupAny
import HandS.TupMul
import HandS.Deep
import HandS.IsInst
import HandS.Walk
import HandS.Zip
import HandS.Rev
import HandS.RevRange
import HandS.WordsExc
import HandS.StrMore
import HandS.Replace
import HandS.SetFor
import KE.GoesEnum
import KE.GoesZip
import KE.SortData
import KE.IntTextLaws
import HandS.Conv
import PySem.Challenge.RW_stillread_k04_whole_polys_through_points
set_option Elab.async false
set_option linter.all false
set_option maxRecDepth 100000
set_option maxHeartbeats 2000000
/-! Ev: Python's values, memory and results as plain data; what a state of the layer holds of them. -/
namespace Ev
open PySem PySem.Spec L2

/-- a value: tuples stand in it as they are; ref: a cell of the memory; rol: a list that nobody changes; ob: a def, a class -/
inductive U where
  | non | bl (b : Bool) | int (i : Int) | str (x : Str) | tup (us : List U) | rol (us : List U) | ref (n : Nat) | ob (v : V)
instance : Inhabited U := ⟨.non⟩
inductive Cell where
  | lst (us : List U) | dK (kvs : List (Key × U)) | dT (kvs : List (List Key × U))
abbrev Mem := List Cell
/-- an exception: its class by number, what it keeps -/
structure Ex where
  cls : Nat
  val : Option U
inductive R (α : Type) where
  | ok (a : α) (m : Mem) | err (x : Ex) (m : Mem) | bad
def R.bind {α β : Type} (r : R α) (k : α → Mem → R β) : R β := match r with
  | .ok a m => k a m
  | .err x m => .err x m
  | .bad => .bad
theorem R.bind_ok {α β : Type} (a : α) (m : Mem) (k : α → Mem → R β) : (R.ok a m).bind k = k a m := rfl
theorem R.bind_err {α β : Type} (x : Ex) (m : Mem) (k : α → Mem → R β) : (R.err x m : R α).bind k = .err x m := rfl
theorem R.bind_assoc {α β γ : Type} (r : R α) (k : α → Mem → R β) (l : β → Mem → R γ) : (r.bind k).bind l = r.bind fun a m => (k a m).bind l := by cases r <;> rfl
abbrev Env := List (Option U)
/-- what is fixed through a law: the written part, the classes of errors by number -/
structure W0 where
  K : PySem.W.Frag
  cls : Nat → Addr

/-! ### values -/
mutual
inductive RU (K : PySem.W.Frag) (H : Hp) (μ : List Addr) : U → V → Prop
  | non : RU K H μ .non .non
  | bl (b : Bool) : RU K H μ (.bl b) (.bl b)
  | int (i : Int) : RU K H μ (.int i) (.int i)
  | str (x : Str) : RU K H μ (.str x) (.str x)
  | tup {a : Addr} {vs : List V} {us : List U} : SqT K H a vs → RUs K H μ us vs → RU K H μ (.tup us) (.ref a)
  | rol {a : Addr} {vs : List V} {us : List U} : ((∃ o, H a = some (.frz o (.lst vs))) ∨ (SqL K (fun _ => none) a vs)) → RUs K H μ us vs → RU K H μ (.rol us) (.ref a)
  | ref {n : Nat} {a : Addr} : μ[n]? = some a → RU K H μ (.ref n) (.ref a)
  | ob (v : V) : RU K H μ (.ob v) v
inductive RUs (K : PySem.W.Frag) (H : Hp) (μ : List Addr) : List U → List V → Prop
  | nil : RUs K H μ [] []
  | cons {u : U} {us : List U} {v : V} {vs : List V} : RU K H μ u v → RUs K H μ us vs → RUs K H μ (u :: us) (v :: vs)
end

/-- from state to state: further cells; all else that is tracked stays -/
structure Step (K : PySem.W.Frag) (μ : List Addr) (H : Hp) (μ' : List Addr) (H' : Hp) : Prop where
  ext : ∃ t, μ' = μ ++ t
  keep : ∀ b o, H b = some o → b ∉ μ → (∀ ps, o ≠ .tbl ps) → H' b = some o
  stay : ∀ b o, H b = some o → b ∉ μ → b ∉ μ' ∧ ∃ o', H' b = some o'
  kt : ∀ a xs, SqT K H a xs → SqT K H' a xs
  fz : ∀ b o u, H b = some (.frz o u) → H' b = some (.frz o u)
section
variable {K : PySem.W.Frag} {H H' H'' : Hp} {μ μ' μ'' : List Addr}
theorem Step.refl : Step K μ H μ H := ⟨⟨[], by simp⟩, fun _ _ h _ _ => h, fun _ o h n => ⟨n, o, h⟩, fun _ _ h => h, fun _ _ _ h => h⟩
theorem Step.trans (a : Step K μ H μ' H') (b : Step K μ' H' μ'' H'') : Step K μ H μ'' H'' := by
  obtain ⟨t, e1⟩ := a.ext
  obtain ⟨t', e2⟩ := b.ext
  refine ⟨⟨t ++ t', by rw [e2, e1, List.append_assoc]⟩, fun c o h n hp => ?_, fun c o h n => ?_, fun c xs h => b.kt _ _ (a.kt _ _ h), fun c o u h => b.fz _ _ _ (a.fz _ _ _ h)⟩
  · exact b.keep c o (a.keep c o h n hp) (a.stay c o h n).1 hp
  · obtain ⟨n1, o1, h1⟩ := a.stay c o h n
    exact b.stay c o1 h1 n1
/-- what values lean on -/
structure Mono (K : PySem.W.Frag) (μ : List Addr) (H : Hp) (μ' : List Addr) (H' : Hp) : Prop where
  ext : ∃ t, μ' = μ ++ t
  kt : ∀ a xs, SqT K H a xs → SqT K H' a xs
  fz : ∀ b o u, H b = some (.frz o u) → H' b = some (.frz o u)
theorem Mono.refl : Mono K μ H μ H := ⟨⟨[], by simp⟩, fun _ _ h => h, fun _ _ _ h => h⟩
theorem Mono.trans (a : Mono K μ H μ' H') (b : Mono K μ' H' μ'' H'') : Mono K μ H μ'' H'' := by
  obtain ⟨t, e1⟩ := a.ext
  obtain ⟨t', e2⟩ := b.ext
  exact ⟨⟨t ++ t', by rw [e2, e1, List.append_assoc]⟩, fun c xs h => b.kt _ _ (a.kt _ _ h), fun c o u h => b.fz _ _ _ (a.fz _ _ _ h)⟩
theorem Step.mono (s : Step K μ H μ' H') : Mono K μ H μ' H' := ⟨s.ext, s.kt, s.fz⟩
theorem Mono.at (s : Mono K μ H μ' H') {n : Nat} {a : Addr} (h : μ[n]? = some a) : μ'[n]? = some a := by
  obtain ⟨t, e⟩ := s.ext
  have hl : n < μ.length := (List.getElem?_eq_some_iff.mp h).1
  rw [e, List.getElem?_append_left hl]
  exact h
mutual
theorem RU.mo (s : Mono K μ H μ' H') : ∀ {u : U} {v : V}, RU K H μ u v → RU K H' μ' u v
  | _, _, .non => .non
  | _, _, .bl b => .bl b
  | _, _, .int i => .int i
  | _, _, .str x => .str x
  | _, _, .tup h t => .tup (s.kt _ _ h) (RUs.mo s t)
  | _, _, .rol h t => .rol (h.imp (fun ⟨o, q⟩ => ⟨o, s.fz _ _ _ q⟩) id) (RUs.mo s t)
  | _, _, .ref h => .ref (s.at h)
  | _, _, .ob v => .ob v
theorem RUs.mo (s : Mono K μ H μ' H') : ∀ {us : List U} {vs : List V}, RUs K H μ us vs → RUs K H' μ' us vs
  | _, _, .nil => .nil
  | _, _, .cons h t => .cons (RU.mo s h) (RUs.mo s t)
end
theorem RU.step (s : Step K μ H μ' H') {u : U} {v : V} (r : RU K H μ u v) : RU K H' μ' u v := r.mo s.mono
theorem RUs.step (s : Step K μ H μ' H') {us : List U} {vs : List V} (r : RUs K H μ us vs) : RUs K H' μ' us vs := r.mo s.mono
theorem RUs.length : ∀ {us : List U} {vs : List V}, RUs K H μ us vs → us.length = vs.length
  | _, _, .nil => rfl
  | _, _, .cons _ t => congrArg (· + 1) (RUs.length t)
theorem RUs.append : ∀ {us us' : List U} {vs vs' : List V}, RUs K H μ us vs → RUs K H μ us' vs' → RUs K H μ (us ++ us') (vs ++ vs')
  | _, _, _, _, .nil, h => h
  | _, _, _, _, .cons a t, h => .cons a (RUs.append t h)
theorem RUs.get : ∀ {us : List U} {vs : List V} {i : Nat} {u : U}, RUs K H μ us vs → us[i]? = some u → ∃ v, vs[i]? = some v ∧ RU K H μ u v
  | _, _, _, _, .nil, e => by simp at e
  | _, _, 0, _, .cons h _, e => by simp at e; subst e; exact ⟨_, rfl, h⟩
  | _, _, i + 1, _, .cons _ t, e => by
    obtain ⟨v, h1, h2⟩ := RUs.get (i := i) t (by simpa using e)
    exact ⟨v, by simpa using h1, h2⟩
theorem RUs.get' : ∀ {us : List U} {vs : List V} {i : Nat} {v : V}, RUs K H μ us vs → vs[i]? = some v → ∃ u, us[i]? = some u ∧ RU K H μ u v
  | _, _, _, _, .nil, e => by simp at e
  | _, _, 0, _, .cons h _, e => by simp at e; subst e; exact ⟨_, rfl, h⟩
  | _, _, i + 1, _, .cons _ t, e => by
    obtain ⟨v, h1, h2⟩ := RUs.get' (i := i) t (by simpa using e)
    exact ⟨v, by simpa using h1, h2⟩
theorem RUs.take : ∀ {us : List U} {vs : List V} (n : Nat), RUs K H μ us vs → RUs K H μ (us.take n) (vs.take n)
  | _, _, 0, _ => .nil
  | _, _, _ + 1, .nil => .nil
  | _, _, n + 1, .cons r t => .cons r (RUs.take n t)
theorem RUs.drop : ∀ {us : List U} {vs : List V} (n : Nat), RUs K H μ us vs → RUs K H μ (us.drop n) (vs.drop n)
  | _, _, 0, r => r
  | _, _, _ + 1, .nil => .nil
  | _, _, n + 1, .cons _ t => RUs.drop n t
theorem RUs.set : ∀ {us : List U} {vs : List V} (i : Nat) {u : U} {v : V}, RU K H μ u v → RUs K H μ us vs → RUs K H μ (us.set i u) (vs.set i v)
  | _, _, _, _, _, _, .nil => .nil
  | _, _, 0, _, _, r, .cons _ t => .cons r t
  | _, _, i + 1, _, _, r, .cons q t => .cons q (RUs.set i r t)
theorem RUs.rep {us : List U} {vs : List V} (h : RUs K H μ us vs) : ∀ k : Nat, RUs K H μ (List.replicate k us).flatten (List.replicate k vs).flatten
  | 0 => .nil
  | k + 1 => by
    rw [List.replicate_succ, List.replicate_succ, List.flatten_cons, List.flatten_cons]
    exact h.append (RUs.rep h k)
theorem RUs.reverse : ∀ {us : List U} {vs : List V}, RUs K H μ us vs → RUs K H μ us.reverse vs.reverse
  | _, _, .nil => .nil
  | _, _, .cons h t => by
    rw [List.reverse_cons, List.reverse_cons]
    exact (RUs.reverse t).append (.cons h .nil)
theorem RUs.ints : ∀ ns : List Int, RUs K H μ (ns.map U.int) (ns.map V.int)
  | [] => .nil
  | n :: r => .cons (.int n) (RUs.ints r)
theorem RUs.vints : ∀ {ns : List Int} {vs : List V}, RUs K H μ (ns.map U.int) vs → vs = ns.map V.int
  | [], _, h => by cases h; rfl
  | n :: r, _, h => by
    cases h with
    | cons a t =>
      cases a
      rw [RUs.vints t]; rfl
end

/-! ### memory -/
def COk (K : PySem.W.Frag) (H : Hp) (μ : List Addr) : Cell → Addr → Prop
  | .lst us, a => ∃ vs, H a = some (.lst vs) ∧ RUs K H μ us vs
  | .dK kvs, a => ∃ vs, H a = some (.dK vs) ∧ Paired (fun (p : Key × U) (q : Key × V) => p.1 = q.1 ∧ RU K H μ p.2 q.2) kvs vs
  | .dT kvs, a => ∃ vs, H a = some (.dT vs) ∧ Paired (fun (p : List Key × U) (q : List Key × V) => p.1 = q.1 ∧ RU K H μ p.2 q.2) kvs vs
structure MOk (K : PySem.W.Frag) (H : Hp) (μ : List Addr) (m : Mem) : Prop where
  len : μ.length = m.length
  nd : μ.Nodup
  cell : ∀ (n : Nat) (a : Addr) (c : Cell), μ[n]? = some a → m[n]? = some c → COk K H μ c a
section
variable {K : PySem.W.Frag} {H H' : Hp} {μ μ' : List Addr} {m : Mem}
/-- what a cell's object may be -/
def isC : HO → Bool
  | .lst _ => true
  | .dK _ => true
  | .dT _ => true
  | _ => false
theorem COk.is {c : Cell} {a : Addr} (h : COk K H μ c a) : ∃ o, H a = some o ∧ isC o = true := by
  cases c with
  | lst us => obtain ⟨vs, e, _⟩ := h; exact ⟨_, e, rfl⟩
  | dK us => obtain ⟨vs, e, _⟩ := h; exact ⟨_, e, rfl⟩
  | dT us => obtain ⟨vs, e, _⟩ := h; exact ⟨_, e, rfl⟩
theorem MOk.at (M : MOk K H μ m) {n : Nat} {c : Cell} (h : m[n]? = some c) : ∃ a, μ[n]? = some a ∧ COk K H μ c a := by
  have hl : n < μ.length := by rw [M.len]; exact (List.getElem?_eq_some_iff.mp h).1
  exact ⟨μ[n], List.getElem?_eq_getElem hl, M.cell n _ c (List.getElem?_eq_getElem hl) h⟩
theorem MOk.is (M : MOk K H μ m) {a : Addr} (h : a ∈ μ) : ∃ o, H a = some o ∧ isC o = true := by
  obtain ⟨n, hn⟩ := List.getElem?_of_mem h
  have hl : n < m.length := by rw [← M.len]; exact (List.getElem?_eq_some_iff.mp hn).1
  exact (M.cell n a m[n] hn (List.getElem?_eq_getElem hl)).is
theorem MOk.nin (M : MOk K H μ m) {a : Addr} (h : H a = none) : a ∉ μ := fun z => by
  obtain ⟨o, e, _⟩ := M.is z
  rw [h] at e; cases e
theorem MOk.ninT (M : MOk K H μ m) {a : Addr} {o : HO} (h : H a = some o) (ho : isC o = false) : a ∉ μ := fun z => by
  obtain ⟨u, e, q⟩ := M.is z
  rw [h] at e; cases e; rw [ho] at q; cases q
theorem COk.mo {c : Cell} {a : Addr} (s : Mono K μ H μ' H') (e : H' a = H a) (h : COk K H μ c a) : COk K H' μ' c a := by
  cases c with
  | lst us => obtain ⟨vs, q, r⟩ := h; exact ⟨vs, e.trans q, r.mo s⟩
  | dK kvs => obtain ⟨vs, q, r⟩ := h; exact ⟨vs, e.trans q, Paired.mapP r fun p q z => ⟨z.1, z.2.mo s⟩⟩
  | dT kvs => obtain ⟨vs, q, r⟩ := h; exact ⟨vs, e.trans q, Paired.mapP r fun p q z => ⟨z.1, z.2.mo s⟩⟩
theorem COk.step {c : Cell} {a : Addr} (s : Step K μ H μ' H') (e : H' a = H a) (h : COk K H μ c a) : COk K H' μ' c a := h.mo s.mono e
/-- nothing of the cells changed -/
theorem MOk.mo (M : MOk K H μ m) (s : Mono K μ H μ H') (e : ∀ a ∈ μ, H' a = H a) : MOk K H' μ m :=
  ⟨M.len, M.nd, fun n a c h1 h2 => (M.cell n a c h1 h2).mo s (e a (List.mem_of_getElem? h1))⟩
theorem MOk.step (M : MOk K H μ m) (s : Step K μ H μ H') (e : ∀ a ∈ μ, H' a = H a) : MOk K H' μ m := M.mo s.mono e
theorem kt_new {p : Addr} {o : HO} (hp : H p = none) : ∀ a xs, SqT K H a xs → SqT K (upd H p o) a xs := fun a xs h => by
  rcases h with (h | ⟨u, h⟩) | h
  · exact .inl (.inl (by rw [upd_ne (ne_of_none h hp)]; exact h))
  · exact .inl (.inr ⟨u, by rw [upd_ne (ne_of_none h hp)]; exact h⟩)
  · exact .inr h
theorem kt_set {p : Addr} {o u : HO} (hp : H p = some u) (hu : isC u = true) : ∀ a xs, SqT K H a xs → SqT K (upd H p o) a xs := fun a xs h => by
  have ne : ∀ v, H a = some v → isC v = false → a ≠ p := fun v e q z => by
    subst z; rw [hp] at e; cases e; rw [hu] at q; cases q
  rcases h with (h | ⟨w, h⟩) | h
  · exact .inl (.inl (by rw [upd_ne (ne _ h rfl)]; exact h))
  · exact .inl (.inr ⟨w, by rw [upd_ne (ne _ h rfl)]; exact h⟩)
  · exact .inr h
theorem Step.newT {p : Addr} {o : HO} (hp : H p = none) : Step K μ H μ (upd H p o) :=
  ⟨⟨[], by simp⟩, fun b u h _ _ => by rw [upd_ne (ne_of_none h hp)]; exact h, fun b u h n => ⟨n, u, by rw [upd_ne (ne_of_none h hp)]; exact h⟩, kt_new hp, fun b u x h => by rw [upd_ne (ne_of_none h hp)]; exact h⟩
theorem Step.newC {p : Addr} {o : HO} (hp : H p = none) : Step K μ H (μ ++ [p]) (upd H p o) :=
  ⟨⟨[p], rfl⟩, fun b u h _ _ => by rw [upd_ne (ne_of_none h hp)]; exact h, fun b u h n => ⟨fun z => by
      rcases List.mem_append.mp z with z | z
      · exact n z
      · exact ne_of_none h hp (by simpa using z), u, by rw [upd_ne (ne_of_none h hp)]; exact h⟩, kt_new hp, fun b u x h => by rw [upd_ne (ne_of_none h hp)]; exact h⟩
theorem Step.set {p : Addr} {o u : HO} (hm : p ∈ μ) (hp : H p = some u) (hu : isC u = true) : Step K μ H μ (upd H p o) := by
  have ne : ∀ b, b ∉ μ → b ≠ p := fun b n z => n (z ▸ hm)
  refine ⟨⟨[], by simp⟩, fun b v h n _ => by rw [upd_ne (ne b n)]; exact h, fun b v h n => ⟨n, v, by rw [upd_ne (ne b n)]; exact h⟩, kt_set hp hu, fun b v x h => ?_⟩
  rw [upd_ne fun z => by subst z; rw [hp] at h; cases h; cases hu]; exact h
theorem MOk.newT (M : MOk K H μ m) {p : Addr} {o : HO} (hp : H p = none) : MOk K (upd H p o) μ m :=
  M.step (Step.newT hp) fun a ha => by
    obtain ⟨o', e, _⟩ := M.is ha
    rw [upd_ne (ne_of_none e hp)]
theorem MOk.newC (M : MOk K H μ m) {p : Addr} {o : HO} {c : Cell} (hp : H p = none) (hc : COk K (upd H p o) (μ ++ [p]) c p) : MOk K (upd H p o) (μ ++ [p]) (m ++ [c]) := by
  refine ⟨by simp [M.len], ?_, fun n a d h1 h2 => ?_⟩
  · rw [List.nodup_append]
    exact ⟨M.nd, by simp, fun x hx y hy e => M.nin hp (by rw [← (by simpa using hy : y = p), ← e]; exact hx)⟩
  · by_cases hn : n < μ.length
    · rw [List.getElem?_append_left hn] at h1
      rw [List.getElem?_append_left (by rw [← M.len]; exact hn)] at h2
      refine (M.cell n a d h1 h2).step (Step.newC hp) ?_
      obtain ⟨o', e, _⟩ := M.is (List.mem_of_getElem? h1)
      rw [upd_ne (ne_of_none e hp)]
    · rw [List.getElem?_append_right (Nat.le_of_not_lt hn)] at h1
      rw [List.getElem?_append_right (by rw [← M.len]; exact Nat.le_of_not_lt hn)] at h2
      have h1' : a = p ∧ n - μ.length = 0 := by
        cases e : n - μ.length with
        | zero => rw [e] at h1; simp at h1; exact ⟨h1.symm, rfl⟩
        | succ k => rw [e] at h1; simp at h1
      rw [M.len] at h1'
      rw [h1'.2] at h2
      simp at h2
      subst h2
      rw [h1'.1]
      exact hc
theorem nodup_inj {l : List Addr} (h : l.Nodup) {i j : Nat} {a : Addr} (hi : l[i]? = some a) (hj : l[j]? = some a) : i = j := by
  obtain ⟨h1, e1⟩ := List.getElem?_eq_some_iff.mp hi
  obtain ⟨h2, e2⟩ := List.getElem?_eq_some_iff.mp hj
  exact (List.getElem_inj h).mp (e1.trans e2.symm)
theorem MOk.set (M : MOk K H μ m) {n : Nat} {p : Addr} {o u : HO} {c : Cell} (hn : μ[n]? = some p) (hp : H p = some u) (hu : isC u = true) (hc : COk K (upd H p o) μ c p) : MOk K (upd H p o) μ (m.set n c) := by
  have hm := List.mem_of_getElem? hn
  refine ⟨by simp [M.len], M.nd, fun k a d h1 h2 => ?_⟩
  by_cases hk : k = n
  · subst hk
    have hl : k < m.length := by rw [← M.len]; exact (List.getElem?_eq_some_iff.mp hn).1
    rw [List.getElem?_set_self hl] at h2
    cases h2
    rw [hn] at h1; cases h1
    exact hc
  · rw [List.getElem?_set_ne (Ne.symm hk)] at h2
    refine (M.cell k a d h1 h2).step (Step.set hm hp hu) ?_
    rw [upd_ne fun z => hk (nodup_inj M.nd h1 (by rw [z]; exact hn))]
end

/-! ### slots -/
structure EOk (K : PySem.W.Frag) (H : Hp) (μ : List Addr) (ρ : Env) (σ : St) : Prop where
  len : ρ.length = σ.length
  at_ : ∀ (i : Nat) (u : U), ρ[i]? = some (some u) → ∃ v, σ[i]? = some (some v) ∧ RU K H μ u v
section
variable {K : PySem.W.Frag} {H H' : Hp} {μ μ' : List Addr} {ρ : Env} {σ : St}
theorem EOk.mo (E : EOk K H μ ρ σ) (s : Mono K μ H μ' H') : EOk K H' μ' ρ σ := ⟨E.len, fun i u h => let ⟨v, e, r⟩ := E.at_ i u h; ⟨v, e, r.mo s⟩⟩
theorem EOk.step (E : EOk K H μ ρ σ) (s : Step K μ H μ' H') : EOk K H' μ' ρ σ := E.mo s.mono
theorem EOk.set (E : EOk K H μ ρ σ) {i : Nat} {u : U} {v : V} (r : RU K H μ u v) : EOk K H μ (ρ.set i (some u)) (σ.set i (some v)) := by
  refine ⟨by simp [E.len], fun j w h => ?_⟩
  by_cases hj : j = i
  · subst hj
    have hl : j < ρ.length := by
      have := (List.getElem?_eq_some_iff.mp h).1
      simpa using this
    rw [List.getElem?_set_self hl] at h
    cases h
    exact ⟨v, by rw [List.getElem?_set_self (by rw [← E.len]; exact hl)], r⟩
  · rw [List.getElem?_set_ne (Ne.symm hj)] at h
    obtain ⟨x, e, q⟩ := E.at_ j w h
    exact ⟨x, by rw [List.getElem?_set_ne (Ne.symm hj)]; exact e, q⟩
end

/-! ### results -/
def ExOk (K : PySem.W.Frag) (H : Hp) (μ : List Addr) (x : Ex) (d : Option Addr) : Prop := match x.val with
  | none => d = none
  | some u => ∃ (a : Addr) (f : Str) (v : V), d = some a ∧ H a = some (.xd [(f, v)]) ∧ RU K H μ u v
/-- what is wanted of a result, where one stands -/
def Post {α : Type} (w : W0) (W : WX) (σ : St) (μ : List Addr) (H : Hp) (r : R α) (P : List Addr → Hp → Mem → α → Prop) : Prop := match r with
  | .ok a m => ∀ μ' H', Step w.K μ H μ' H' → MOk w.K H' μ' m → P μ' H' m a
  | .err x m => ∀ μ' H' d, Step w.K μ H μ' H' → MOk w.K H' μ' m → ExOk w.K H' μ' x d → W (.ref (w.cls x.cls)) d σ H'
  | .bad => False
section
variable {w : W0} {W : WX} {σ : St} {μ μ' : List Addr} {H H' : Hp} {α β : Type}
theorem Post.from {r : R α} {P : List Addr → Hp → Mem → α → Prop} (p : Post w W σ μ H r P) (s : Step w.K μ H μ' H') : Post w W σ μ' H' r P := by
  cases r with
  | ok a m => exact fun μ2 H2 s2 M => p μ2 H2 (s.trans s2) M
  | err x m => exact fun μ2 H2 d s2 M e => p μ2 H2 d (s.trans s2) M e
  | bad => exact p
theorem Post.bind {r : R α} {k : α → Mem → R β} {P : List Addr → Hp → Mem → β → Prop} (p : Post w W σ μ H (r.bind k) P) : Post w W σ μ H r fun μ1 H1 m1 a => Post w W σ μ1 H1 (k a m1) P := by
  cases r with
  | ok a m => exact fun μ1 H1 s1 M1 => Post.from p s1
  | err x m => exact p
  | bad => exact p
theorem Post.imp {r : R α} {P P' : List Addr → Hp → Mem → α → Prop} (p : Post w W σ μ H r P) (h : ∀ μ1 H1 m1 a, Step w.K μ H μ1 H1 → MOk w.K H1 μ1 m1 → P μ1 H1 m1 a → P' μ1 H1 m1 a) : Post w W σ μ H r P' := by
  cases r with
  | ok a m => exact fun μ1 H1 s1 M1 => h _ _ _ _ s1 M1 (p μ1 H1 s1 M1)
  | err x m => exact p
  | bad => exact p
/-- the value where it stands -/
theorem Post.ok_at {a : α} {m : Mem} {P : List Addr → Hp → Mem → α → Prop} (p : Post w W σ μ H (.ok a m) P) (M : MOk w.K H μ m) : P μ H m a := p μ H .refl M
end
end Ev

set_option Elab.async false
set_option linter.all false
set_option maxRecDepth 100000
set_option maxHeartbeats 2000000
/-! Ev: expressions as functions from slots and memory to a result. -/
namespace Ev
open PySem PySem.Spec L2

abbrev XD := Env → Mem → R U
abbrev XL := Env → Mem → R (List U)
abbrev XT := Env → Mem → R Bool
def rdE (w : W0) (W : WX) (f : XD) : TE := fun σ H Q => ∃ ρ m μ, EOk w.K H μ ρ σ ∧ MOk w.K H μ m ∧ Post w W σ μ H (f ρ m) fun μ' H' _ u => ∀ v, RU w.K H' μ' u v → Q v H'
def rdL (w : W0) (W : WX) (f : XL) : TA := fun σ H Q => ∃ ρ m μ, EOk w.K H μ ρ σ ∧ MOk w.K H μ m ∧ Post w W σ μ H (f ρ m) fun μ' H' _ us => ∀ vs, RUs w.K H' μ' us vs → Q vs H'
def rdT (w : W0) (W : WX) (f : XT) : TT := fun σ H Q => ∃ ρ m μ, EOk w.K H μ ρ σ ∧ MOk w.K H μ m ∧ Post w W σ μ H (f ρ m) fun _ H' _ b => Q b H'
abbrev wX (X : Cx) (c : Nat → Addr) : W0 := ⟨X.K, c⟩
abbrev SE (X : Cx) (c : Nat → Addr) (W : WX) (e : Expr) (f : XD) : Prop := PE X e (rdE (wX X c) W f)
abbrev SL (X : Cx) (c : Nat → Addr) (W : WX) (e : List Expr) (f : XL) : Prop := PA X e (rdL (wX X c) W f)
abbrev ST (X : Cx) (c : Nat → Addr) (W : WX) (e : Expr) (f : XT) : Prop := PT X e (rdT (wX X c) W f)
section
variable {X : Cx}
theorem _root_.L2.PE.imp {e : Expr} {t t' : TE} (h : PE X e t) (i : ∀ σ H Q, t' σ H Q → t σ H Q) : PE X e t' := ⟨fun p s σ H Q I q => h.run p s σ H Q I (i _ _ _ q)⟩
theorem _root_.L2.PT.imp {e : Expr} {t t' : TT} (h : PT X e t) (i : ∀ σ H Q, t' σ H Q → t σ H Q) : PT X e t' := ⟨fun p s σ H Q I q => h.run p s σ H Q I (i _ _ _ q)⟩
theorem _root_.L2.PW.imp {e : Expr} {t t' : TT} (h : PW X e t) (i : ∀ σ H Q, t' σ H Q → t σ H Q) : PW X e t' := ⟨fun wh p s σ H Q I q => h.run wh p s σ H Q I (i _ _ _ q)⟩
theorem _root_.L2.PA.imp {e : List Expr} {t t' : TA} (h : PA X e t) (i : ∀ σ H Q, t' σ H Q → t σ H Q) : PA X e t' := ⟨fun po p s σ H Q I q => h.run po p s σ H Q I (i _ _ _ q)⟩
theorem _root_.L2.OpR.imp {f : Value → Value → Sem Value} {r r' : R2} (h : OpR X f r) (i : ∀ x y H Q, r' x y H Q → r x y H Q) : OpR X f r' := fun p s σ H x y v u Q I rx ry q => h p s σ H x y v u Q I rx ry (i _ _ _ _ q)
theorem _root_.L2.CallR.imp {f : Value} {r r' : List V → Hp → VK → Prop} (h : CallR X f r) (i : ∀ xs H Q, r' xs H Q → r xs H Q) : CallR X f r' := fun p s σ H xs us Q I rx q => h p s σ H xs us Q I rx (i _ _ _ q)
end

/-! ### operations: a value and a memory, or nothing -/
abbrev O (α : Type) := Option (α × Mem)
def ofO {α : Type} : O α → R α
  | some (a, m) => .ok a m
  | none => .bad
def PostO {α : Type} (K : PySem.W.Frag) (μ : List Addr) (H : Hp) (o : O α) (P : List Addr → Hp → Mem → α → Prop) : Prop := match o with
  | some (a, m) => ∀ μ' H', Step K μ H μ' H' → MOk K H' μ' m → P μ' H' m a
  | none => False
theorem Post.o {α : Type} {w : W0} {W : WX} {σ : L2.St} {μ : List Addr} {H : Hp} {o : O α} {P : List Addr → Hp → Mem → α → Prop} (p : Post w W σ μ H (ofO o) P) : PostO w.K μ H o P := by
  cases o with
  | none => exact p
  | some a => exact p
/-- a two-place operation's reading -/
def rd2 (K : PySem.W.Frag) (F : U → U → Mem → O U) : R2 := fun x y H Q => ∃ u1 u2 m μ, RU K H μ u1 x ∧ RU K H μ u2 y ∧ MOk K H μ m ∧ PostO K μ H (F u1 u2 m) fun μ' H' _ z => ∀ v, RU K H' μ' z v → Q v H'
def rd1 (K : PySem.W.Frag) (F : U → Mem → O U) : V → Hp → VK → Prop := fun x H Q => ∃ u1 m μ, RU K H μ u1 x ∧ MOk K H μ m ∧ PostO K μ H (F u1 m) fun μ' H' _ z => ∀ v, RU K H' μ' z v → Q v H'
def rdC (K : PySem.W.Frag) (F : List U → Mem → O U) : List V → Hp → VK → Prop := fun xs H Q => ∃ us m μ, RUs K H μ us xs ∧ MOk K H μ m ∧ PostO K μ H (F us m) fun μ' H' _ z => ∀ v, RU K H' μ' z v → Q v H'
section
variable {K : PySem.W.Frag} {μ : List Addr} {H : Hp} {m : Mem} {α : Type}
theorem PostO.here {a : α} {P : List Addr → Hp → Mem → α → Prop} (p : PostO K μ H (some (a, m)) P) (M : MOk K H μ m) : P μ H m a := p μ H .refl M
/-- a plain value, the memory as it is -/
theorem PostO.val {z : U} {v : V} {Q : VK} (p : PostO K μ H (some (z, m)) fun μ' H' _ z => ∀ v, RU K H' μ' z v → Q v H') (M : MOk K H μ m) (r : RU K H μ z v) : Q v H := p.here M v r
/-- a new tuple -/
theorem PostO.tup {us : List U} {vs : List V} {Q : VK} (p : PostO K μ H (some (.tup us, m)) fun μ' H' _ z => ∀ v, RU K H' μ' z v → Q v H') (M : MOk K H μ m) (r : RUs K H μ us vs) {a : Addr} (ha : H a = none) : Q (.ref a) (upd H a (.tup vs)) :=
  p μ _ (.newT ha) (M.newT ha) _ (.tup (SqT.of upd_same) (r.step (.newT ha)))
/-- a new list -/
theorem PostO.lst {us : List U} {vs : List V} {Q : VK} (p : PostO K μ H (some (.ref m.length, m ++ [.lst us])) fun μ' H' _ z => ∀ v, RU K H' μ' z v → Q v H') (M : MOk K H μ m) (r : RUs K H μ us vs) {a : Addr} (ha : H a = none) : Q (.ref a) (upd H a (.lst vs)) :=
  p (μ ++ [a]) _ (.newC ha) (M.newC ha ⟨vs, upd_same, r.step (.newC ha)⟩) _ (.ref (by rw [← M.len]; simp))
end
/-- the items of a list or tuple -/
def itemsOf (m : Mem) : U → Option (List U)
  | .tup us => some us
  | .rol us => some us
  | .ref n => match m[n]? with
    | some (.lst us) => some us
    | _ => none
  | _ => none
def isT : U → Bool
  | .tup _ => true
  | _ => false
section
variable {K : PySem.W.Frag} {μ : List Addr} {H : Hp} {m : Mem}
theorem rol_sq {a : Addr} {vs : List V} (h : (∃ o, H a = some (.frz o (.lst vs))) ∨ SqL K (fun _ => none) a vs) : SqL K H a vs := by
  rcases h with ⟨o, h⟩ | (h | ⟨o, h⟩) | h
  · exact .inl (.inr ⟨o, h⟩)
  · cases h
  · cases h
  · exact .inr h
theorem items_ok (M : MOk K H μ m) {u : U} {v : V} {us : List U} (r : RU K H μ u v) (h : itemsOf m u = some us) : ∃ a vs, v = .ref a ∧ (SqL K H a vs ∨ SqT K H a vs) ∧ RUs K H μ us vs ∧ (isT u = true → SqT K H a vs) ∧ (isT u = false → SqL K H a vs) := by
  cases r with
  | tup hs t => cases h; exact ⟨_, _, rfl, .inr hs, t, (fun _ => hs), (fun z => nomatch (show true = false from z))⟩
  | rol hs t => cases h; exact ⟨_, _, rfl, .inl (rol_sq hs), t, (fun z => nomatch (show false = true from z)), fun _ => rol_sq hs⟩
  | @ref n a hn =>
    cases e : m[n]? with
    | none => simp [itemsOf, e] at h
    | some c =>
      cases c with
      | lst us' =>
        simp [itemsOf, e] at h
        subst h
        obtain ⟨vs, q, t⟩ := M.cell n a _ hn e
        exact ⟨a, vs, rfl, .inl (SqL.of q), t, (fun z => nomatch (show false = true from z)), fun _ => SqL.of q⟩
      | dK _ => simp [itemsOf, e] at h
      | dT _ => simp [itemsOf, e] at h
  | _ => cases h
end

/-! ### data -/
mutual
def datR (res : Nat → Option PyData) : U → Option PyData
  | .non => some .none
  | .bl b => some (.bool b)
  | .int i => some (.int i)
  | .str x => some (.str x)
  | .tup us => (datRL res us).map .tuple
  | .rol us => (datRL res us).map .list
  | .ref n => res n
  | .ob _ => none
def datRL (res : Nat → Option PyData) : List U → Option (List PyData)
  | [] => some []
  | u :: us => match datR res u with
    | none => none
    | some d => (datRL res us).map (d :: ·)
end
def resM (m : Mem) : Nat → Nat → Option PyData
  | 0, _ => none
  | n + 1, k => match m[k]? with
    | some (.lst us) => (datRL (resM m n) us).map .list
    | _ => none
def dat (m : Mem) (u : U) : Option PyData := datR (resM m 6) u
section
variable {K : PySem.W.Frag} {μ : List Addr} {H : Hp} {m : Mem}
mutual
theorem datR_ok {res : Nat → Option PyData} (hr : ∀ k d a, res k = some d → μ[k]? = some a → Dp K H (.ref a) d) : ∀ {u : U} {v : V} {d : PyData}, RU K H μ u v → datR res u = some d → Dp K H v d
  | _, _, _, .non, e => by cases e; exact .non
  | _, _, _, .bl b, e => by cases e; exact .bl b
  | _, _, _, .int i, e => by cases e; exact .int i
  | _, _, _, .str x, e => by cases e; exact .str x
  | .tup us, _, d, .tup h t, e => by
    rw [datR] at e
    cases q : datRL res us with
    | none => rw [q] at e; cases e
    | some ds => rw [q] at e; cases e; exact .tup h (datRL_ok hr t q)
  | .rol us, _, d, .rol h t, e => by
    rw [datR] at e
    cases q : datRL res us with
    | none => rw [q] at e; cases e
    | some ds => rw [q] at e; cases e; exact .lst (rol_sq h) (datRL_ok hr t q)
  | _, _, _, .ref h, e => hr _ _ _ e h
  | _, _, _, .ob v, e => by cases e
theorem datRL_ok {res : Nat → Option PyData} (hr : ∀ k d a, res k = some d → μ[k]? = some a → Dp K H (.ref a) d) : ∀ {us : List U} {vs : List V} {ds : List PyData}, RUs K H μ us vs → datRL res us = some ds → DpAll K H vs ds
  | _, _, _, .nil, e => by cases e; exact .nil
  | u :: us, _, ds, .cons h t, e => by
    rw [datRL] at e
    cases q : datR res u with
    | none => rw [q] at e; cases e
    | some d =>
      rw [q] at e
      cases q2 : datRL res us with
      | none => rw [q2] at e; cases e
      | some ds' => rw [q2] at e; cases e; exact .cons (datR_ok hr h q) (datRL_ok hr t q2)
end
theorem resM_ok (M : MOk K H μ m) : ∀ (n k : Nat) (d : PyData) (a : Addr), resM m n k = some d → μ[k]? = some a → Dp K H (.ref a) d
  | 0, _, _, _, e, _ => by cases e
  | n + 1, k, d, a, e, h => by
    rw [resM] at e
    cases q : m[k]? with
    | none => rw [q] at e; cases e
    | some c =>
      rw [q] at e
      cases c with
      | lst us =>
        simp only at e
        cases q2 : datRL (resM m n) us with
        | none => rw [q2] at e; cases e
        | some ds =>
          rw [q2] at e; cases e
          obtain ⟨vs, hs, t⟩ := M.cell k a _ h q
          exact .lst (SqL.of hs) (datRL_ok (resM_ok M n) t q2)
      | dK _ => cases e
      | dT _ => cases e
theorem dat_ok (M : MOk K H μ m) {u : U} {v : V} {d : PyData} (r : RU K H μ u v) (e : dat m u = some d) : Dp K H v d := datR_ok (resM_ok M 6) r e
end
end Ev

set_option Elab.async false
set_option linter.all false
set_option maxRecDepth 100000
set_option maxHeartbeats 2000000
/-! Ev: operators and comparisons. -/
namespace Ev
open PySem PySem.Spec L2

/-! ### operators -/
def oAdd : U → U → Mem → O U
  | .int i, .int j, m => some (.int (i + j), m)
  | .int i, .bl k, m => some (.int (i + PyProof.Rows.b2i k), m)
  | .str x, .str y, m => if x.length + y.length ≤ sizeLine then some (.str (x ++ y), m) else none
  | .tup xs, .tup ys, m => if xs.length + ys.length ≤ sizeLine then some (.tup (xs ++ ys), m) else none
  | .ref l, .ref k, m => match m[l]?, m[k]? with
    | some (.lst xs), some (.lst ys) => if xs.length + ys.length ≤ sizeLine then some (.ref m.length, m ++ [.lst (xs ++ ys)]) else none
    | _, _ => none
  | _, _, _ => none
def oSub : U → U → Mem → O U
  | .int i, .int j, m => some (.int (i - j), m)
  | _, _, _ => none
def mulOk (i j : Int) : Bool := decide (i.natAbs < 2 ^ 64) || decide (j.natAbs < 2 ^ 64) || decide (i.natAbs.log2 + j.natAbs.log2 < 1000000)
def oMul : U → U → Mem → O U
  | .int i, .int j, m => if mulOk i j then some (.int (i * j), m) else none
  | .ref l, .int k, m => match m[l]? with
    | some (.lst xs) => if -(2 ^ 63) ≤ k ∧ k < 2 ^ 63 ∧ xs.length * k.toNat ≤ sizeLine then some (.ref m.length, m ++ [.lst (List.replicate k.toNat xs).flatten]) else none
    | _ => none
  | .tup xs, .int k, m => if 0 < xs.length ∧ xs.length ≤ 1000 ∧ 1 < k ∧ k ≤ 1000 then some (.tup (List.replicate k.toNat xs).flatten, m) else none
  | _, _, _ => none
def oDiv : U → U → Mem → O U
  | .int i, .int j, m => if 0 < j ∧ j.natAbs.log2 < 9000 then some (.int (i / j), m) else none
  | _, _, _ => none
def oMod : U → U → Mem → O U
  | .int i, .int j, m => if 0 < j then some (.int (i % j), m) else none
  | _, _, _ => none
def oPow : U → U → Mem → O U
  | .int i, .int j, m => if 0 ≤ j ∧ (Builtin.Int.intBits i : Int) * j ≤ 2 ^ 27 then some (.int (i ^ j.toNat), m) else none
  | _, _, _ => none
def oNeg : U → Mem → O U
  | .int i, m => some (.int (-i), m)
  | _, _ => none
section
variable {X : Cx}
theorem no_op {K : PySem.W.Frag} {μ : List Addr} {H : Hp} {α : Type} {P : List Addr → Hp → Mem → α → Prop} {Z : Prop} (h : PostO K μ H (none : O α) P) : Z := False.elim h
theorem x_add : OpR X (binaryOp .Add) (rd2 X.K oAdd) := by
  intro pins s σ H x y v u Q I rx ry h
  obtain ⟨u1, u2, m, μ, r1, r2, M, p⟩ := h
  unfold oAdd at p
  split at p
  · cases r1; cases r2
    exact op_add pins s σ H _ _ v u Q I rx ry ⟨_, _, rfl, rfl, p.val M (.int _)⟩
  · cases r1; cases r2
    exact op_add_ib pins s σ H _ _ v u Q I rx ry ⟨_, _, rfl, rfl, p.val M (.int _)⟩
  · cases r1; cases r2
    split at p
    · exact op_add_str pins s σ H _ _ v u Q I rx ry ⟨_, _, rfl, rfl, by assumption, p.val M (.str _)⟩
    · exact no_op p
  · cases r1 with
    | tup h1 t1 =>
      cases r2 with
      | tup h2 t2 =>
        split at p
        · rename_i hz
          refine op_catA pins s σ H _ _ v u Q I rx ry ⟨_, _, _, _, rfl, rfl, h1, h2, by rw [← t1.length, ← t2.length]; exact hz, fun e => ?_, fun _ e => ?_, fun _ _ a ha => p.tup M (t1.append t2) ha⟩
          · subst e
            cases t1
            exact p.val M (.tup h2 t2)
          · subst e
            cases t2
            refine p.val M (.tup h1 ?_)
            rw [List.append_nil]; exact t1
        · exact no_op p
  · cases r1 with
    | ref h1 =>
      cases r2 with
      | ref h2 =>
        split at p
        · rename_i xs ys e1 e2
          split at p
          · rename_i hz
            obtain ⟨vs, q1, t1⟩ := M.cell _ _ _ h1 e1
            obtain ⟨ws, q2, t2⟩ := M.cell _ _ _ h2 e2
            exact op_cat pins s σ H _ _ v u Q I rx ry ⟨_, _, _, _, rfl, rfl, q1, q2, by rw [← t1.length, ← t2.length]; exact hz, fun a ha => p.lst M (t1.append t2) ha⟩
          · exact no_op p
        · exact no_op p
  · exact no_op p
theorem x_sub : OpR X (binaryOp .Sub) (rd2 X.K oSub) := by
  intro pins s σ H x y v u Q I rx ry h
  obtain ⟨u1, u2, m, μ, r1, r2, M, p⟩ := h
  unfold oSub at p
  split at p
  · cases r1; cases r2
    exact op_sub pins s σ H _ _ v u Q I rx ry ⟨_, _, rfl, rfl, p.val M (.int _)⟩
  · exact no_op p
theorem mulOk_ok {i j : Int} (h : mulOk i j = true) : IntMulOk i j := by
  unfold mulOk at h
  rw [Bool.or_eq_true, Bool.or_eq_true] at h
  rcases h with (h | h) | h
  · have := of_decide_eq_true h; exact CMul.ok (.inl ⟨by omega, by omega⟩)
  · have := of_decide_eq_true h; exact CMul.ok (.inr ⟨by omega, by omega⟩)
  · exact CMulW.ok (show _ < 1000000 from of_decide_eq_true h)
theorem x_mul : OpR X (binaryOp .Mult) (rd2 X.K oMul) := by
  intro pins s σ H x y v u Q I rx ry h
  obtain ⟨u1, u2, m, μ, r1, r2, M, p⟩ := h
  unfold oMul at p
  split at p
  · cases r1; cases r2
    split at p
    · rename_i hz
      exact opI (C := fun i j => mulOk i j = true) (g := fun i j => i * j) (fun _ _ _ _ _ _ _ hc q => PyProof.Rows.mul_int q (mulOk_ok hc)) pins s σ H _ _ v u Q I rx ry ⟨_, _, rfl, rfl, hz, p.val M (.int _)⟩
    · exact no_op p
  · cases r1 with
    | ref h1 =>
      cases r2
      split at p
      · rename_i xs e1
        split at p
        · rename_i hz
          obtain ⟨vs, q1, t1⟩ := M.cell _ _ _ h1 e1
          exact op_rep pins s σ H _ _ v u Q I rx ry ⟨_, _, _, rfl, rfl, q1, hz.1, hz.2.1, by rw [← t1.length]; exact hz.2.2, fun a ha => p.lst M (t1.rep _) ha⟩
        · exact no_op p
      · exact no_op p
  · cases r1 with
    | tup h1 t1 =>
      cases r2
      split at p
      · rename_i hz
        exact op_repT pins s σ H _ _ v u Q I rx ry ⟨_, _, _, rfl, rfl, h1, (fun e => by subst e; have := t1.length; simp at this; simp [this] at hz), hz.2.2.1, hz.2.2.2, by have := t1.length; omega, fun a ha => p.tup M (t1.rep _) ha⟩
      · exact no_op p
  · exact no_op p
theorem x_div : OpR X (binaryOp .FloorDiv) (rd2 X.K oDiv) := by
  intro pins s σ H x y v u Q I rx ry h
  obtain ⟨u1, u2, m, μ, r1, r2, M, p⟩ := h
  unfold oDiv at p
  split at p
  · cases r1; cases r2
    split at p
    · rename_i hz
      exact op_fdivW pins s σ H _ _ v u Q I rx ry ⟨_, _, rfl, rfl, hz, p.val M (.int _)⟩
    · exact no_op p
  · exact no_op p
theorem x_mod : OpR X (binaryOp .Mod) (rd2 X.K oMod) := by
  intro pins s σ H x y v u Q I rx ry h
  obtain ⟨u1, u2, m, μ, r1, r2, M, p⟩ := h
  unfold oMod at p
  split at p
  · cases r1; cases r2
    split at p
    · rename_i hz
      exact op_mod pins s σ H _ _ v u Q I rx ry ⟨_, _, rfl, rfl, hz, p.val M (.int _)⟩
    · exact no_op p
  · exact no_op p
theorem x_pow : OpR X (binaryOp .Pow) (rd2 X.K oPow) := by
  intro pins s σ H x y v u Q I rx ry h
  obtain ⟨u1, u2, m, μ, r1, r2, M, p⟩ := h
  unfold oPow at p
  split at p
  · cases r1; cases r2
    split at p
    · rename_i hz
      exact opI (C := fun i j => 0 ≤ j ∧ (Builtin.Int.intBits i : Int) * j ≤ 2 ^ 27) (g := fun i j => i ^ j.toNat) (fun _ _ _ _ _ _ _ hc q => PyProof.Rows.pow_int hc.1 hc.2 q) pins s σ H _ _ v u Q I rx ry ⟨_, _, rfl, rfl, hz, p.val M (.int _)⟩
    · exact no_op p
  · exact no_op p
theorem x_neg : UnR X (unaryOp .USub) (rd1 X.K oNeg) := by
  intro pins s σ H x v Q I rx h
  obtain ⟨u1, m, μ, r1, M, p⟩ := h
  unfold oNeg at p
  split at p
  · cases r1
    exact un_neg pins s σ H _ v Q I rx ⟨_, rfl, p.val M (.int _)⟩
  · exact no_op p

/-! ### comparisons -/
def eqU (m : Mem) (u v : U) : Option Bool := match dat m u, dat m v with
  | some d, some e => if SeqAt.shaped d && SeqAt.shaped e then some (PyData.eqv d e) else none
  | _, _ => none
def oEq : U → U → Mem → O U := fun u v m => (eqU m u v).map fun b => (.bl b, m)
def oNe : U → U → Mem → O U := fun u v m => (eqU m u v).map fun b => (.bl (!b), m)
theorem eqU_of {m : Mem} {u v : U} {b : Bool} (h : eqU m u v = some b) : ∃ d e, dat m u = some d ∧ dat m v = some e ∧ SeqAt.shaped d = true ∧ SeqAt.shaped e = true ∧ b = PyData.eqv d e := by
  unfold eqU at h
  split at h
  · rename_i d e h1 h2
    split at h
    · rename_i hs
      rw [Bool.and_eq_true] at hs
      cases h
      exact ⟨d, e, h1, h2, hs.1, hs.2, rfl⟩
    · cases h
  · cases h
theorem x_eq (hu : X.A.units + 64 < cLine) : OpR X (compareOp .Eq) (rd2 X.K oEq) := by
  intro pins s σ H x y v u Q I rx ry h
  obtain ⟨u1, u2, m, μ, r1, r2, M, p⟩ := h
  unfold oEq at p
  cases e : eqU m u1 u2 with
  | none => rw [e] at p; exact no_op p
  | some b =>
    rw [e] at p
    obtain ⟨d, f, h1, h2, s1, s2, rfl⟩ := eqU_of e
    exact op_eqD hu pins s σ H _ _ v u Q I rx ry ⟨d, f, dat_ok M r1 h1, dat_ok M r2 h2, s1, s2, p.val M (.bl _)⟩
theorem x_ne (hu : X.A.units + 64 < cLine) : OpR X (compareOp .NotEq) (rd2 X.K oNe) := by
  intro pins s σ H x y v u Q I rx ry h
  obtain ⟨u1, u2, m, μ, r1, r2, M, p⟩ := h
  unfold oNe at p
  cases e : eqU m u1 u2 with
  | none => rw [e] at p; exact no_op p
  | some b =>
    rw [e] at p
    obtain ⟨d, f, h1, h2, s1, s2, rfl⟩ := eqU_of e
    exact op_neD hu pins s σ H _ _ v u Q I rx ry ⟨d, f, dat_ok M r1 h1, dat_ok M r2 h2, s1, s2, p.val M (.bl _)⟩
def oCmp (fi : Int → Int → Bool) (fs : List Nat → List Nat → Bool) : U → U → Mem → O U
  | .int i, .int j, m => some (.bl (fi i j), m)
  | .str x, .str y, m => some (.bl (fs x.cps.toList y.cps.toList), m)
  | _, _, _ => none
abbrev oLt := oCmp (fun i j => decide (i < j)) fun a b => decide (a < b)
abbrev oLe := oCmp (fun i j => decide (i ≤ j)) fun a b => !decide (b < a)
abbrev oGt := oCmp (fun i j => decide (j < i)) fun a b => decide (b < a)
abbrev oGe := oCmp (fun i j => decide (j ≤ i)) fun a b => !decide (a < b)
theorem x_cmp {op : CmpOp} {fi : Int → Int → Bool} {fs : List Nat → List Nat → Bool} (hi : OpR X (compareOp op) (rI0 fun i j => .bl (fi i j)))
    (hs : OpR X (compareOp op) (fun x y H Q => ∃ i j, x = .str i ∧ y = .str j ∧ Q (.bl (fs i.cps.toList j.cps.toList)) H)) : OpR X (compareOp op) (rd2 X.K (oCmp fi fs)) := by
  intro pins s σ H x y v u Q I rx ry h
  obtain ⟨u1, u2, m, μ, r1, r2, M, p⟩ := h
  unfold oCmp at p
  split at p
  · cases r1; cases r2
    exact hi pins s σ H _ _ v u Q I rx ry ⟨_, _, rfl, rfl, p.val M (.bl _)⟩
  · cases r1; cases r2
    exact hs pins s σ H _ _ v u Q I rx ry ⟨_, _, rfl, rfl, p.val M (.bl _)⟩
  · exact no_op p
theorem x_lt : OpR X (compareOp .Lt) (rd2 X.K oLt) := x_cmp op_lt op_lt_str
theorem x_le : OpR X (compareOp .LtE) (rd2 X.K oLe) := x_cmp op_le op_le_str
theorem x_gt : OpR X (compareOp .Gt) (rd2 X.K oGt) := x_cmp op_gt op_gt_str
theorem x_ge : OpR X (compareOp .GtE) (rd2 X.K oGe) := x_cmp op_ge op_ge_str
def isNon : U → Bool
  | .non => true
  | _ => false
/-- x is None -/
def oIsN : U → U → Mem → O U
  | .ob (.non), _, _ => none
  | u, .non, m => some (.bl (isNon u), m)
  | _, _, _ => none
def oNotN : U → U → Mem → O U
  | .ob (.non), _, _ => none
  | u, .non, m => some (.bl (!isNon u), m)
  | _, _, _ => none
theorem isNon_ok {K : PySem.W.Frag} {H : Hp} {μ : List Addr} {u : U} {x : V} (r : RU K H μ u x) (h : u ≠ .ob .non) : decide (x = .non) = isNon u := by
  cases r with
  | ob v =>
    have : x ≠ .non := fun e => h (by rw [e])
    rw [decide_eq_false this]; rfl
  | _ => rfl
theorem x_isN : OpR X (compareOp .Is) (rd2 X.K oIsN) := by
  intro pins s σ H x y v u Q I rx ry h
  obtain ⟨u1, u2, m, μ, r1, r2, M, p⟩ := h
  unfold oIsN at p
  split at p
  · exact no_op p
  · rename_i hn
    cases r2
    refine op_isN pins s σ H _ _ v u Q I rx ry ⟨rfl, ?_⟩
    rw [isNon_ok r1 hn]
    exact p.val M (.bl _)
  · exact no_op p
theorem x_notN : OpR X (compareOp .IsNot) (rd2 X.K oNotN) := by
  intro pins s σ H x y v u Q I rx ry h
  obtain ⟨u1, u2, m, μ, r1, r2, M, p⟩ := h
  unfold oNotN at p
  split at p
  · exact no_op p
  · rename_i hn
    cases r2
    refine op_notN pins s σ H _ _ v u Q I rx ry ⟨rfl, ?_⟩
    rw [isNon_ok r1 hn]
    exact p.val M (.bl _)
  · exact no_op p
end
end Ev

set_option Elab.async false
set_option linter.all false
set_option maxRecDepth 100000
set_option maxHeartbeats 2000000
/-! Ev: expressions. -/
namespace Ev
open PySem PySem.Spec L2

/-! ### what the pieces mean -/
def dSlot (i : Nat) : XD := fun ρ m => match ρ[i]? with
  | some (some u) => .ok u m
  | _ => .bad
def dC (u : U) : XD := fun _ m => .ok u m
def dOp (F : U → U → Mem → O U) (fa fb : XD) : XD := fun ρ m => (fa ρ m).bind fun u m1 => (fb ρ m1).bind fun v m2 => ofO (F u v m2)
def dUn (F : U → Mem → O U) (fa : XD) : XD := fun ρ m => (fa ρ m).bind fun u m1 => ofO (F u m1)
def dChain (F F' : U → U → Mem → O U) (fa fb fc : XD) : XD := fun ρ m => (fa ρ m).bind fun u m1 => (fb ρ m1).bind fun v m2 => (ofO (F u v m2)).bind fun z m3 => match z with
  | .bl true => (fc ρ m3).bind fun t m4 => ofO (F' v t m4)
  | .bl false => .ok (.bl false) m3
  | _ => .bad
/-- True or False, nothing else -/
def asB {α : Type} (z : U) (k : Bool → R α) : R α := match z with
  | .bl b => k b
  | _ => .bad
def dAnd (fa fb : XD) : XD := fun ρ m => (fa ρ m).bind fun z m1 => asB z fun b => if b then fb ρ m1 else .ok (.bl false) m1
def dOr (fa fb : XD) : XD := fun ρ m => (fa ρ m).bind fun z m1 => asB z fun b => if b then .ok (.bl true) m1 else fb ρ m1
def dNot (fa : XD) : XD := fun ρ m => (fa ρ m).bind fun z m1 => asB z fun b => .ok (.bl (!b)) m1
def dIf (t : XT) (fa fb : XD) : XD := fun ρ m => (t ρ m).bind fun b m1 => if b then fa ρ m1 else fb ρ m1
def lNil : XL := fun _ m => .ok [] m
def lCons (fa : XD) (fr : XL) : XL := fun ρ m => (fa ρ m).bind fun u m1 => (fr ρ m1).bind fun us m2 => .ok (u :: us) m2
def oTup (us : List U) (m : Mem) : O U := if us.length ≤ sizeLine then some (.tup us, m) else none
def oLst (us : List U) (m : Mem) : O U := if us.length ≤ sizeLine then some (.ref m.length, m ++ [.lst us]) else none
def dTup (fr : XL) : XD := fun ρ m => (fr ρ m).bind fun us m1 => ofO (oTup us m1)
def dLst (fr : XL) : XD := fun ρ m => (fr ρ m).bind fun us m1 => ofO (oLst us m1)
def dCall (F : List U → Mem → R U) (fr : XL) : XD := fun ρ m => (fr ρ m).bind fun us m1 => F us m1
def dB (F : List U → Mem → O U) (fr : XL) : XD := fun ρ m => (fr ρ m).bind fun us m1 => ofO (F us m1)
def pNone : Env → Mem → R (Option Int) := fun _ m => .ok none m
def pSome (fa : XD) : Env → Mem → R (Option Int) := fun ρ m => (fa ρ m).bind fun z m1 => match z with
  | .int i => .ok (some i) m1
  | _ => .bad
def cutU (xs : List U) (lo hi : Option Int) : List U := (xs.drop (HT.sIx xs.length 0 lo)).take (HT.sIx xs.length xs.length hi - HT.sIx xs.length 0 lo)
def oSlice (u : U) (lo hi : Option Int) (m : Mem) : O U := match u with
  | .tup us => some (.tup (cutU us lo hi), m)
  | .str z => if z.length ≤ sizeLine then some (.str (cutS z lo hi), m) else none
  | u => match itemsOf m u with
    | some us => some (.ref m.length, m ++ [.lst (cutU us lo hi)])
    | none => none
def dSlice (fa : XD) (lo hi : Env → Mem → R (Option Int)) : XD := fun ρ m => (fa ρ m).bind fun u m1 => (lo ρ m1).bind fun l m2 => (hi ρ m2).bind fun h m3 => ofO (oSlice u l h m3)
def oIx : U → U → Mem → O U
  | .str z, .int i, m => if z.length ≤ sizeLine then (atI z.cps.toList i).map fun c => (.str ⟨#[c]⟩, m) else none
  | u, .int i, m => match itemsOf m u with
    | some us => (atI us i).map fun x => (x, m)
    | none => none
  | _, _, _ => none
/-- truth -/
def truU (m : Mem) : U → Option Bool
  | .non => some false
  | .bl b => some b
  | .int i => some (i != 0)
  | .str z => if z.length ≤ sizeLine then some (z.length != 0) else none
  | .tup us => some (!us.isEmpty)
  | .rol us => some (!us.isEmpty)
  | .ref n => match m[n]? with
    | some (.lst us) => some (!us.isEmpty)
    | some (.dK kvs) => some (!kvs.isEmpty)
    | _ => none
  | .ob _ => none
def ofB {α : Type} (o : Option α) (m : Mem) : R α := match o with
  | some a => .ok a m
  | none => .bad
def tTru (fa : XD) : XT := fun ρ m => (fa ρ m).bind fun z m1 => ofB (truU m1 z) m1
def tBl (fa : XD) : XT := fun ρ m => (fa ρ m).bind fun z m1 => asB z fun b => .ok b m1
def tAn (t u : XT) : XT := fun ρ m => (t ρ m).bind fun b m1 => if b then u ρ m1 else .ok false m1
def tO (t u : XT) : XT := fun ρ m => (t ρ m).bind fun b m1 => if b then .ok true m1 else u ρ m1
def tN (t : XT) : XT := fun ρ m => (t ρ m).bind fun b m1 => .ok (!b) m1

/-! ### they are so -/
section
variable {X : Cx} {c : Nat → Addr} {W : WX} {a b d : Expr} {fa fb fc : XD} {ta tb : XT} {pos : Pos} {fr : XL} {es : List Expr}
theorem se_slot {i : Nat} {x : Str} {pos : Pos} (hN : X.N[i]? = some x) (hv : Vis X.env.scope x) (hd : (x == ("__debug__" : Str)) = false := by decide) (hcd : (x == ("__classdict__" : Str)) = false := by decide) : SE X c W (.Name x pos) (dSlot i) :=
  (pe_var hN hv hd hcd).imp fun σ H Q ⟨ρ, m, μ, E, M, p⟩ => by
    unfold dSlot at p
    split at p
    · rename_i u e
      obtain ⟨v, h1, h2⟩ := E.at_ i u e
      exact ⟨v, h1, p.ok_at M v h2⟩
    · exact False.elim p
theorem se_c {e : Expr} {v : V} {u : U} (h : PE X e (tC v)) (r : ∀ H μ, RU X.K H μ u v) : SE X c W e (dC u) :=
  h.imp fun σ H Q ⟨ρ, m, μ, E, M, p⟩ => p.ok_at M v (r H μ)
theorem se_int {i : Int} {j pos} : SE X c W (.Constant (.int i) j pos) (dC (.int i)) := se_c pe_int fun _ _ => .int i
theorem se_bl {i : Bool} {j pos} : SE X c W (.Constant (.bool i) j pos) (dC (.bl i)) := se_c pe_bl fun _ _ => .bl i
theorem se_non {j pos} : SE X c W (.Constant .none j pos) (dC .non) := se_c pe_non fun _ _ => .non
theorem se_str {x y : Str} {j pos} (h : x = y) : SE X c W (.Constant (.str x) j pos) (dC (.str y)) := by subst h; exact se_c pe_str fun _ _ => .str x
theorem rd2_of {F : U → U → Mem → O U} {σ : L2.St} {H : Hp} {Q : VK} {ρ : Env} {m : Mem} {μ : List Addr} (E : EOk X.K H μ ρ σ) (M : MOk X.K H μ m)
    (p : Post (wX X c) W σ μ H (dOp F fa fb ρ m) fun μ' H' _ u => ∀ v, RU X.K H' μ' u v → Q v H') : tOp (rd2 X.K F) (rdE (wX X c) W fa) (rdE (wX X c) W fb) σ H Q :=
  ⟨ρ, m, μ, E, M, p.bind.imp fun μ1 H1 m1 u s1 M1 p1 v r1 => ⟨ρ, m1, μ1, E.step s1, M1, p1.bind.imp fun μ2 H2 m2 u2 s2 M2 p2 v2 r2 => ⟨u, u2, m2, μ2, r1.step s2, r2, M2, p2.o⟩⟩⟩
theorem se_op {op : Operator} {F : U → U → Mem → O U} (ho : OpR X (binaryOp op) (rd2 X.K F)) (ha : SE X c W a fa) (hb : SE X c W b fb) : SE X c W (.BinOp a op b pos) (dOp F fa fb) :=
  (pe_op ho ha hb).imp fun σ H Q ⟨ρ, m, μ, E, M, p⟩ => rd2_of E M p
theorem se_cmp {op : CmpOp} {F : U → U → Mem → O U} (ho : OpR X (compareOp op) (rd2 X.K F)) (ha : SE X c W a fa) (hb : SE X c W b fb) (hm : behindInMarks op b = false) : SE X c W (.Compare a [op] [b] pos) (dOp F fa fb) :=
  (pe_cmpR ho ha hb hm).imp fun σ H Q ⟨ρ, m, μ, E, M, p⟩ => rd2_of E M p
theorem se_un {op : UnaryOp} {F : U → Mem → O U} (ho : UnR X (unaryOp op) (rd1 X.K F)) (ha : SE X c W a fa) : SE X c W (.UnaryOp op a pos) (dUn F fa) :=
  (pe_un ho ha).imp fun σ H Q ⟨ρ, m, μ, E, M, p⟩ => ⟨ρ, m, μ, E, M, p.bind.imp fun μ1 H1 m1 u s1 M1 p1 v r1 => ⟨u, m1, μ1, r1, M1, p1.o⟩⟩
theorem se_chain {op op' : CmpOp} {F F' : U → U → Mem → O U} (ho : OpR X (compareOp op) (rd2 X.K F)) (ho' : OpR X (compareOp op') (rd2 X.K F')) (ha : SE X c W a fa) (hb : SE X c W b fb) (hc : SE X c W d fc)
    (hm : lastMarks [op, op'] [b, d] = false := by with_unfolding_all rfl) : SE X c W (.Compare a [op, op'] [b, d] pos) (dChain F F' fa fb fc) :=
  (pe_chain ho ho' ha hb hc hm).imp fun σ H Q ⟨ρ, m, μ, E, M, p⟩ => ⟨ρ, m, μ, E, M, p.bind.imp fun μ1 H1 m1 u s1 M1 p1 v r1 => ⟨ρ, m1, μ1, E.step s1, M1, p1.bind.imp fun μ2 H2 m2 u2 s2 M2 p2 v2 r2 =>
    ⟨u, u2, m2, μ2, r1.step s2, r2, M2, by
      have q := p2.bind
      cases e : F u u2 m2 with
      | none => rw [e] at q; exact False.elim q
      | some zm =>
        obtain ⟨z, m3⟩ := zm
        rw [e] at q
        refine fun μ3 H3 s3 M3 w rw_ => ?_
        have q3 := q μ3 H3 s3 M3
        cases z with
        | bl k =>
          cases rw_
          refine ⟨k, rfl, ?_⟩
          cases k with
          | false => exact q3.ok_at M3 _ (.bl false)
          | true =>
            refine ⟨ρ, m3, μ3, ((E.step s1).step s2).step s3, M3, (Post.bind q3).imp fun μ4 H4 m4 t s4 M4 p4 v4 r4 => ?_⟩
            exact ⟨u2, t, m4, μ4, (r2.step s3).step s4, r4, M4, p4.o⟩
        | _ => exact False.elim q3⟩⟩⟩
theorem asB_post {α : Type} {w : W0} {σ : L2.St} {μ : List Addr} {H : Hp} {z : U} {k : Bool → R α} {P : List Addr → Hp → Mem → α → Prop} (p : Post w W σ μ H (asB z k) P) : ∃ b, z = .bl b ∧ Post w W σ μ H (k b) P := by
  cases z with
  | bl b => exact ⟨b, rfl, p⟩
  | _ => exact False.elim p
theorem se_one {op} (h : SE X c W a fa) : SE X c W (.BoolOp op [a] pos) fa := pe_one h
theorem se_and {rest : List Expr} (ha : SE X c W a fa) (hb : SE X c W (.BoolOp .And (b :: rest) pos) fb) : SE X c W (.BoolOp .And (a :: b :: rest) pos) (dAnd fa fb) :=
  (pe_and ha hb).imp fun σ H Q ⟨ρ, m, μ, E, M, p⟩ => ⟨ρ, m, μ, E, M, p.bind.imp fun μ1 H1 m1 u s1 M1 p1 v r1 => by
    obtain ⟨k, e, p2⟩ := asB_post p1
    subst e
    cases r1
    refine ⟨k, rfl, ?_⟩
    cases k with
    | true => exact ⟨ρ, m1, μ1, E.step s1, M1, p2⟩
    | false => exact p2.ok_at M1 _ (.bl false)⟩
theorem se_or {rest : List Expr} (ha : SE X c W a fa) (hb : SE X c W (.BoolOp .Or (b :: rest) pos) fb) : SE X c W (.BoolOp .Or (a :: b :: rest) pos) (dOr fa fb) :=
  (pe_or ha hb).imp fun σ H Q ⟨ρ, m, μ, E, M, p⟩ => ⟨ρ, m, μ, E, M, p.bind.imp fun μ1 H1 m1 u s1 M1 p1 v r1 => by
    obtain ⟨k, e, p2⟩ := asB_post p1
    subst e
    cases r1
    refine ⟨k, rfl, ?_⟩
    cases k with
    | false => exact ⟨ρ, m1, μ1, E.step s1, M1, p2⟩
    | true => exact p2.ok_at M1 _ (.bl true)⟩
theorem se_not (ha : SE X c W a fa) : SE X c W (.UnaryOp .Not a pos) (dNot fa) :=
  (pe_not ha).imp fun σ H Q ⟨ρ, m, μ, E, M, p⟩ => ⟨ρ, m, μ, E, M, p.bind.imp fun μ1 H1 m1 u s1 M1 p1 v r1 => by
    obtain ⟨k, e, p2⟩ := asB_post p1
    subst e
    cases r1
    exact ⟨k, rfl, p2.ok_at M1 _ (.bl _)⟩⟩
theorem se_if (ht : ST X c W d ta) (ha : SE X c W a fa) (hb : SE X c W b fb) : SE X c W (.IfExp d a b pos) (dIf ta fa fb) :=
  (pe_ifExp ht ha hb).imp fun σ H Q ⟨ρ, m, μ, E, M, p⟩ => ⟨ρ, m, μ, E, M, p.bind.imp fun μ1 H1 m1 k s1 M1 p1 => by
    cases k with
    | true => exact ⟨ρ, m1, μ1, E.step s1, M1, p1⟩
    | false => exact ⟨ρ, m1, μ1, E.step s1, M1, p1⟩⟩
theorem sl_nil : SL X c W [] lNil := pa_nil.imp fun σ H Q ⟨ρ, m, μ, E, M, p⟩ => p.ok_at M _ .nil
theorem sl_cons (ha : SE X c W a fa) (hr : SL X c W es fr) (hs : starEach (a :: es) X.env = (false, eval a X.env) :: starEach es X.env := by rfl) : SL X c W (a :: es) (lCons fa fr) :=
  (pa_cons ha hr hs).imp fun σ H Q ⟨ρ, m, μ, E, M, p⟩ => ⟨ρ, m, μ, E, M, p.bind.imp fun μ1 H1 m1 u s1 M1 p1 v r1 => ⟨ρ, m1, μ1, E.step s1, M1, p1.bind.imp fun μ2 H2 m2 us s2 M2 p2 vs rs =>
    p2.ok_at M2 _ (.cons (r1.step s2) rs)⟩⟩
theorem se_tup {x1} (h : SL X c W es fr) : SE X c W (.Tuple es x1 pos) (dTup fr) :=
  (pe_tup h).imp fun σ H Q ⟨ρ, m, μ, E, M, p⟩ => ⟨ρ, m, μ, E, M, p.bind.imp fun μ1 H1 m1 us s1 M1 p1 vs rs => by
    have q := p1.o
    unfold oTup at q
    split at q
    · rename_i hz
      exact ⟨by rw [← rs.length]; exact hz, fun a ha => q.tup M1 rs ha⟩
    · exact no_op q⟩
theorem se_lst (h : SL X c W es fr) : SE X c W (.List es pos) (dLst fr) :=
  (pe_lst h).imp fun σ H Q ⟨ρ, m, μ, E, M, p⟩ => ⟨ρ, m, μ, E, M, p.bind.imp fun μ1 H1 m1 us s1 M1 p1 vs rs => by
    have q := p1.o
    unfold oLst at q
    split at q
    · rename_i hz
      exact ⟨by rw [← rs.length]; exact hz, fun a ha => q.lst M1 rs ha⟩
    · exact no_op q⟩
theorem atI_u {K : PySem.W.Frag} {H : Hp} {μ : List Addr} {us : List U} {vs : List V} {i : Int} {x : U} (r : RUs K H μ us vs) (h : atI us i = some x) : ∃ v, atI vs i = some v ∧ RU K H μ x v := by
  unfold atI at h ⊢
  rw [← r.length]
  cases e : ixN us.length i with
  | none => rw [e] at h; cases h
  | some j =>
    rw [e] at h
    obtain ⟨v, h1, h2⟩ := r.get (i := j) (u := x) h
    exact ⟨v, h1, h2⟩
theorem x_ix : IxR X (rd2 X.K oIx) := by
  intro value slice pins s σ H x y v u Q I rx ry h hs
  obtain ⟨u1, u2, m, μ, r1, r2, M, p⟩ := h
  unfold oIx at p
  split at p
  · cases r1; cases r2
    split at p
    · rename_i hz
      cases e : atI _ _ with
      | none => rw [e] at p; exact no_op p
      | some k =>
        rw [e] at p
        exact ix_str value slice pins s σ H _ _ v u Q I rx ry ⟨_, _, k, rfl, rfl, hz, e, p.val M (.str _)⟩ hs
    · exact no_op p
  · cases r2
    split at p
    · rename_i us e1
      cases e : atI us _ with
      | none => rw [e] at p; exact no_op p
      | some k =>
        rw [e] at p
        obtain ⟨a, vs, rfl, hq, t, _, _⟩ := items_ok M r1 e1
        obtain ⟨z, h1, h2⟩ := atI_u t e
        rcases hq with hq | hq
        · exact ix_list value slice pins s σ H _ _ v u Q I rx ry ⟨_, _, _, z, rfl, rfl, hq, h1, p.val M h2⟩ hs
        · exact ix_tup value slice pins s σ H _ _ v u Q I rx ry ⟨_, _, _, z, rfl, rfl, hq, h1, p.val M h2⟩ hs
    · exact no_op p
  · exact no_op p
theorem se_ix (ha : SE X c W a fa) (hb : SE X c W b fb) (hs : PlainIx b) : SE X c W (.Subscript a b pos) (dOp oIx fa fb) :=
  (pe_ix x_ix ha hb hs).imp fun σ H Q ⟨ρ, m, μ, E, M, p⟩ => rd2_of E M p
/-! slices -/
def rdP (w : W0) (W : WX) (f : Env → Mem → R (Option Int)) : TO := fun σ H Q => ∃ ρ m μ, EOk w.K H μ ρ σ ∧ MOk w.K H μ m ∧ Post w W σ μ H (f ρ m) fun _ H' _ o => Q o H'
abbrev SP (X : Cx) (c : Nat → Addr) (W : WX) (e : Option Expr) (f : Env → Mem → R (Option Int)) : Prop := PO X e (rdP (wX X c) W f)
theorem _root_.L2.PO.imp {e : Option Expr} {t t' : TO} (h : PO X e t) (i : ∀ σ H Q, t' σ H Q → t σ H Q) : PO X e t' := ⟨fun p s σ H Q I q => h.run p s σ H Q I (i _ _ _ q)⟩
theorem sp_none : SP X c W none pNone := L2.PO.imp po_none fun σ H Q ⟨ρ, m, μ, E, M, p⟩ => p.ok_at M
theorem sp_some (h : SE X c W a fa) : SP X c W (some a) (pSome fa) := L2.PO.imp (po_some h) fun σ H Q ⟨ρ, m, μ, E, M, p⟩ => ⟨ρ, m, μ, E, M, p.bind.imp fun μ1 H1 m1 u s1 M1 p1 v r1 => by
  cases r1 with
  | int i => exact ⟨i, rfl, p1.ok_at M1⟩
  | _ => exact False.elim p1⟩
theorem cutU_ok {K : PySem.W.Frag} {H : Hp} {μ : List Addr} {us : List U} {vs : List V} (r : RUs K H μ us vs) (lo hi : Option Int) : RUs K H μ (cutU us lo hi) (cutV vs lo hi) := by
  unfold cutU cutV
  rw [← r.length]
  exact (r.drop _).take _
def rdSl (K : PySem.W.Frag) : V → Option Int → Option Int → Hp → VK → Prop := fun x lo hi H Q => ∃ u m μ, RU K H μ u x ∧ MOk K H μ m ∧ PostO K μ H (oSlice u lo hi m) fun μ' H' _ z => ∀ v, RU K H' μ' z v → Q v H'
theorem sIx_whole {n : Nat} {lo hi : Option Int} {α : Type} {xs : List α} (hn : xs.length = n) (h : HT.sIx n 0 lo = 0 ∧ HT.sIx n n hi = n) : (xs.drop (HT.sIx n 0 lo)).take (HT.sIx n n hi - HT.sIx n 0 lo) = xs := by
  rw [h.1, h.2, List.drop_zero, Nat.sub_zero, ← hn, List.take_length]
theorem x_slice : SlR X (rdSl X.K) := by
  intro pins s σ H x v vl vu lo hi sl Q I rx hs pl pu h
  obtain ⟨u, m, μ, r1, M, p⟩ := h
  unfold oSlice at p
  split at p
  · cases r1 with
    | tup hq t =>
      refine sl_tupA pins s σ H _ v vl vu lo hi sl Q I rx hs pl pu ⟨_, _, rfl, hq, fun hw => p.val M (.tup hq ?_), fun _ a ha => p.tup M (cutU_ok t lo hi) ha⟩
      rw [← t.length] at hw
      rw [cutU, sIx_whole rfl hw]
      exact t
  · cases r1
    split at p
    · rename_i hz
      exact sl_str pins s σ H _ v vl vu lo hi sl Q I rx hs pl pu ⟨_, rfl, hz, p.val M (.str _)⟩
    · exact no_op p
  · rename_i hn1 hn2
    split at p
    · rename_i us e1
      obtain ⟨a, vs, rfl, hq, t, _, h3⟩ := items_ok M r1 e1
      have hT : isT u = false := by
        cases u with
        | tup us => exact absurd rfl (hn1 us)
        | _ => rfl
      exact sl_list pins s σ H _ v vl vu lo hi sl Q I rx hs pl pu ⟨_, _, rfl, h3 hT, fun a ha => p.lst M (cutU_ok t lo hi) ha⟩
    · exact no_op p
theorem se_slice {lo hi : Option Expr} {fl fh : Env → Mem → R (Option Int)} {p2 : Pos} (he : SE X c W a fa) (hl : SP X c W lo fl) (hu : SP X c W hi fh) : SE X c W (.Subscript a (.Slice lo hi none p2) pos) (dSlice fa fl fh) :=
  (pe_slice x_slice he hl hu).imp fun σ H Q ⟨ρ, m, μ, E, M, p⟩ => ⟨ρ, m, μ, E, M, p.bind.imp fun μ1 H1 m1 u s1 M1 p1 v r1 => ⟨ρ, m1, μ1, E.step s1, M1, p1.bind.imp fun μ2 H2 m2 l s2 M2 p2 =>
    ⟨ρ, m2, μ2, (E.step s1).step s2, M2, p2.bind.imp fun μ3 H3 m3 h s3 M3 p3 => ⟨u, m3, μ3, (r1.step s2).step s3, M3, p3.o⟩⟩⟩⟩
/-! tests -/
theorem tru_u {K : PySem.W.Frag} {H : Hp} {μ : List Addr} {m : Mem} (M : MOk K H μ m) {u : U} {v : V} {k : Bool} (r : RU K H μ u v) (h : truU m u = some k) : TruV K v H k := by
  cases r with
  | non => cases h; rfl
  | bl b => cases h; rfl
  | int i => cases h; rfl
  | str x =>
    rw [truU] at h
    split at h
    · rename_i hz
      cases h
      refine ⟨hz, ?_⟩
      rw [Bool.eq_iff_iff]; simp
    · cases h
  | tup hq t =>
    cases h
    refine .inr (.inl ⟨_, hq, ?_⟩)
    cases t <;> rfl
  | rol hq t =>
    cases h
    refine .inl ⟨_, rol_sq hq, ?_⟩
    cases t <;> rfl
  | @ref n a hn =>
    rw [truU] at h
    split at h
    · rename_i us e
      cases h
      obtain ⟨vs, q, t⟩ := M.cell n a _ hn e
      refine .inl ⟨vs, SqL.of q, ?_⟩
      cases t <;> rfl
    · rename_i kvs e
      cases h
      obtain ⟨vs, q, t⟩ := M.cell n a _ hn e
      refine .inr (.inr ⟨vs, q, ?_⟩)
      cases t <;> rfl
    · cases h
  | ob v => cases h
theorem st_tru (ha : SE X c W a fa) (he : ∀ whole, isTrue a X.env whole = (do let v ← whole; standAt a.pos; holding [v] (truthy v))) : ST X c W a (tTru fa) :=
  (pt_truth ha he).imp fun σ H Q ⟨ρ, m, μ, E, M, p⟩ => ⟨ρ, m, μ, E, M, p.bind.imp fun μ1 H1 m1 u s1 M1 p1 v r1 => by
    cases e : truU m1 u with
    | none => rw [e] at p1; exact False.elim p1
    | some k =>
      rw [e] at p1
      exact ⟨k, tru_u M1 r1 e, p1.ok_at M1⟩⟩
theorem st_bl (ha : SE X c W a fa) (he : ∀ whole, isTrue a X.env whole = (do let v ← whole; standAt a.pos; holding [v] (truthy v)) := by intro _; rfl) : ST X c W a (tBl fa) :=
  (pt_val ha he).imp fun σ H Q ⟨ρ, m, μ, E, M, p⟩ => ⟨ρ, m, μ, E, M, p.bind.imp fun μ1 H1 m1 u s1 M1 p1 v r1 => by
    obtain ⟨k, e, p2⟩ := asB_post p1
    subst e
    cases r1
    exact ⟨k, rfl, p2.ok_at M1⟩⟩
theorem rdB_of {t : TE} {f : XD} (h : ∀ σ H Q, rdE (wX X c) W f σ H Q → t σ H Q) {σ : L2.St} {H : Hp} {Q : Bool → Hp → Prop} (q : rdT (wX X c) W (tBl f) σ H Q) : tTest t σ H Q := by
  obtain ⟨ρ, m, μ, E, M, p⟩ := q
  refine h σ H _ ⟨ρ, m, μ, E, M, p.bind.imp fun μ1 H1 m1 u s1 M1 p1 v r1 => ?_⟩
  obtain ⟨k, e, p2⟩ := asB_post p1
  subst e
  cases r1
  exact ⟨k, rfl, p2.ok_at M1⟩
theorem st_cmp {op : CmpOp} {F : U → U → Mem → O U} (ho : OpR X (compareOp op) (rd2 X.K F)) (ha : SE X c W a fa) (hb : SE X c W b fb) (hm : behindInMarks op b = false) : ST X c W (.Compare a [op] [b] pos) (tBl (dOp F fa fb)) :=
  (pt_cmpR ho ha hb hm).imp fun σ H Q q => rdB_of (fun σ H Q ⟨ρ, m, μ, E, M, p⟩ => rd2_of E M p) q
theorem chain_of {F F' : U → U → Mem → O U} {σ : L2.St} {H : Hp} {Q : VK} (h : rdE (wX X c) W (dChain F F' fa fb fc) σ H Q) : tChain (rd2 X.K F) (rd2 X.K F') (rdE (wX X c) W fa) (rdE (wX X c) W fb) (rdE (wX X c) W fc) σ H Q := by
  obtain ⟨ρ, m, μ, E, M, p⟩ := h
  exact ⟨ρ, m, μ, E, M, p.bind.imp fun μ1 H1 m1 u s1 M1 p1 v r1 => ⟨ρ, m1, μ1, E.step s1, M1, p1.bind.imp fun μ2 H2 m2 u2 s2 M2 p2 v2 r2 =>
    ⟨u, u2, m2, μ2, r1.step s2, r2, M2, by
      have q := p2.bind
      cases e : F u u2 m2 with
      | none => rw [e] at q; exact False.elim q
      | some zm =>
        obtain ⟨z, m3⟩ := zm
        rw [e] at q
        refine fun μ3 H3 s3 M3 w rw_ => ?_
        have q3 := q μ3 H3 s3 M3
        cases z with
        | bl k =>
          cases rw_
          refine ⟨k, rfl, ?_⟩
          cases k with
          | false => exact q3.ok_at M3 _ (.bl false)
          | true =>
            refine ⟨ρ, m3, μ3, ((E.step s1).step s2).step s3, M3, (Post.bind q3).imp fun μ4 H4 m4 t s4 M4 p4 v4 r4 => ?_⟩
            exact ⟨u2, t, m4, μ4, (r2.step s3).step s4, r4, M4, p4.o⟩
        | _ => exact False.elim q3⟩⟩⟩
theorem st_chain {op op' : CmpOp} {F F' : U → U → Mem → O U} (ho : OpR X (compareOp op) (rd2 X.K F)) (ho' : OpR X (compareOp op') (rd2 X.K F')) (ha : SE X c W a fa) (hb : SE X c W b fb) (hc : SE X c W d fc)
    (hm : lastMarks [op, op'] [b, d] = false := by with_unfolding_all rfl) : ST X c W (.Compare a [op, op'] [b, d] pos) (tBl (dChain F F' fa fb fc)) :=
  (pt_chain ho ho' ha hb hc hm).imp fun σ H Q q => rdB_of (fun σ H Q h => chain_of h) q
theorem st_not (ha : ST X c W a ta) : ST X c W (.UnaryOp .Not a pos) (tN ta) :=
  (pt_not ha).imp fun σ H Q ⟨ρ, m, μ, E, M, p⟩ => ⟨ρ, m, μ, E, M, p.bind.imp fun μ1 H1 m1 k s1 M1 p1 => p1.ok_at M1⟩
abbrev SW (X : Cx) (c : Nat → Addr) (W : WX) (e : Expr) (f : XT) : Prop := PW X e (rdT (wX X c) W f)
theorem sw_and1 (ha : ST X c W a ta) : SW X c W (.BoolOp .And [a] pos) ta := pw_and1 ha
theorem sw_or1 (ha : ST X c W a ta) : SW X c W (.BoolOp .Or [a] pos) ta := pw_or1 ha
theorem sw_and {rest : List Expr} (ha : ST X c W a ta) (hb : SW X c W (.BoolOp .And (b :: rest) pos) tb) : SW X c W (.BoolOp .And (a :: b :: rest) pos) (tAn ta tb) :=
  (pw_and ha hb).imp fun σ H Q ⟨ρ, m, μ, E, M, p⟩ => ⟨ρ, m, μ, E, M, p.bind.imp fun μ1 H1 m1 k s1 M1 p1 => by
    cases k with
    | true => exact ⟨ρ, m1, μ1, E.step s1, M1, p1⟩
    | false => exact p1.ok_at M1⟩
theorem sw_or {rest : List Expr} (ha : ST X c W a ta) (hb : SW X c W (.BoolOp .Or (b :: rest) pos) tb) : SW X c W (.BoolOp .Or (a :: b :: rest) pos) (tO ta tb) :=
  (pw_or ha hb).imp fun σ H Q ⟨ρ, m, μ, E, M, p⟩ => ⟨ρ, m, μ, E, M, p.bind.imp fun μ1 H1 m1 k s1 M1 p1 => by
    cases k with
    | false => exact ⟨ρ, m1, μ1, E.step s1, M1, p1⟩
    | true => exact p1.ok_at M1⟩
theorem st_w (h : SW X c W a ta) : ST X c W a ta := h.pt
end
end Ev

set_option Elab.async false
set_option linter.all false
set_option maxRecDepth 100000
set_option maxHeartbeats 2000000
/-! Ev: statements. -/
namespace Ev
open PySem PySem.Spec L2

inductive Fl where
  | nx | rt (u : U) | bk | ct
inductive RS where
  | ok (f : Fl) (ρ : Env) (m : Mem) | err (x : Ex) (ρ : Env) (m : Mem) | bad
abbrev SD := Env → Mem → RS
def PostS (w : W0) (W : WX) (μ : List Addr) (H : Hp) (r : RS) (D : Ends) : Prop := match r with
  | .ok f ρ' m' => ∀ μ' H' σ', Step w.K μ H μ' H' → MOk w.K H' μ' m' → EOk w.K H' μ' ρ' σ' → match f with
    | .nx => D.nx σ' H'
    | .bk => D.bk σ' H'
    | .ct => D.ct σ' H'
    | .rt u => ∀ v, RU w.K H' μ' u v → D.rt v H'
  | .err x ρ' m' => ∀ μ' H' σ' d, Step w.K μ H μ' H' → MOk w.K H' μ' m' → EOk w.K H' μ' ρ' σ' → ExOk w.K H' μ' x d → W (.ref (w.cls x.cls)) d σ' H'
  | .bad => False
def rdS (w : W0) (W : WX) (f : SD) : TS := fun D σ H => ∃ ρ m μ, EOk w.K H μ ρ σ ∧ MOk w.K H μ m ∧ PostS w W μ H (f ρ m) D
abbrev SS (X : Cx) (c : Nat → Addr) (W : WX) (s : Stmt) (f : SD) : Prop := PS X s (rdS (wX X c) W f)
abbrev SB (X : Cx) (c : Nat → Addr) (W : WX) (s : List Stmt) (f : SD) : Prop := PSs X s (rdS (wX X c) W f)
theorem _root_.L2.PS.imp {X : Cx} {e : Stmt} {t t' : TS} (h : PS X e t) (i : ∀ D σ H, t' D σ H → t D σ H) : PS X e t' := ⟨fun p s σ H D I q => h.run p s σ H D I (i _ _ _ q)⟩
theorem _root_.L2.PSs.imp {X : Cx} {e : List Stmt} {t t' : TS} (h : PSs X e t) (i : ∀ D σ H, t' D σ H → t D σ H) : PSs X e t' := ⟨fun p s σ H D I q => h.run p s σ H D I (i _ _ _ q)⟩
/-- an expression's result, what follows it -/
def thenE {α : Type} (r : R α) (ρ : Env) (k : α → Mem → RS) : RS := match r with
  | .ok a m => k a m
  | .err x m => .err x ρ m
  | .bad => .bad
def thenO {α : Type} (r : O α) (k : α → Mem → RS) : RS := match r with
  | some (a, m) => k a m
  | none => .bad
def thenS (r : RS) (k : Env → Mem → RS) : RS := match r with
  | .ok .nx ρ m => k ρ m
  | .ok f ρ m => .ok f ρ m
  | .err x ρ m => .err x ρ m
  | .bad => .bad
section
variable {w : W0} {W : WX} {σ : L2.St} {μ μ' : List Addr} {H H' : Hp} {α β : Type}
theorem PostS.from {r : RS} {D : Ends} (p : PostS w W μ H r D) (s : Step w.K μ H μ' H') : PostS w W μ' H' r D := by
  cases r with
  | ok f ρ m => exact fun μ2 H2 σ2 s2 M E => p μ2 H2 σ2 (s.trans s2) M E
  | err x ρ m => exact fun μ2 H2 σ2 d s2 M E e => p μ2 H2 σ2 d (s.trans s2) M E e
  | bad => exact p
theorem PostS.thenE {r : R α} {ρ : Env} {k : α → Mem → RS} {D : Ends} (E : EOk w.K H μ ρ σ) (p : PostS w W μ H (thenE r ρ k) D) : Post w W σ μ H r fun μ1 H1 m1 a => PostS w W μ1 H1 (k a m1) D := by
  cases r with
  | ok a m => exact fun μ1 H1 s1 M1 => PostS.from p s1
  | err x m => exact fun μ1 H1 d s1 M1 e => p μ1 H1 σ d s1 M1 (E.step s1) e
  | bad => exact p
theorem PostS.thenO {r : O α} {k : α → Mem → RS} {D : Ends} (p : PostS w W μ H (thenO r k) D) : PostO w.K μ H r fun μ1 H1 m1 a => PostS w W μ1 H1 (k a m1) D := by
  cases r with
  | none => exact p
  | some a => obtain ⟨a, m⟩ := a; exact fun μ1 H1 s1 M1 => PostS.from p s1
theorem PostS.thenS {r : RS} {k : Env → Mem → RS} {D : Ends} (p : PostS w W μ H (thenS r k) D) : PostS w W μ H r { D with nx := rdS w W (fun ρ m => k ρ m) D } := by
  cases r with
  | ok f ρ m =>
    cases f with
    | nx => exact fun μ1 H1 σ1 s1 M1 E1 => ⟨ρ, m, μ1, E1, M1, PostS.from p s1⟩
    | rt u => exact p
    | bk => exact p
    | ct => exact p
  | err x ρ m => exact p
  | bad => exact p
theorem PostS.nx {ρ : Env} {m : Mem} {D : Ends} (p : PostS w W μ H (.ok .nx ρ m) D) (M : MOk w.K H μ m) {σ : L2.St} (E : EOk w.K H μ ρ σ) : D.nx σ H := p μ H σ .refl M E
theorem PostS.imp {r : RS} {D D' : Ends} (p : PostS w W μ H r D) (h1 : ∀ σ H, D.nx σ H → D'.nx σ H) (h2 : ∀ σ H, D.bk σ H → D'.bk σ H) (h3 : ∀ σ H, D.ct σ H → D'.ct σ H) (h4 : ∀ v H, D.rt v H → D'.rt v H) : PostS w W μ H r D' := by
  cases r with
  | ok f ρ m =>
    cases f with
    | nx => exact fun μ1 H1 σ1 s1 M1 E1 => h1 _ _ (p μ1 H1 σ1 s1 M1 E1)
    | bk => exact fun μ1 H1 σ1 s1 M1 E1 => h2 _ _ (p μ1 H1 σ1 s1 M1 E1)
    | ct => exact fun μ1 H1 σ1 s1 M1 E1 => h3 _ _ (p μ1 H1 σ1 s1 M1 E1)
    | rt u => exact fun μ1 H1 σ1 s1 M1 E1 v r => h4 _ _ (p μ1 H1 σ1 s1 M1 E1 v r)
  | err x ρ m => exact p
  | bad => exact p
end

/-! ### what they mean -/
def sNext : SD := fun ρ m => .ok .nx ρ m
def sBreak : SD := fun ρ m => .ok .bk ρ m
def sCont : SD := fun ρ m => .ok .ct ρ m
def sExpr (f : XD) : SD := fun ρ m => thenE (f ρ m) ρ fun _ m1 => .ok .nx ρ m1
def sRet (f : XD) : SD := fun ρ m => thenE (f ρ m) ρ fun u m1 => .ok (.rt u) ρ m1
def sRetN : SD := fun ρ m => .ok (.rt .non) ρ m
def sSeq (a b : SD) : SD := fun ρ m => thenS (a ρ m) b
def sIf (t : XT) (a b : SD) : SD := fun ρ m => thenE (t ρ m) ρ fun k m1 => if k then a ρ m1 else b ρ m1
/-- targets -/
abbrev GD := U → Env → Mem → O Env
abbrev GL := List U → Env → Mem → O Env
def gName (i : Nat) : GD := fun u ρ m => some (ρ.set i (some u), m)
def gNil : GL := fun us ρ m => match us with
  | [] => some (ρ, m)
  | _ => none
def gCons (g : GD) (gs : GL) : GL := fun us ρ m => match us with
  | [] => none
  | u :: r => match g u ρ m with
    | some (ρ1, m1) => gs r ρ1 m1
    | none => none
def gTup (n : Nat) (gs : GL) : GD := fun u ρ m => match u with
  | .tup us => if us.length = n then gs us ρ m else none
  | _ => none
def toO {α : Type} : R α → O α
  | .ok a m => some (a, m)
  | _ => none
/-- a store at a place: the object, the index, the value -/
def gSub (S : U → U → U → Mem → O Unit) (fo fi : XD) : GD := fun u ρ m => match toO (fo ρ m) with
  | some (o, m1) => match toO (fi ρ m1) with
    | some (i, m2) => (S o i u m2).map fun x => (ρ, x.2)
    | none => none
  | none => none
def oSetL : U → U → U → Mem → O Unit := fun o i v m => match o, i with
  | .ref n, .int k => match m[n]? with
    | some (.lst us) => (ixN us.length k).map fun j => ((), m.set n (.lst (us.set j v)))
    | _ => none
  | _, _ => none
def sAsg (f : XD) (g : GD) : SD := fun ρ m => thenE (f ρ m) ρ fun u m1 => thenO (g u ρ m1) fun ρ1 m2 => .ok .nx ρ1 m2
def sPar (i j : Nat) (f : XL) : SD := fun ρ m => thenE (f ρ m) ρ fun us m1 => match us with
  | [u, v] => .ok .nx ((ρ.set i (some u)).set j (some v)) m1
  | _ => .bad
def sAug (i : Nat) (F : U → U → Mem → O U) (f : XD) : SD := fun ρ m => match ρ[i]? with
  | some (some u) => thenE (f ρ m) ρ fun v m1 => thenO (F u v m1) fun z m2 => .ok .nx (ρ.set i (some z)) m2
  | _ => .bad

/-! ### they are so -/
section
variable {X : Cx} {c : Nat → Addr} {W : WX} {e : Expr} {f : XD} {t : XT} {pos : Pos} {st : Stmt} {rest A B : List Stmt} {sa sb : SD}
theorem sb_nil : SB X c W [] sNext := pss_nil.imp fun D σ H ⟨ρ, m, μ, E, M, p⟩ => p.nx M E
theorem sb_cons (h1 : SS X c W st sa) (h2 : SB X c W rest sb) : SB X c W (st :: rest) (sSeq sa sb) := (pss_cons h1 h2).imp fun D σ H ⟨ρ, m, μ, E, M, p⟩ => ⟨ρ, m, μ, E, M, p.thenS⟩
theorem sb_one (h1 : SS X c W st sa) : SB X c W [st] sa := pss_one h1
theorem ss_pass : SS X c W (.Pass pos) sNext := ps_pass.imp fun D σ H ⟨ρ, m, μ, E, M, p⟩ => p.nx M E
theorem ss_break : SS X c W (.Break pos) sBreak := ps_break.imp fun D σ H ⟨ρ, m, μ, E, M, p⟩ => p μ H σ .refl M E
theorem ss_cont : SS X c W (.Continue pos) sCont := ps_continue.imp fun D σ H ⟨ρ, m, μ, E, M, p⟩ => p μ H σ .refl M E
theorem ss_doc {x j pos pos'} : SS X c W (.Expr (.Constant (.str x) j pos) pos') sNext := ps_doc.imp fun D σ H ⟨ρ, m, μ, E, M, p⟩ => p.nx M E
theorem ss_expr (he : SE X c W e f) (hs : swapsWith e none pos.line X.env = pure false := by rfl) : SS X c W (.Expr e pos) (sExpr f) :=
  (ps_expr he hs).imp fun D σ H ⟨ρ, m, μ, E, M, p⟩ => ⟨ρ, m, μ, E, M, (PostS.thenE E p).imp fun μ1 H1 m1 u s1 M1 p1 v r => p1.nx M1 (E.step s1)⟩
theorem ss_ret (he : SE X c W e f) : SS X c W (.Return (some e) pos) (sRet f) :=
  (ps_ret he).imp fun D σ H ⟨ρ, m, μ, E, M, p⟩ => ⟨ρ, m, μ, E, M, (PostS.thenE E p).imp fun μ1 H1 m1 u s1 M1 p1 v r => p1 μ1 H1 σ .refl M1 (E.step s1) v r⟩
theorem ss_retN : SS X c W (.Return none pos) sRetN := ps_retN.imp fun D σ H ⟨ρ, m, μ, E, M, p⟩ => p μ H σ .refl M E _ .non
theorem ss_if {d : Expr} (hc : ST X c W d t) (ha : SB X c W A sa) (hb : SB X c W B sb) : SS X c W (.If d A B pos) (sIf t sa sb) :=
  (ps_if hc ha hb).imp fun D σ H ⟨ρ, m, μ, E, M, p⟩ => ⟨ρ, m, μ, E, M, (PostS.thenE E p).imp fun μ1 H1 m1 k s1 M1 p1 => by
    cases k with
    | true => exact ⟨ρ, m1, μ1, E.step s1, M1, p1⟩
    | false => exact ⟨ρ, m1, μ1, E.step s1, M1, p1⟩⟩
/-! targets -/
def rdG (K : PySem.W.Frag) (g : GD) : TG := fun v σ H Q => ∃ u ρ m μ, RU K H μ u v ∧ EOk K H μ ρ σ ∧ MOk K H μ m ∧ PostO K μ H (g u ρ m) fun μ' H' _ ρ' => ∀ σ', EOk K H' μ' ρ' σ' → Q σ' H'
def rdGs (K : PySem.W.Frag) (g : GL) : TGs := fun vs σ H Q => ∃ us ρ m μ, RUs K H μ us vs ∧ EOk K H μ ρ σ ∧ MOk K H μ m ∧ PostO K μ H (g us ρ m) fun μ' H' _ ρ' => ∀ σ', EOk K H' μ' ρ' σ' → Q σ' H'
abbrev SG (X : Cx) (tg : Expr) (g : GD) : Prop := PG X tg (rdG X.K g)
abbrev SGs (X : Cx) (tg : List Expr) (g : GL) : Prop := PGs X tg (rdGs X.K g)
theorem _root_.L2.PG.imp {X : Cx} {e : Expr} {t t' : TG} (h : PG X e t) (i : ∀ v σ H Q, t' v σ H Q → t v σ H Q) : PG X e t' := ⟨fun p s σ H v u Q I r q => h.run p s σ H v u Q I r (i _ _ _ _ q)⟩
theorem _root_.L2.PGs.imp {X : Cx} {e : List Expr} {t t' : TGs} (h : PGs X e t) (i : ∀ v σ H Q, t' v σ H Q → t v σ H Q) : PGs X e t' := ⟨fun p s σ H v u Q I r q => h.run p s σ H v u Q I r (i _ _ _ _ q)⟩
theorem sg_name {i : Nat} {x : Str} (hN : X.N.Nodup) (hi : X.N[i]? = some x) (hx : Loc X.env.scope x) (hf : X.fn x = true ∨ X.env.scope.names.lookup x = some .local := by first | exact .inl rfl | exact .inr rfl | assumption) : SG X (.Name x pos) (gName i) :=
  (pg_name hN hi hx hf).imp fun v σ H Q ⟨u, ρ, m, μ, r, E, M, p⟩ => p.here M _ (E.set r)
theorem sgs_nil : SGs X [] gNil := pgs_nil.imp fun v σ H Q ⟨us, ρ, m, μ, r, E, M, p⟩ => by
  cases r with
  | nil => exact ⟨rfl, p.here M _ E⟩
  | cons _ _ => exact no_op p
theorem sgs_cons {e : Expr} {es : List Expr} {g : GD} {gs : GL} (h : PGs X (e :: es) (L2.gCons (rdG X.K g) (rdGs X.K gs))) : SGs X (e :: es) (gCons g gs) := h.imp fun v σ H Q ⟨us, ρ, m, μ, r, E, M, p⟩ => by
  cases r with
  | nil => exact no_op p
  | @cons u us v vs r1 r2 =>
    refine ⟨_, _, rfl, u, ρ, m, μ, r1, E, M, ?_⟩
    unfold gCons at p
    simp only at p
    cases q : g u ρ m with
    | none => rw [q] at p; exact no_op p
    | some z =>
      obtain ⟨ρ1, m1⟩ := z
      rw [q] at p
      simp only at p
      exact fun μ1 H1 s1 M1 σ1 E1 => ⟨us, ρ1, m1, μ1, r2.step s1, E1, M1, (by
        cases q2 : gs us ρ1 m1 with
        | none => rw [q2] at p; exact no_op p
        | some z => rw [q2] at p; exact fun μ2 H2 s2 M2 => p μ2 H2 (s1.trans s2) M2)⟩
theorem sg_tup {es : List Expr} {k : Nat} {n : Nat} {gs : GL} (hn : PG X (.Tuple es k pos) (L2.gTup X.K n (rdGs X.K gs))) : SG X (.Tuple es k pos) (gTup n gs) := hn.imp fun v σ H Q ⟨u, ρ, m, μ, r, E, M, p⟩ => by
  cases r with
  | tup hq t =>
    unfold gTup at p
    simp only at p
    split at p
    · rename_i hl
      exact ⟨_, _, rfl, hq, by rw [← t.length]; exact hl, _, ρ, m, μ, t, E, M, p⟩
    · exact no_op p
  | _ => exact no_op p
def rdSet (K : PySem.W.Frag) (S : U → U → U → Mem → O Unit) : TSet := fun o i v H Q => ∃ uo ui uv m μ, RU K H μ uo o ∧ RU K H μ ui i ∧ RU K H μ uv v ∧ MOk K H μ m ∧ PostO K μ H (S uo ui uv m) fun μ' H' _ _ => Q H'
theorem toO_post {α : Type} {w : W0} {σ : L2.St} {μ : List Addr} {H : Hp} {r : R α} {a : α} {m : Mem} {P : List Addr → Hp → Mem → α → Prop} (h : toO r = some (a, m)) (p : ∀ μ' H', Step w.K μ H μ' H' → MOk w.K H' μ' m → P μ' H' m a) : Post w W σ μ H r P := by
  cases r with
  | ok b n => cases h; exact p
  | err x n => cases h
  | bad => cases h
theorem sg_sub {o i : Expr} {fo fi : XD} {S : U → U → U → Mem → O Unit} (hg : PG X (.Subscript o i pos) (L2.gSub (rdE (wX X c) W fo) (rdE (wX X c) W fi) (rdSet X.K S))) : SG X (.Subscript o i pos) (gSub S fo fi) :=
  hg.imp fun v σ H Q ⟨u, ρ, m, μ, r, E, M, p⟩ => by
    unfold gSub at p
    cases q1 : toO (fo ρ m) with
    | none => rw [q1] at p; exact no_op p
    | some z =>
      obtain ⟨x, m1⟩ := z
      rw [q1] at p
      simp only at p
      cases q2 : toO (fi ρ m1) with
      | none => rw [q2] at p; exact no_op p
      | some z =>
        obtain ⟨y, m2⟩ := z
        rw [q2] at p
        simp only at p
        refine ⟨ρ, m, μ, E, M, toO_post (w := wX X c) q1 fun μ1 H1 s1 M1 v1 r1 => ⟨ρ, m1, μ1, E.step s1, M1, toO_post (w := wX X c) q2 fun μ2 H2 s2 M2 v2 r2 => ?_⟩⟩
        refine ⟨x, y, u, m2, μ2, r1.step s2, r2, (r.step s1).step s2, M2, ?_⟩
        cases q3 : S x y u m2 with
        | none => rw [q3] at p; exact no_op p
        | some z =>
          rw [q3] at p
          exact fun μ3 H3 s3 M3 => p μ3 H3 ((s1.trans s2).trans s3) M3 σ (((E.step s1).step s2).step s3)
theorem x_setL : PSet X (rdSet X.K oSetL) := by
  intro pins s σ H o i v u1 u2 u3 Q I ro ri rv h
  obtain ⟨uo, ui, uv, m, μ, r1, r2, r3, M, p⟩ := h
  unfold oSetL at p
  split at p
  · rename_i n k
    cases r2
    cases r1 with
    | @ref _ a hn =>
      split at p
      · rename_i us e
        cases q : ixN us.length k with
        | none => rw [q] at p; exact no_op p
        | some j =>
          rw [q] at p
          obtain ⟨vs, hq, t⟩ := M.cell _ _ _ hn e
          refine set_list pins s σ H _ _ v u1 u2 u3 Q I ro ri rv ⟨a, vs, k, j, rfl, rfl, hq, by rw [← t.length]; exact q, ?_⟩
          exact p μ _ (.set (List.mem_of_getElem? hn) hq rfl) (M.set hn hq rfl ⟨_, upd_same, (t.set j r3).step (.set (List.mem_of_getElem? hn) hq rfl)⟩)
      · exact no_op p
  · exact no_op p
theorem ss_asg {tg : Expr} {g : GD} (hps : PS X (.Assign [tg] e pos) (tAsg (rdE (wX X c) W f) (rdG X.K g))) : SS X c W (.Assign [tg] e pos) (sAsg f g) :=
  hps.imp fun D σ H ⟨ρ, m, μ, E, M, p⟩ => ⟨ρ, m, μ, E, M, (PostS.thenE E p).imp fun μ1 H1 m1 u s1 M1 p1 v r => by
    refine ⟨u, ρ, m1, μ1, r, E.step s1, M1, ?_⟩
    have p2 := PostS.thenO p1
    cases q : g u ρ m1 with
    | none => rw [q] at p2; exact no_op p2
    | some z =>
      obtain ⟨ρ2, m2⟩ := z
      rw [q] at p2
      exact fun μ2 H2 s2 M2 σ2 E2 => (p2 μ2 H2 s2 M2).nx M2 E2⟩
theorem ss_set {i : Nat} {x : Str} {pos' : Pos} (hN : X.N.Nodup) (hi : X.N[i]? = some x) (hx : Loc X.env.scope x) (he : SE X c W e f) (hs : swapsWith e (some (.Name x pos')) pos.line X.env = pure false := by rfl) (hf : X.fn x = true ∨ X.env.scope.names.lookup x = some .local := by first | exact .inl rfl | exact .inr rfl | assumption) :
    SS X c W (.Assign [.Name x pos'] e pos) (sAsg f (gName i)) :=
  (ps_set hN hi hx he hs hf).imp fun D σ H ⟨ρ, m, μ, E, M, p⟩ => ⟨ρ, m, μ, E, M, (PostS.thenE E p).imp fun μ1 H1 m1 u s1 M1 p1 v r => by
    have p2 := PostS.thenO p1
    exact (p2 μ1 H1 .refl M1).nx M1 ((E.step s1).set r)⟩
def rdIp (K : PySem.W.Frag) (F : U → U → Mem → O U) : TIp := rd2 K F
theorem ss_aug {i : Nat} {x : Str} {op : Operator} {F : U → U → Mem → O U} {pos' : Pos} (hps : PS X (.AugAssign (.Name x pos') op e pos) (tAug i (rdE (wX X c) W f) (rd2 X.K F))) :
    SS X c W (.AugAssign (.Name x pos') op e pos) (sAug i F f) :=
  hps.imp fun D σ H ⟨ρ, m, μ, E, M, p⟩ => by
    unfold sAug at p
    split at p
    · rename_i u e1
      obtain ⟨v, h1, r1⟩ := E.at_ i u e1
      refine ⟨v, h1, ρ, m, μ, E, M, (PostS.thenE E p).imp fun μ1 H1 m1 u2 s1 M1 p1 v2 r2 => ⟨u, u2, m1, μ1, r1.step s1, r2, M1, ?_⟩⟩
      have p2 := PostS.thenO p1
      cases q : F u u2 m1 with
      | none => rw [q] at p2; exact no_op p2
      | some z =>
        obtain ⟨z, m2⟩ := z
        rw [q] at p2
        exact fun μ2 H2 s2 M2 v3 r3 => (p2 μ2 H2 s2 M2).nx M2 (((E.step s1).step s2).set r3)
    · exact False.elim p
theorem ss_par {i j : Nat} {st : Stmt} {fl : XL} (hps : PS X st (tPar i j (rdL (wX X c) W fl))) : SS X c W st (sPar i j fl) :=
  hps.imp fun D σ H ⟨ρ, m, μ, E, M, p⟩ => ⟨ρ, m, μ, E, M, (PostS.thenE E p).imp fun μ1 H1 m1 us s1 M1 p1 vs r => by
    cases r with
    | nil => exact False.elim p1
    | cons r1 r =>
      cases r with
      | nil => exact False.elim p1
      | cons r2 r =>
        cases r with
        | nil => exact ⟨_, _, rfl, p1.nx M1 (((E.step s1).set r1).set r2)⟩
        | cons _ _ => exact False.elim p1⟩
end
end Ev

set_option Elab.async false
set_option linter.all false
set_option maxRecDepth 100000
set_option maxHeartbeats 2000000
/-! Ev: loops and comprehensions. -/
namespace Ev
open PySem PySem.Spec L2

/-- what is walked: written items, or what the memory has at each turn (with a bound of the turns) -/
inductive Src where
  | fix (us : List U) | dyn (k : Nat) (nx : Nat → Mem → Option (Option U))
def Src.next : Src → Nat → Mem → Option (Option U)
  | .fix us => fun i _ => if i ≤ us.length then some us[i]? else none
  | .dyn _ nx => nx
abbrev ID := Env → Mem → R Src
/-- the iterator gives what the source says -/
def WkOk (K : PySem.W.Frag) (J : It) (μ0 : List Addr) (H0 : Hp) (nx : Nat → Mem → Option (Option U)) : Prop :=
  ∀ (i : Nat) (μ : List Addr) (H : Hp) (m : Mem), Mono K μ0 H0 μ H → MOk K H μ m → match nx i m with
    | none => True
    | some none => J.stop i H
    | some (some u) => J.go i H ∧ ∀ x H', J.yld i H x H' → Step K μ H μ H' ∧ MOk K H' μ m ∧ RU K H' μ u x
def rdI (w : W0) (W : WX) (f : ID) : TI := fun σ H R => ∃ ρ m μ, EOk w.K H μ ρ σ ∧ MOk w.K H μ m ∧ Post w W σ μ H (f ρ m) fun μ' H' _ s => ∀ J, WkOk w.K J μ' H' s.next → R J H'
abbrev SI (X : Cx) (c : Nat → Addr) (W : WX) (tg e : Expr) (f : ID) : Prop := PI X tg e (rdI (wX X c) W f)
theorem _root_.L2.PI.imp {X : Cx} {tg e : Expr} {t t' : TI} (h : PI X tg e t) (i : ∀ σ H R, t' σ H R → t σ H R) : PI X tg e t' := ⟨fun p s σ H R I q => h.run p s σ H R I (i _ _ _ q)⟩

/-! ### loops -/
def loopS (r : RS) (k : Env → Mem → RS) : RS := match r with
  | .ok .nx ρ m => k ρ m
  | .ok .ct ρ m => k ρ m
  | .ok .bk ρ m => .ok .nx ρ m
  | r => r
def forL (g : GD) (b : SD) : List U → SD
  | [] => sNext
  | u :: us => fun ρ m => thenO (g u ρ m) fun ρ1 m1 => loopS (b ρ1 m1) (forL g b us)
def forN (nx : Nat → Mem → Option (Option U)) (g : GD) (b : SD) : Nat → Nat → SD
  | 0, _ => fun _ _ => .bad
  | k + 1, i => fun ρ m => match nx i m with
    | none => .bad
    | some none => .ok .nx ρ m
    | some (some u) => thenO (g u ρ m) fun ρ1 m1 => loopS (b ρ1 m1) (forN nx g b k (i + 1))
def forR (g : GD) (b : SD) : Src → SD
  | .fix us => forL g b us
  | .dyn k nx => forN nx g b k 0
def sFor (f : ID) (g : GD) (b : SD) : SD := fun ρ m => thenE (f ρ m) ρ fun s m1 => forR g b s ρ m1
def whileN (t : XT) (b : SD) : Nat → SD
  | 0 => fun _ _ => .bad
  | k + 1 => fun ρ m => thenE (t ρ m) ρ fun c m1 => if c then loopS (b ρ m1) (whileN t b k) else .ok .nx ρ m1
def sWhile (t : XT) (b : SD) : SD := whileN t b 1000000
theorem fix_next {us : List U} {i : Nat} {m : Mem} (h : i ≤ us.length) : (Src.fix us).next i m = some us[i]? := if_pos h
theorem forL_N {us : List U} {g : GD} {b : SD} : ∀ (k i : Nat), i ≤ us.length → us.length < i + k → forL g b (us.drop i) = forN (Src.fix us).next g b k i
  | 0, i, h, h2 => by omega
  | k + 1, i, h, h2 => by
    by_cases hi : i < us.length
    · have e : us.drop i = us[i] :: us.drop (i + 1) := List.drop_eq_getElem_cons hi
      have e2 : us[i]? = some us[i] := List.getElem?_eq_getElem hi
      rw [e, forL, forL_N k (i + 1) hi (by omega)]
      funext ρ m
      rw [forN]
      simp only [fix_next h, e2]
    · have e : us.drop i = [] := List.drop_eq_nil_of_le (by omega)
      have e2 : us[i]? = none := List.getElem?_eq_none (by omega)
      rw [e]
      funext ρ m
      rw [forN]
      simp only [fix_next h, e2]
      rfl
theorem forR_N (s : Src) (g : GD) (b : SD) : ∃ k, forR g b s = forN s.next g b k 0 := by
  cases s with
  | fix us => exact ⟨us.length + 1, by have := forL_N (us := us) (g := g) (b := b) (us.length + 1) 0 (Nat.zero_le _) (by omega); rw [List.drop_zero] at this; exact this⟩
  | dyn k nx => exact ⟨k, rfl⟩
section
variable {w : W0} {W : WX} {σ : L2.St} {μ : List Addr} {H : Hp}
theorem PostS.loop {r : RS} {k : Env → Mem → RS} {D : Ends} {N : L2.St → Hp → Prop} (p : PostS w W μ H (loopS r k) D)
    (hN : ∀ ρ m μ' H' σ', Step w.K μ H μ' H' → MOk w.K H' μ' m → EOk w.K H' μ' ρ σ' → PostS w W μ' H' (k ρ m) D → N σ' H') : PostS w W μ H r { D with nx := N, ct := N, bk := D.nx } := by
  cases r with
  | ok f ρ m =>
    cases f with
    | nx => exact fun μ1 H1 σ1 s1 M1 E1 => hN ρ m μ1 H1 σ1 s1 M1 E1 (PostS.from p s1)
    | ct => exact fun μ1 H1 σ1 s1 M1 E1 => hN ρ m μ1 H1 σ1 s1 M1 E1 (PostS.from p s1)
    | bk => exact p
    | rt u => exact p
  | err x ρ m => exact p
  | bad => exact p
end
section
variable {X : Cx} {c : Nat → Addr} {W : WX} {st : Stmt} {f : ID} {g : GD} {sb : SD} {t : XT}
theorem ss_for (h : PS X st (tFor (rdI (wX X c) W f) (rdG X.K g) (rdS (wX X c) W sb))) : SS X c W st (sFor f g sb) :=
  h.imp fun D σ H ⟨ρ, m, μ, E, M, p⟩ => ⟨ρ, m, μ, E, M, (PostS.thenE E p).imp fun μ1 H1 m1 src s1 M1 p1 J hJ => by
    obtain ⟨k, hk⟩ := forR_N src g sb
    rw [hk] at p1
    refine ⟨fun i n σ H => ∃ ρ m μ, Mono X.K μ1 H1 μ H ∧ EOk X.K H μ ρ σ ∧ MOk X.K H μ m ∧ PostS (wX X c) W μ H (forN src.next g sb n i ρ m) D, ⟨k, ρ, m1, μ1, .refl, E.step s1, M1, p1⟩, ?_⟩
    rintro i n σ H ⟨ρ, m, μ, mo, E, M, p⟩
    cases n with
    | zero => exact False.elim p
    | succ n =>
      have hj := hJ i μ H m mo M
      rw [forN] at p
      cases e : src.next i m with
      | none => simp only [e] at p; exact False.elim p
      | some o =>
        cases o with
        | none =>
          simp only [e] at p hj
          exact .inl ⟨hj, p.nx M E⟩
        | some u =>
          simp only [e] at p hj
          refine .inr ⟨hj.1, fun σ' H' => ∃ ρ m μ, Mono X.K μ1 H1 μ H' ∧ EOk X.K H' μ ρ σ' ∧ MOk X.K H' μ m ∧ PostS (wX X c) W μ H' (forN src.next g sb n (i + 1) ρ m) D, fun σ' H' z => ⟨n, Nat.lt_succ_self n, z⟩, fun x H' y => ?_⟩
          obtain ⟨s2, M2, r2⟩ := hj.2 x H' y
          refine ⟨u, ρ, m, μ, r2, E.step s2, M2, ?_⟩
          have p2 := PostS.thenO (PostS.from p s2)
          cases q : g u ρ m with
          | none => rw [q] at p2; exact False.elim p2
          | some z =>
            obtain ⟨ρ3, m3⟩ := z
            rw [q] at p2
            exact fun μ3 H3 s3 M3 σ3 E3 => ⟨ρ3, m3, μ3, E3, M3, PostS.loop (p2 μ3 H3 s3 M3) fun ρ4 m4 μ4 H4 σ4 s4 M4 E4 p4 => ⟨ρ4, m4, μ4, ((mo.trans s2.mono).trans s3.mono).trans s4.mono, E4, M4, p4⟩⟩⟩
theorem ss_while (h : PS X st (tWhile (rdT (wX X c) W t) (rdS (wX X c) W sb))) : SS X c W st (sWhile t sb) :=
  h.imp fun D σ H ⟨ρ, m, μ, E, M, p⟩ => by
    refine ⟨fun n σ H => ∃ ρ m μ, EOk X.K H μ ρ σ ∧ MOk X.K H μ m ∧ PostS (wX X c) W μ H (whileN t sb n ρ m) D, ⟨_, ρ, m, μ, E, M, p⟩, ?_⟩
    rintro n σ H ⟨ρ, m, μ, E, M, p⟩
    cases n with
    | zero => exact False.elim p
    | succ n =>
      rw [whileN] at p
      refine ⟨ρ, m, μ, E, M, (PostS.thenE E p).imp fun μ1 H1 m1 b s1 M1 p1 => ?_⟩
      cases b with
      | false => exact p1.nx M1 (E.step s1)
      | true =>
        exact ⟨fun σ' H' => ∃ ρ m μ, EOk X.K H' μ ρ σ' ∧ MOk X.K H' μ m ∧ PostS (wX X c) W μ H' (whileN t sb n ρ m) D, fun σ' H' z => ⟨n, Nat.lt_succ_self n, z⟩, ρ, m1, μ1, E.step s1, M1, PostS.loop p1 fun ρ4 m4 μ4 H4 σ4 s4 M4 E4 p4 => ⟨ρ4, m4, μ4, E4, M4, p4⟩⟩
end

/-! ### what is walked -/
def srcOf (m : Mem) (u : U) : Option Src := match u with
  | .tup us => some (.fix us)
  | .rol us => some (.fix us)
  | .ref n => match m[n]? with
    | some (.lst us) => some (.dyn (us.length + 1) fun i m => match m[n]? with
      | some (.lst us) => some us[i]?
      | _ => none)
    | _ => none
  | _ => none
def iOf (f : XD) : ID := fun ρ m => (f ρ m).bind fun u m1 => ofB (srcOf m1 u) m1
def signs (z : Str) : List U := z.cps.toList.map fun c => .str ⟨#[c]⟩
def iStr (f : XD) : ID := fun ρ m => (f ρ m).bind fun u m1 => match u with
  | .str z => .ok (.fix (signs z)) m1
  | _ => .bad
/-- lo, lo + 1, .. (n of them) -/
def runI (lo : Int) : Nat → List U
  | 0 => []
  | n + 1 => .int lo :: runI (lo + 1) n
def iRange1 (f : XL) : ID := fun ρ m => (f ρ m).bind fun us m1 => match us with
  | [.int j] => if -(2 ^ 62) ≤ j ∧ j < 2 ^ 62 then .ok (.fix (runI 0 j.toNat)) m1 else .bad
  | _ => .bad
def iRange2 (f : XL) : ID := fun ρ m => (f ρ m).bind fun us m1 => match us with
  | [.int i, .int j] => if -(2 ^ 62) ≤ i ∧ i < 2 ^ 62 ∧ -(2 ^ 62) ≤ j ∧ j < 2 ^ 62 then .ok (.fix (runI i (j - i).toNat)) m1 else .bad
  | _ => .bad
theorem runI_get : ∀ (n : Nat) (lo : Int) (i : Nat), (runI lo n)[i]? = if i < n then some (.int (lo + i)) else none
  | 0, lo, i => by simp [runI]
  | n + 1, lo, 0 => by simp [runI]
  | n + 1, lo, i + 1 => by
    rw [runI, List.getElem?_cons_succ, runI_get n]
    have e : (lo + 1 + (i : Int)) = lo + ((i + 1 : Nat) : Int) := by omega
    rw [e]
    by_cases h : i < n
    · rw [if_pos h, if_pos (by omega)]
    · rw [if_neg h, if_neg (by omega)]
section
variable {X : Cx} {c : Nat → Addr} {W : WX} {tg e : Expr} {f : XD} {fl : XL}
theorem wk_fix {K : PySem.W.Frag} {J : It} {H : Hp} {μ : List Addr} {us : List U} (h : ∀ (i : Nat) (μ1 : List Addr) (H1 : Hp) (m : Mem), Mono K μ H μ1 H1 → MOk K H1 μ1 m → i ≤ us.length → match us[i]? with
    | none => J.stop i H1
    | some u => J.go i H1 ∧ ∀ x H', J.yld i H1 x H' → Step K μ1 H1 μ1 H' ∧ MOk K H' μ1 m ∧ RU K H' μ1 u x) : WkOk K J μ H (Src.fix us).next := fun i μ1 H1 m mo M => by
  by_cases hi : i ≤ us.length
  · have h1 := h i μ1 H1 m mo M hi
    rw [fix_next hi]
    cases e : us[i]? with
    | none => rw [e] at h1; exact h1
    | some u => rw [e] at h1; exact h1
  · rw [show (Src.fix us).next i m = none from if_neg hi]
    trivial
/-- written items of a tuple or of a list that stands still -/
theorem wk_t {K : PySem.W.Frag} {H : Hp} {μ : List Addr} {us : List U} {vs : List V} {a : Addr} (hq : SqT K H a vs) (t : RUs K H μ us vs) : WkOk K (Itt K a) μ H (Src.fix us).next := wk_fix fun i μ1 H1 m mo M _ => by
  have hq1 := mo.kt _ _ hq
  have t1 := t.mo mo
  cases e : us[i]? with
  | none => exact ⟨vs, hq1, by rw [← t.length]; exact List.getElem?_eq_none_iff.mp e⟩
  | some u =>
    obtain ⟨v, h1, h2⟩ := t1.get e
    refine ⟨⟨vs, v, hq1, h1⟩, fun x H' y => ?_⟩
    obtain ⟨eH, y⟩ := y
    subst eH
    have := y vs hq1
    rw [h1] at this; cases this
    exact ⟨.refl, M, h2⟩
theorem wk_l {K : PySem.W.Frag} {H : Hp} {μ : List Addr} {us : List U} {vs : List V} {a : Addr} (hq : ∀ H1, Mono K μ H μ H1 → SqL K H1 a vs) (hq2 : ∀ μ1 H1, Mono K μ H μ1 H1 → SqL K H1 a vs) (t : RUs K H μ us vs) : WkOk K (Itl K a) μ H (Src.fix us).next := wk_fix fun i μ1 H1 m mo M _ => by
  have hq1 := hq2 _ _ mo
  have t1 := t.mo mo
  cases e : us[i]? with
  | none => exact ⟨vs, hq1, by rw [← t.length]; exact List.getElem?_eq_none_iff.mp e⟩
  | some u =>
    obtain ⟨v, h1, h2⟩ := t1.get e
    refine ⟨⟨vs, v, hq1, h1⟩, fun x H' y => ?_⟩
    obtain ⟨eH, y⟩ := y
    subst eH
    have := y vs hq1
    rw [h1] at this; cases this
    exact ⟨.refl, M, h2⟩
/-- a cell's items -/
theorem wk_c {K : PySem.W.Frag} {H : Hp} {μ : List Addr} {n : Nat} {a : Addr} (hn : μ[n]? = some a) : WkOk K (Itl K a) μ H (fun i m => match m[n]? with | some (.lst us) => some us[i]? | _ => none) := fun i μ1 H1 m mo M => by
  have hn1 := mo.at hn
  show match (match m[n]? with | some (.lst us) => some us[i]? | _ => none) with | none => True | some none => _ | some (some u) => _
  split
  · trivial
  · rename_i h
    split at h
    · rename_i us e1
      obtain ⟨vs, hq, t⟩ := M.cell _ _ _ hn1 e1
      injection h with h
      exact ⟨vs, SqL.of hq, by rw [← t.length]; exact List.getElem?_eq_none_iff.mp h⟩
    · cases h
  · rename_i u h
    split at h
    · rename_i us e1
      obtain ⟨vs, hq, t⟩ := M.cell _ _ _ hn1 e1
      injection h with h
      obtain ⟨v, h1, h2⟩ := t.get h
      refine ⟨⟨vs, v, SqL.of hq, h1⟩, fun x H' y => ?_⟩
      obtain ⟨eH, y⟩ := y
      subst eH
      have := y vs (SqL.of hq)
      rw [h1] at this; cases this
      exact ⟨.refl, M, h2⟩
    · cases h
theorem wk_of {K : PySem.W.Frag} {H : Hp} {μ : List Addr} {m : Mem} {u : U} {v : V} {s : Src} (M : MOk K H μ m) (r : RU K H μ u v) (h : srcOf m u = some s) :
    ∃ a, v = .ref a ∧ ((isT u = true ∧ (∃ xs, SqT K H a xs) ∧ WkOk K (Itt K a) μ H s.next) ∨ (isT u = false ∧ (∃ xs, SqL K H a xs) ∧ WkOk K (Itl K a) μ H s.next)) := by
  cases r with
  | tup hq t => cases h; exact ⟨_, rfl, .inl ⟨rfl, ⟨_, hq⟩, wk_t hq t⟩⟩
  | rol hq t =>
    cases h
    have st : ∀ μ1 H1, Mono K μ H μ1 H1 → SqL K H1 _ _ := fun μ1 H1 mo => rol_sq (hq.imp (fun ⟨o, z⟩ => ⟨o, mo.fz _ _ _ z⟩) id)
    exact ⟨_, rfl, .inr ⟨rfl, ⟨_, rol_sq hq⟩, wk_l (fun H1 mo => st _ _ mo) st t⟩⟩
  | @ref n a hn =>
    unfold srcOf at h
    simp only at h
    split at h
    · rename_i us e1
      cases h
      obtain ⟨vs, hq, t⟩ := M.cell _ _ _ hn e1
      exact ⟨a, rfl, .inr ⟨rfl, ⟨vs, SqL.of hq⟩, wk_c hn⟩⟩
    · cases h
  | _ => cases h
/-- for .. in a tuple -/
def iTupOf (f : XD) : ID := fun ρ m => (f ρ m).bind fun u m1 => if isT u then ofB (srcOf m1 u) m1 else .bad
/-- for .. in a list -/
def iLstOf (f : XD) : ID := fun ρ m => (f ρ m).bind fun u m1 => if isT u then .bad else ofB (srcOf m1 u) m1
theorem si_tup (h : SE X c W e f) : SI X c W tg e (iTupOf f) := (pi_tup h).imp fun σ H R ⟨ρ, m, μ, E, M, p⟩ => ⟨ρ, m, μ, E, M, p.bind.imp fun μ1 H1 m1 u s1 M1 p1 v r => by
  split at p1
  · rename_i hT
    cases q : srcOf m1 u with
    | none => rw [q] at p1; exact False.elim p1
    | some s =>
      rw [q] at p1
      obtain ⟨a, e1, h1⟩ := wk_of M1 r q
      rcases h1 with ⟨_, h2, h3⟩ | ⟨h2, _⟩
      · exact ⟨a, e1, h2, p1.ok_at M1 _ h3⟩
      · rw [hT] at h2; cases h2
  · exact False.elim p1⟩
theorem si_lst (h : SE X c W e f) : SI X c W tg e (iLstOf f) := (pi_list h).imp fun σ H R ⟨ρ, m, μ, E, M, p⟩ => ⟨ρ, m, μ, E, M, p.bind.imp fun μ1 H1 m1 u s1 M1 p1 v r => by
  split at p1
  · exact False.elim p1
  · rename_i hT
    cases q : srcOf m1 u with
    | none => rw [q] at p1; exact False.elim p1
    | some s =>
      rw [q] at p1
      obtain ⟨a, e1, h1⟩ := wk_of M1 r q
      rcases h1 with ⟨h2, _⟩ | ⟨_, h2, h3⟩
      · exact absurd h2 hT
      · exact ⟨a, e1, h2, p1.ok_at M1 _ h3⟩⟩
theorem wk_r {K : PySem.W.Frag} {H : Hp} {μ : List Addr} {lo : Int} {n : Nat} : WkOk K (Itr lo n) μ H (Src.fix (runI lo n)).next := wk_fix fun i μ1 H1 m mo M _ => by
  rw [runI_get]
  by_cases h : i < n
  · rw [if_pos h]
    refine ⟨h, fun x H' y => ?_⟩
    obtain ⟨e1, e2⟩ := y
    subst e1 e2
    exact ⟨.refl, M, .int _⟩
  · rw [if_neg h]
    exact Nat.le_of_not_lt h
theorem si_range1 {a : Expr} {p pos : Pos} (hp : PI X tg (.Call (.Name "range" p) [a] [] pos) (iRng1 (rdL (wX X c) W fl))) : SI X c W tg (.Call (.Name "range" p) [a] [] pos) (iRange1 fl) := hp.imp fun σ H R ⟨ρ, m, μ, E, M, p⟩ => ⟨ρ, m, μ, E, M, p.bind.imp fun μ1 H1 m1 us s1 M1 p1 vs r => by
  split at p1
  · rename_i j
    cases r with
    | cons r1 r2 =>
      cases r1; cases r2
      split at p1
      · rename_i hz
        exact ⟨j, rfl, hz.1, hz.2, p1.ok_at M1 _ wk_r⟩
      · exact False.elim p1
  · exact False.elim p1⟩
theorem si_range2 {a b : Expr} {p pos : Pos} (hp : PI X tg (.Call (.Name "range" p) [a, b] [] pos) (iRng2 (rdL (wX X c) W fl))) : SI X c W tg (.Call (.Name "range" p) [a, b] [] pos) (iRange2 fl) := hp.imp fun σ H R ⟨ρ, m, μ, E, M, p⟩ => ⟨ρ, m, μ, E, M, p.bind.imp fun μ1 H1 m1 us s1 M1 p1 vs r => by
  split at p1
  · rename_i i j
    cases r with
    | cons r1 r2 =>
      cases r2 with
      | cons r2 r3 =>
        cases r1; cases r2; cases r3
        split at p1
        · rename_i hz
          exact ⟨i, j, rfl, hz, p1.ok_at M1 _ wk_r⟩
        · exact False.elim p1
  · exact False.elim p1⟩
end
end Ev

set_option Elab.async false
set_option linter.all false
set_option maxRecDepth 100000
set_option maxHeartbeats 2000000
/-! Ev: list comprehensions. -/
namespace Ev
open PySem PySem.Spec L2

def wipeU (ρ : Env) : List Nat → Env
  | [] => ρ
  | v :: vs => (wipeU ρ vs).set v none
theorem wipeU_len (ρ : Env) : ∀ vs : List Nat, (wipeU ρ vs).length = ρ.length
  | [] => rfl
  | v :: vs => by rw [wipeU, List.length_set, wipeU_len ρ vs]
theorem wipeU_some {ρ : Env} {i : Nat} {x : U} : ∀ {vs : List Nat}, (wipeU ρ vs)[i]? = some (some x) → ρ[i]? = some (some x) ∧ i ∉ vs
  | [], h => ⟨h, by simp⟩
  | v :: vs, h => by
    rw [wipeU] at h
    by_cases hi : v = i
    · subst hi
      by_cases hv : v < (wipeU ρ vs).length
      · rw [List.getElem?_set_self hv] at h; cases h
      · rw [List.getElem?_eq_none (by simpa using hv)] at h; cases h
    · rw [List.getElem?_set_ne hi] at h
      obtain ⟨h1, h2⟩ := wipeU_some h
      exact ⟨h1, by simp only [List.mem_cons, not_or]; exact ⟨fun e => hi e.symm, h2⟩⟩
theorem EOk.wipe {K : PySem.W.Frag} {H : Hp} {μ : List Addr} {ρ : Env} {σ : L2.St} (E : EOk K H μ ρ σ) (vs : List Nat) : EOk K H μ (wipeU ρ vs) (wipe σ vs) :=
  ⟨by rw [wipeU_len, wipe_length, E.len], fun i u h => by
    obtain ⟨h1, h2⟩ := wipeU_some h
    obtain ⟨v, e, r⟩ := E.at_ i u h1
    exact ⟨v, by rw [wipe_out h2]; exact e, r⟩⟩
/-- a target that stores at vs alone -/
def GW (K : PySem.W.Frag) (g0 : TG) (g : GD) (vs : List Nat) : Prop := ∀ (u : U) (ρ : Env) (m : Mem) (v : V) (σ : L2.St) (H : Hp) (μ : List Addr) (Q : L2.St → Hp → Prop), RU K H μ u v → EOk K H μ ρ σ → MOk K H μ m →
  PostO K μ H (g u ρ m) (fun μ' H' _ ρ' => ∀ σ', EOk K H' μ' ρ' σ' → wipe σ' vs = wipe σ vs → Q σ' H') → g0 v σ H Q
def GWs (K : PySem.W.Frag) (g0 : TGs) (g : GL) (vs : List Nat) : Prop := ∀ (u : List U) (ρ : Env) (m : Mem) (v : List V) (σ : L2.St) (H : Hp) (μ : List Addr) (Q : L2.St → Hp → Prop), RUs K H μ u v → EOk K H μ ρ σ → MOk K H μ m →
  PostO K μ H (g u ρ m) (fun μ' H' _ ρ' => ∀ σ', EOk K H' μ' ρ' σ' → wipe σ' vs = wipe σ vs → Q σ' H') → g0 v σ H Q
theorem wipe_set {σ : L2.St} {i : Nat} {x : Option V} : ∀ {vs : List Nat}, i ∈ vs → wipe (σ.set i x) vs = wipe σ vs
  | v :: vs, h => by
    rw [L2.wipe, L2.wipe]
    by_cases hv : i ∈ vs
    · rw [wipe_set hv]
    · have e : i = v := by simpa [hv] using h
      subst e
      have com : ∀ (ws : List Nat), i ∉ ws → wipe (σ.set i x) ws = (wipe σ ws).set i x := by
        intro ws
        induction ws with
        | nil => intro _; rfl
        | cons w ws ih =>
          intro hw
          simp only [List.mem_cons, not_or] at hw
          rw [L2.wipe, L2.wipe, ih hw.2, List.set_comm]
          exact hw.1
      rw [com vs hv, List.set_set]
theorem gw_name {K : PySem.W.Frag} {i : Nat} {vs : List Nat} (h : i ∈ vs) : GW K (L2.gName i) (gName i) vs := fun u ρ m v σ H μ Q r E M p => p.here M _ (E.set r) (wipe_set h)
theorem gw_nil {K : PySem.W.Frag} {vs : List Nat} : GWs K L2.gNil gNil vs := fun u ρ m v σ H μ Q r E M p => by
  cases r with
  | nil => exact ⟨rfl, p.here M _ E rfl⟩
  | cons _ _ => exact no_op p
theorem gw_cons {K : PySem.W.Frag} {g0 : TG} {gs0 : TGs} {g : GD} {gs : GL} {vs : List Nat} (h1 : GW K g0 g vs) (h2 : GWs K gs0 gs vs) : GWs K (L2.gCons g0 gs0) (gCons g gs) vs := fun us ρ m v σ H μ Q r E M p => by
  cases r with
  | nil => exact no_op p
  | @cons u us v vs r1 r2 =>
    refine ⟨_, _, rfl, h1 u ρ m _ _ _ μ _ r1 E M ?_⟩
    unfold gCons at p
    simp only at p
    cases q : g u ρ m with
    | none => rw [q] at p; exact no_op p
    | some z =>
      obtain ⟨ρ1, m1⟩ := z
      rw [q] at p
      simp only at p
      exact fun μ1 H1 s1 M1 σ1 E1 w1 => h2 us ρ1 m1 _ _ _ μ1 _ (r2.step s1) E1 M1 (by
        cases q2 : gs us ρ1 m1 with
        | none => rw [q2] at p; exact no_op p
        | some z => rw [q2] at p; exact fun μ2 H2 s2 M2 σ2 E2 w2 => p μ2 H2 (s1.trans s2) M2 σ2 E2 (w2.trans w1))
theorem gw_tup {K : PySem.W.Frag} {gs0 : TGs} {gs : GL} {n : Nat} {vs : List Nat} (h : GWs K gs0 gs vs) : GW K (L2.gTup K n gs0) (gTup n gs) vs := fun u ρ m v σ H μ Q r E M p => by
  cases r with
  | tup hq t =>
    unfold gTup at p
    simp only at p
    split at p
    · rename_i hl
      exact ⟨_, _, rfl, hq, by rw [← t.length]; exact hl, h _ ρ m _ _ _ μ _ t E M p⟩
    · exact no_op p
  | _ => exact no_op p

/-! ### [e for g in s if t] -/
def compL (g : GD) (t : XT) (e : XD) (ρ : Env) : List U → Mem → O (List U)
  | [], m => some ([], m)
  | u :: us, m => match g u ρ m with
    | none => none
    | some (ρ1, m1) => match toO (t ρ1 m1) with
      | none => none
      | some (b, m2) => if b then match toO (e ρ1 m2) with
          | none => none
          | some (y, m3) => match compL g t e ρ us m3 with
            | none => none
            | some (ys, m4) => some (y :: ys, m4)
        else compL g t e ρ us m2
def compN (nx : Nat → Mem → Option (Option U)) (g : GD) (t : XT) (e : XD) (ρ : Env) : Nat → Nat → Mem → O (List U)
  | 0, _, _ => none
  | k + 1, i, m => match nx i m with
    | none => none
    | some none => some ([], m)
    | some (some u) => match g u ρ m with
      | none => none
      | some (ρ1, m1) => match toO (t ρ1 m1) with
        | none => none
        | some (b, m2) => if b then match toO (e ρ1 m2) with
            | none => none
            | some (y, m3) => match compN nx g t e ρ k (i + 1) m3 with
              | none => none
              | some (ys, m4) => some (y :: ys, m4)
          else compN nx g t e ρ k (i + 1) m2
def compR (g : GD) (t : XT) (e : XD) (ρ : Env) : Src → Mem → O (List U)
  | .fix us => compL g t e ρ us
  | .dyn k nx => compN nx g t e ρ k 0
def oList (o : O (List U)) : O U := match o with
  | some (us, m) => if us.length ≤ sizeLine then some (.ref m.length, m ++ [.lst us]) else none
  | none => none
def dLc (f : ID) (g : GD) (t : XT) (e : XD) (vs : List Nat) : XD := fun ρ m => (f ρ m).bind fun s m1 => ofO (oList (compR g t e (wipeU ρ vs) s m1))
def tYesU : XT := fun _ m => .ok true m
theorem compL_N {us : List U} {g : GD} {t : XT} {e : XD} {ρ : Env} : ∀ (k i : Nat), i ≤ us.length → us.length < i + k → compL g t e ρ (us.drop i) = compN (Src.fix us).next g t e ρ k i
  | 0, i, h, h2 => by omega
  | k + 1, i, h, h2 => by
    funext m
    rw [compN, fix_next h]
    by_cases hi : i < us.length
    · have e : us.drop i = us[i] :: us.drop (i + 1) := List.drop_eq_getElem_cons hi
      have e2 : us[i]? = some us[i] := List.getElem?_eq_getElem hi
      rw [e, compL, compL_N k (i + 1) hi (by omega), e2]
    · have e : us.drop i = [] := List.drop_eq_nil_of_le (by omega)
      have e2 : us[i]? = none := List.getElem?_eq_none (by omega)
      rw [e, e2]
      rfl
theorem compR_N (s : Src) (g : GD) (t : XT) (e : XD) (ρ : Env) : ∃ k, compR g t e ρ s = compN s.next g t e ρ k 0 := by
  cases s with
  | fix us => exact ⟨us.length + 1, by have := compL_N (us := us) (g := g) (t := t) (e := e) (ρ := ρ) (us.length + 1) 0 (Nat.zero_le _) (by omega); rw [List.drop_zero] at this; exact this⟩
  | dyn k nx => exact ⟨k, rfl⟩
section
variable {K : PySem.W.Frag} {H H1 : Hp} {μ μ1 : List Addr} {D : Addr} {xs ys : List V}
/-- the new list grows: what was ahead of it is as it was -/
theorem Step.grow (s : Step K μ1 H1 μ H) (hD : H1 D = none) (hL : H D = some (.lst xs)) : Step K μ1 H1 μ (upd H D (.lst ys)) := by
  have ne : ∀ b o, H1 b = some o → b ≠ D := fun b o h => ne_of_none h hD
  refine ⟨s.ext, fun b o h n hp => by rw [upd_ne (ne b o h)]; exact s.keep b o h n hp, fun b o h n => ?_, fun a vs h => kt_set hL rfl a vs (s.kt a vs h), fun b o u h => by rw [upd_ne (ne b _ h)]; exact s.fz b o u h⟩
  obtain ⟨h1, o', h2⟩ := s.stay b o h n
  exact ⟨h1, o', by rw [upd_ne (ne b o h)]; exact h2⟩
theorem Mono.grow (hL : H D = some (.lst xs)) : Mono K μ H μ (upd H D (.lst ys)) := ⟨⟨[], by simp⟩, kt_set hL rfl, fun b o u h => by
  rw [upd_ne fun z => by subst z; rw [hL] at h; cases h]; exact h⟩
end
section
variable {X : Cx} {c : Nat → Addr} {W : WX} {e : Expr} {f : ID} {g0 : TG} {g : GD} {t : XT} {fe : XD} {vs : List Nat}
/-- the reading of a comprehension, by its function -/
theorem lc_of (hg : GW X.K g0 g vs) {σ : L2.St} {H : Hp} {Q : VK} (q : rdE (wX X c) W (dLc f g t fe vs) σ H Q) :
    tLc (rdI (wX X c) W f) g0 (rdT (wX X c) (fun _ _ _ _ => False) t) (rdE (wX X c) (fun _ _ _ _ => False) fe) vs σ H Q := by
  obtain ⟨ρ, m, μ, E, M, p⟩ := q
  refine ⟨ρ, m, μ, E, M, p.bind.imp fun μ1 H1 m1 src s1 M1 p1 J hJ D hD => ?_⟩
  obtain ⟨k, hk⟩ := compR_N src g t fe (wipeU ρ vs)
  rw [hk] at p1
  have p1 := p1.o
  have E1 := (E.step s1).wipe vs
  -- acc ahead, what is left behind
  let Fin : List U → O (List U) → Prop := fun acc o => match o with
    | some (ys, m') => (acc ++ ys).length ≤ sizeLine ∧ ∀ μ' H', Step X.K μ1 H1 μ' H' → MOk X.K H' μ' (m' ++ [.lst (acc ++ ys)]) → ∀ v, RU X.K H' μ' (.ref m'.length) v → Q v H'
    | none => False
  have fin0 : Fin [] (compN src.next g t fe (wipeU ρ vs) k 0 m1) := by
    cases q : compN src.next g t fe (wipeU ρ vs) k 0 m1 with
    | none => rw [q] at p1; exact p1
    | some z =>
      obtain ⟨ys, m'⟩ := z
      rw [q] at p1
      unfold oList at p1
      simp only at p1
      split at p1
      · rename_i hz
        exact ⟨hz, fun μ' H' s' M' => p1 μ' H' s' M'⟩
      · exact no_op p1
  refine ⟨fun i n H => ∃ (m : Mem) (μ : List Addr) (acc : List U) (accV : List V), Step X.K μ1 H1 μ H ∧ D ∉ μ ∧ H D = some (.lst accV) ∧ RUs X.K H μ acc accV ∧ MOk X.K H μ m ∧ Fin acc (compN src.next g t fe (wipeU ρ vs) n i m),
    ⟨k, m1, μ1, [], [], .newT hD, M1.nin hD, upd_same, .nil, M1.newT hD, fin0⟩, ?_⟩
  rintro i n H ⟨m, μ, acc, accV, st, nD, hL, ra, M, fin⟩
  cases n with
  | zero => exact False.elim fin
  | succ n =>
    have hj := hJ i μ H m st.mono M
    rw [compN] at fin
    cases e : src.next i m with
    | none => simp only [e] at fin; exact False.elim fin
    | some o =>
      cases o with
      | none =>
        simp only [e] at fin hj
        refine .inl ⟨hj, ?_⟩
        obtain ⟨hz, fin⟩ := fin
        rw [List.append_nil] at fin
        refine fin (μ ++ [D]) H ⟨?_, st.keep, fun b o h n => ?_, st.kt, st.fz⟩ ?_ _ (.ref (by rw [← M.len]; simp))
        · obtain ⟨tt, e2⟩ := st.ext
          exact ⟨tt ++ [D], by rw [e2, List.append_assoc]⟩
        · obtain ⟨h1, h2⟩ := st.stay b o h n
          exact ⟨fun z => by
            rcases List.mem_append.mp z with z | z
            · exact h1 z
            · exact ne_of_none h hD (by simpa using z), h2⟩
        · have mo : Mono X.K μ H (μ ++ [D]) H := ⟨⟨[D], rfl⟩, fun _ _ h => h, fun _ _ _ h => h⟩
          refine ⟨by simp [M.len], ?_, fun k a d h1 h2 => ?_⟩
          · rw [List.nodup_append]
            exact ⟨M.nd, by simp, fun x hx y hy e => nD (by rw [← (by simpa using hy : y = D), ← e]; exact hx)⟩
          · by_cases hn : k < μ.length
            · rw [List.getElem?_append_left hn] at h1
              rw [List.getElem?_append_left (by rw [← M.len]; exact hn)] at h2
              exact (M.cell k a d h1 h2).mo mo rfl
            · rw [List.getElem?_append_right (Nat.le_of_not_lt hn)] at h1
              rw [List.getElem?_append_right (by rw [← M.len]; exact Nat.le_of_not_lt hn)] at h2
              have h1' : a = D ∧ k - μ.length = 0 := by
                cases e : k - μ.length with
                | zero => rw [e] at h1; simp at h1; exact ⟨h1.symm, rfl⟩
                | succ k => rw [e] at h1; simp at h1
              rw [M.len] at h1'
              rw [h1'.2] at h2
              simp at h2
              subst h2
              rw [h1'.1]
              exact ⟨accV, hL, ra.mo mo⟩
      | some u =>
        simp only [e] at fin hj
        refine .inr ⟨hj.1, fun H' => ∃ (m : Mem) (μ : List Addr) (acc : List U) (accV : List V), Step X.K μ1 H1 μ H' ∧ D ∉ μ ∧ H' D = some (.lst accV) ∧ RUs X.K H' μ acc accV ∧ MOk X.K H' μ m ∧ Fin acc (compN src.next g t fe (wipeU ρ vs) n (i + 1) m), fun H' z => ⟨n, Nat.lt_succ_self n, z⟩, fun x H' y => ?_⟩
        obtain ⟨s2, M2, r2⟩ := hj.2 x H' y
        have E2 := (E1.step st).step s2
        refine hg u (wipeU ρ vs) m x _ H' μ _ r2 E2 M2 ?_
        cases q1 : g u (wipeU ρ vs) m with
        | none => simp only [q1] at fin; exact False.elim fin
        | some z =>
          obtain ⟨ρ3, m3⟩ := z
          simp only [q1] at fin
          refine fun μ3 H3 s3 M3 σ3 E3 w3 => ⟨w3.trans ?_, ?_⟩
          · -- wiped twice
            have idem : ∀ (σ : L2.St) (ws us : List Nat), (∀ i ∈ ws, i ∈ us) → wipe (wipe σ ws) us = wipe σ us := by
              intro σ ws
              induction ws with
              | nil => intro us _; rfl
              | cons w ws ih =>
                intro us h
                rw [show wipe σ (w :: ws) = (wipe σ ws).set w none from rfl, wipe_set (h w (by simp)), ih us fun i hi => h i (by simp [hi])]
            exact idem σ vs vs fun _ h => h
          cases q2 : toO (t ρ3 m3) with
          | none => simp only [q2] at fin; exact False.elim fin
          | some z =>
            obtain ⟨b, m4⟩ := z
            simp only [q2] at fin
            refine ⟨ρ3, m3, μ3, E3, M3, toO_post (w := wX X c) q2 fun μ4 H4 s4 M4 => ?_⟩
            have st4 := ((st.trans s2).trans s3).trans s4
            have stay4 := ((s2.trans s3).trans s4)
            have hL4 : H4 D = some (.lst accV) := stay4.keep D _ hL nD (fun ps z => by cases z)
            have nD4 := (stay4.stay D _ hL nD).1
            have ra4 := ra.step stay4
            cases b with
            | false => exact ⟨m4, μ4, acc, accV, st4, nD4, hL4, ra4, M4, fin⟩
            | true =>
              simp only [if_true] at fin ⊢
              cases q3 : toO (fe ρ3 m4) with
              | none => simp only [q3] at fin; exact False.elim fin
              | some z =>
                obtain ⟨y, m5⟩ := z
                simp only [q3] at fin
                refine ⟨ρ3, m4, μ4, E3.step s4, M4, toO_post (w := wX X c) q3 fun μ5 H5 s5 M5 v5 r5 => ?_⟩
                have hL5 : H5 D = some (.lst accV) := s5.keep D _ hL4 nD4 (fun ps z => by cases z)
                have nD5 := (s5.stay D _ hL4 nD4).1
                have ra5 := ra4.step s5
                have st5 := st4.trans s5
                have mo := Mono.grow (K := X.K) (μ := μ5) (ys := accV ++ [v5]) hL5
                cases q4 : compN src.next g t fe (wipeU ρ vs) n (i + 1) m5 with
                | none => rw [q4] at fin; exact False.elim fin
                | some z =>
                  obtain ⟨ys, m6⟩ := z
                  rw [q4] at fin
                  obtain ⟨hz, fin⟩ := fin
                  refine ⟨accV, hL5, ?_, m5, μ5, acc ++ [y], accV ++ [v5], st5.grow hD hL5, nD5, upd_same, (ra5.append (.cons r5 .nil)).mo mo, M5.mo mo fun a ha => by rw [upd_ne fun z : a = D => nD5 (by rw [← z]; exact ha)], ?_⟩
                  · have := ra5.length
                    rw [List.length_append, List.length_cons] at hz
                    omega
                  · rw [q4]
                    refine ⟨?_, ?_⟩
                    · rw [List.append_assoc]; exact hz
                    · rw [List.append_assoc]; exact fin
theorem se_lc (hg : GW X.K g0 g vs) (h : PE X e (tLc (rdI (wX X c) W f) g0 (rdT (wX X c) (fun _ _ _ _ => False) t) (rdE (wX X c) (fun _ _ _ _ => False) fe) vs)) : SE X c W e (dLc f g t fe vs) := h.imp fun σ H Q q => lc_of hg q
/-- name = [..] -/
theorem ss_lc {i : Nat} {st : Stmt} (hg : GW X.K g0 g vs) (h : PS X st (tAsg (tLc (rdI (wX X c) W f) g0 (rdT (wX X c) (fun _ _ _ _ => False) t) (rdE (wX X c) (fun _ _ _ _ => False) fe) vs) (L2.gName i))) : SS X c W st (sAsg (dLc f g t fe vs) (gName i)) :=
  h.imp fun D σ H ⟨ρ, m, μ, E, M, p⟩ => lc_of (W := W) hg ⟨ρ, m, μ, E, M, (PostS.thenE E p).imp fun μ1 H1 m1 u s1 M1 p1 v r => by
    have p2 := PostS.thenO p1
    exact (p2 μ1 H1 .refl M1).nx M1 ((E.step s1).set r)⟩
def rdTs (w : W0) (W : WX) (f : XT) : TT := rdT w W f
theorem sts_nil : PTs X [] (rdT (wX X c) W tYesU) := ⟨fun p s σ H Q I ⟨ρ, m, μ, E, M, q⟩ => pts_nil.run p s σ H Q I (q.ok_at M)⟩
theorem sts_one {d : Expr} (h : ST X c W d t) : PTs X [d] (rdT (wX X c) W t) := pts_one h
end
end Ev

set_option Elab.async false
set_option linter.all false
set_option maxRecDepth 100000
set_option maxHeartbeats 2000000
/-! Ev: defs, their calls, raise; calls of built-ins. -/
namespace Ev
open PySem PySem.Spec L2

/-! ### a def -/
def finS : RS → R U
  | .ok (.rt u) _ m => .ok u m
  | .ok .nx _ m => .ok .non m
  | .err x _ m => .err x m
  | _ => .bad
/-- a body with l names, called with us -/
def runB (l n : Nat) (b : SD) (us : List U) (m : Mem) : R U := if us.length = n then finS (b (us.map some ++ List.replicate (l - us.length) none) m) else .bad
def spF (K : PySem.W.Frag) (c : Nat → Addr) (n : Nat) (F : List U → Mem → R U) : Sp := fun vs H Q E => vs.length = n ∧ ∃ us m μ, RUs K H μ us vs ∧ MOk K H μ m ∧ Post ⟨K, c⟩ (fun cls d _ H' => E cls d H') [] μ H (F us m) fun μ' H' _ u => ∀ v, RU K H' μ' u v → Q v H'
theorem start_ok {K : PySem.W.Frag} {H : Hp} {μ : List Addr} {us : List U} {vs : List V} {N : List Str} (r : RUs K H μ us vs) : EOk K H μ (us.map some ++ List.replicate (N.length - us.length) none) (L2.start N vs) := by
  unfold L2.start
  refine ⟨by simp [r.length], fun i u h => ?_⟩
  by_cases hi : i < us.length
  · rw [List.getElem?_append_left (by simpa using hi), List.getElem?_map] at h
    cases e : us[i]? with
    | none => rw [e] at h; cases h
    | some x =>
      rw [e] at h
      cases h
      obtain ⟨v, h1, h2⟩ := r.get e
      refine ⟨v, ?_, h2⟩
      rw [List.getElem?_append_left (by rw [List.length_map, ← r.length]; exact hi), List.getElem?_map, h1]
      rfl
  · rw [List.getElem?_append_right (by simpa using Nat.le_of_not_lt hi)] at h
    have := List.mem_of_getElem? h
    rw [List.mem_replicate] at this
    cases this.2
section
variable {P : Program} {w : World} {K : PySem.W.Frag} {mg : Str → Option Value} {base : Heap} {c : Nat → Addr}
theorem fn_ev {x qual : Str} {st : Stmt} {f : Addr} {fd : FuncData} {N ps : List Str} {k : Nat} {b : SD} (F : Fun K x qual st f fd) (S : FnScope N ps (defScope st))
    (hbody : ∀ (cdv : Value) (A : Around) (outer : List PySem.Env) (s : Shared) (H : Hp) (E : XK), Room k (A.deeper (PyProof.Rows.envOfC qual (defScope st) s.heap.objs.size f cdv)) →
      SB (cxOf (L2.CX P w) P w K mg base N qual (defScope st) f cdv A outer s H E) c (fun cls d _ H' => E cls d H') (defBody st) b) : FnOk P w K mg base (L2.CX P w) (k + 1) f fd ps (spF K c ps.length (runB N.length ps.length b)) :=
  F.okX S (fun vs H Q E h => h.1) fun cdv A outer s H vs Q E hr h => ⟨_, hbody cdv A outer s H E hr, by
    obtain ⟨hl, us, m, μ, r, M, p⟩ := h
    have hu : us.length = ps.length := r.length.trans hl
    unfold runB at p
    rw [if_pos hu] at p
    refine ⟨_, m, μ, start_ok r, M, ?_⟩
    cases e : b (us.map some ++ List.replicate (N.length - us.length) none) m with
    | bad => rw [e] at p; exact False.elim p
    | err x ρ' m' => rw [e] at p; exact fun μ' H' σ' d s' M' _ ex => p μ' H' d s' M' ex
    | ok fl ρ' m' =>
      rw [e] at p
      cases fl with
      | nx => exact fun μ' H' σ' s' M' _ => p μ' H' s' M' _ .non
      | rt u => exact fun μ' H' σ' s' M' _ => p μ' H' s' M'
      | bk => exact False.elim p
      | ct => exact False.elim p⟩
theorem fn_ev2 {x qual : Str} {st : Stmt} {f : Addr} {fd : FuncData} {N ps : List Str} {k l n : Nat} {b : SD} {F0 : List U → Mem → R U} (F : Fun K x qual st f fd) (S : FnScope N ps (defScope st)) (hl : N.length = l) (hn : ps.length = n) (hF : F0 = runB l n b)
    (hbody : ∀ (cdv : Value) (A : Around) (outer : List PySem.Env) (s : Shared) (H : Hp) (E : XK), Room k (A.deeper (PyProof.Rows.envOfC qual (defScope st) s.heap.objs.size f cdv)) →
      SB (cxOf (L2.CX P w) P w K mg base N qual (defScope st) f cdv A outer s H E) c (fun cls d _ H' => E cls d H') (defBody st) b) : FnOk P w K mg base (L2.CX P w) (k + 1) f fd ps (spF K c n F0) := by
  subst hl hn hF
  exact fn_ev F S hbody
end
section
variable {X : Cx} {c : Nat → Addr} {W : WX} {e : Expr} {f : XD} {fr : XL} {es : List Expr}
theorem se_call {st : Expr} {n : Nat} {F : List U → Mem → R U} (h : PE X st (tCallS (spF X.K c n F) (WE W) (rdL (wX X c) W fr))) (hn : ∀ us m, us.length ≠ n → F us m = .bad) : SE X c W st (dCall F fr) :=
  h.imp fun σ H Q ⟨ρ, m, μ, E, M, p⟩ => ⟨ρ, m, μ, E, M, p.bind.imp fun μ1 H1 m1 us s1 M1 p1 vs rs => by
    have hu : us.length = n := by
      by_cases h : us.length = n
      · exact h
      · rw [hn us m1 h] at p1; exact False.elim p1
    refine ⟨rs.length.symm.trans hu, us, m1, μ1, rs, M1, ?_⟩
    cases q : F us m1 with
    | ok u m2 => rw [q] at p1; exact p1
    | err x m2 => rw [q] at p1; exact p1
    | bad => rw [q] at p1; exact p1⟩
theorem runB_bad {l n : Nat} {b : SD} : ∀ us m, us.length ≠ n → runB l n b us m = .bad := fun us m h => by unfold runB; rw [if_neg h]
/-! raise X('..') of a class without an own __init__ -/
def sRaise (k : Nat) : SD := fun ρ m => .err ⟨k, none⟩ ρ m
def sBad : SD := fun _ _ => .bad
theorem ss_raise {k : Nat} {st : Stmt} (h : PS X st (fun _ σ H => W (.ref (c k)) none σ H)) : SS X c W st (sRaise k) :=
  h.imp fun D σ H ⟨ρ, m, μ, E, M, p⟩ => p μ H σ none .refl M E rfl
theorem ss_never {st : Stmt} : SS X c W st sBad := ps_never.imp fun D σ H ⟨ρ, m, μ, E, M, p⟩ => p
/-! ### built-ins -/
theorem se_b {st : Expr} {F : List U → Mem → O U} (h : PE X st (tCB (rdC X.K F) (rdL (wX X c) W fr))) : SE X c W st (dB F fr) :=
  h.imp fun σ H Q ⟨ρ, m, μ, E, M, p⟩ => ⟨ρ, m, μ, E, M, p.bind.imp fun μ1 H1 m1 us s1 M1 p1 vs rs => ⟨us, m1, μ1, rs, M1, p1.o⟩⟩
end

def oLen : List U → Mem → O U
  | [.str z], m => if z.length ≤ sizeLine then some (.int z.length, m) else none
  | [.ref n], m => match m[n]? with
    | some (.lst us) => some (.int us.length, m)
    | some (.dK kvs) => some (.int kvs.length, m)
    | _ => none
  | [.tup us], m => some (.int us.length, m)
  | [.rol us], m => some (.int us.length, m)
  | _, _ => none
def oAbs : List U → Mem → O U
  | [.int i], m => some (.int (if i < 0 then -i else i), m)
  | _, _ => none
def oInt : List U → Mem → O U
  | [.int i], m => some (.int i, m)
  | [.bl b], m => some (.int (if b then 1 else 0), m)
  | _, _ => none
def oMax2 : List U → Mem → O U
  | [.int i, .int j], m => some (.int (if j > i then j else i), m)
  | _, _ => none
def oMin2 : List U → Mem → O U
  | [.int i, .int j], m => some (.int (if j < i then j else i), m)
  | _, _ => none
def oToTup : List U → Mem → O U
  | [u], m => (itemsOf m u).map fun us => (.tup us, m)
  | _, _ => none
def oToLst : List U → Mem → O U
  | [u], m => (itemsOf m u).map fun us => (.ref m.length, m ++ [.lst us])
  | _, _ => none
def bools : List U → Option (List Bool)
  | [] => some []
  | .bl b :: r => (bools r).map (b :: ·)
  | _ :: _ => none
def nums : List U → Option (List Int)
  | [] => some []
  | .int b :: r => (nums r).map (b :: ·)
  | _ :: _ => none
def oAll : List U → Mem → O U
  | [.ref n], m => match m[n]? with
    | some (.lst us) => (bools us).map fun bs => (.bl (bs.all id), m)
    | _ => none
  | _, _ => none
def oAny : List U → Mem → O U
  | [.ref n], m => match m[n]? with
    | some (.lst us) => (bools us).map fun bs => (.bl (bs.any id), m)
    | _ => none
  | _, _ => none
theorem bools_ok {K : PySem.W.Frag} {H : Hp} {μ : List Addr} : ∀ {us : List U} {vs : List V} {bs : List Bool}, RUs K H μ us vs → bools us = some bs → vs = bs.map V.bl
  | _, _, _, .nil, h => by cases h; rfl
  | _, _, _, .cons r t, h => by
    cases r with
    | bl b =>
      rw [bools] at h
      cases q : bools _ with
      | none => rw [q] at h; cases h
      | some bs => rw [q] at h; cases h; rw [bools_ok t q]; rfl
    | _ => cases h
theorem nums_ok {K : PySem.W.Frag} {H : Hp} {μ : List Addr} : ∀ {us : List U} {vs : List V} {bs : List Int}, RUs K H μ us vs → nums us = some bs → vs = bs.map V.int
  | _, _, _, .nil, h => by cases h; rfl
  | _, _, _, .cons r t, h => by
    cases r with
    | int b =>
      rw [nums] at h
      cases q : nums _ with
      | none => rw [q] at h; cases h
      | some bs => rw [q] at h; cases h; rw [nums_ok t q]; rfl
    | _ => cases h
theorem RUs.one {K : PySem.W.Frag} {H : Hp} {μ : List Addr} {u : U} {vs : List V} (r : RUs K H μ [u] vs) : ∃ v, vs = [v] ∧ RU K H μ u v := by
  cases r with | cons r t => cases t; exact ⟨_, rfl, r⟩
theorem RUs.two {K : PySem.W.Frag} {H : Hp} {μ : List Addr} {u z : U} {vs : List V} (r : RUs K H μ [u, z] vs) : ∃ v y, vs = [v, y] ∧ RU K H μ u v ∧ RU K H μ z y := by
  cases r with | cons r t => cases t with | cons r2 t => cases t; exact ⟨_, _, rfl, r, r2⟩
theorem RU.i {K : PySem.W.Frag} {H : Hp} {μ : List Addr} {i : Int} {v : V} (r : RU K H μ (.int i) v) : v = .int i := by cases r; rfl
theorem RU.s {K : PySem.W.Frag} {H : Hp} {μ : List Addr} {i : Str} {v : V} (r : RU K H μ (.str i) v) : v = .str i := by cases r; rfl
theorem RU.b {K : PySem.W.Frag} {H : Hp} {μ : List Addr} {i : Bool} {v : V} (r : RU K H μ (.bl i) v) : v = .bl i := by cases r; rfl
theorem RU.cl {K : PySem.W.Frag} {H : Hp} {μ : List Addr} {m : Mem} (M : MOk K H μ m) {n : Nat} {v : V} {us : List U} (r : RU K H μ (.ref n) v) (e : m[n]? = some (.lst us)) : ∃ a vs, v = .ref a ∧ μ[n]? = some a ∧ H a = some (.lst vs) ∧ RUs K H μ us vs := by
  cases r with
  | ref h =>
    obtain ⟨vs, q, t⟩ := M.cell _ _ _ h e
    exact ⟨_, vs, rfl, h, q, t⟩
section
variable {X : Cx}
theorem b_len : CallR X (.builtin "len") (rdC X.K oLen) := by
  intro pins s σ H xs us Q I rx h
  obtain ⟨vs, m, μ, r, M, p⟩ := h
  unfold oLen at p
  split at p
  · obtain ⟨v, rfl, r1⟩ := r.one
    cases r1.s
    split at p
    · rename_i hz
      exact call_len pins s σ H _ us Q I rx ⟨_, _, rfl, ⟨hz, rfl⟩, p.val M (.int _)⟩
    · exact no_op p
  · obtain ⟨v, rfl, r1⟩ := r.one
    split at p
    · rename_i e1
      obtain ⟨a, ws, rfl, _, hq, t⟩ := r1.cl M e1
      refine call_len_seq pins s σ H _ us Q I rx ⟨a, ws, rfl, .inl (SqL.of hq), ?_⟩
      rw [← t.length]
      exact p.val M (.int _)
    · rename_i e1
      cases r1 with
      | ref h =>
        obtain ⟨ws, hq, t⟩ := M.cell _ _ _ h e1
        refine call_lenD pins s σ H _ us Q I rx ⟨_, ws, rfl, hq, ?_⟩
        have : ws.length = _ := (Paired.length t).symm
        rw [this]
        exact p.val M (.int _)
    · exact no_op p
  · obtain ⟨v, rfl, r1⟩ := r.one
    cases r1 with
    | tup hq t =>
      refine call_len_seq pins s σ H _ us Q I rx ⟨_, _, rfl, .inr hq, ?_⟩
      rw [← t.length]
      exact p.val M (.int _)
  · obtain ⟨v, rfl, r1⟩ := r.one
    cases r1 with
    | rol hq t =>
      refine call_len_seq pins s σ H _ us Q I rx ⟨_, _, rfl, .inl (rol_sq hq), ?_⟩
      rw [← t.length]
      exact p.val M (.int _)
  · exact no_op p
theorem b_abs : CallR X (.builtin "abs") (rdC X.K oAbs) := by
  intro pins s σ H xs us Q I rx h
  obtain ⟨vs, m, μ, r, M, p⟩ := h
  unfold oAbs at p
  split at p
  · obtain ⟨v, rfl, r1⟩ := r.one
    cases r1.i
    exact call_abs pins s σ H _ us Q I rx ⟨_, rfl, p.val M (.int _)⟩
  · exact no_op p
theorem b_int : CallR X (.type "int") (rdC X.K oInt) := by
  intro pins s σ H xs us Q I rx h
  obtain ⟨vs, m, μ, r, M, p⟩ := h
  unfold oInt at p
  split at p
  · obtain ⟨v, rfl, r1⟩ := r.one
    cases r1.i
    exact call_int1 pins s σ H _ us Q I rx (.inl ⟨_, rfl, p.val M (.int _)⟩)
  · obtain ⟨v, rfl, r1⟩ := r.one
    cases r1.b
    exact call_int1 pins s σ H _ us Q I rx (.inr ⟨_, rfl, p.val M (.int _)⟩)
  · exact no_op p
theorem b_max2 (hc : X.calm = true) : CallR X (.builtin "max") (rdC X.K oMax2) := by
  intro pins s σ H xs us Q I rx h
  obtain ⟨vs, m, μ, r, M, p⟩ := h
  unfold oMax2 at p
  split at p
  · obtain ⟨v, y, rfl, r1, r2⟩ := r.two
    cases r1.i; cases r2.i
    exact call_max2 hc pins s σ H _ us Q I rx ⟨_, _, rfl, p.val M (.int _)⟩
  · exact no_op p
theorem b_min2 (hc : X.calm = true) : CallR X (.builtin "min") (rdC X.K oMin2) := by
  intro pins s σ H xs us Q I rx h
  obtain ⟨vs, m, μ, r, M, p⟩ := h
  unfold oMin2 at p
  split at p
  · obtain ⟨v, y, rfl, r1, r2⟩ := r.two
    cases r1.i; cases r2.i
    exact call_min2 hc pins s σ H _ us Q I rx ⟨_, _, rfl, p.val M (.int _)⟩
  · exact no_op p
theorem b_tuple : CallR X (.type "tuple") (rdC X.K oToTup) := by
  intro pins s σ H xs us Q I rx h
  obtain ⟨vs, m, μ, r, M, p⟩ := h
  unfold oToTup at p
  split at p
  · obtain ⟨v, rfl, r1⟩ := r.one
    cases e : itemsOf m _ with
    | none => rw [e] at p; exact no_op p
    | some ws =>
      rw [e] at p
      obtain ⟨a, zs, rfl, hq, t, h1, h2⟩ := items_ok M r1 e
      cases hT : isT _ with
      | true => exact call_tuple_of pins s σ H _ us Q I rx ⟨a, zs, rfl, .inr ⟨h1 hT, p.val M (.tup (h1 hT) t)⟩⟩
      | false => exact call_tuple_of pins s σ H _ us Q I rx ⟨a, zs, rfl, .inl ⟨h2 hT, fun l hl => p.tup M t hl⟩⟩
  · exact no_op p
theorem b_list : CallR X (.type "list") (rdC X.K oToLst) := by
  intro pins s σ H xs us Q I rx h
  obtain ⟨vs, m, μ, r, M, p⟩ := h
  unfold oToLst at p
  split at p
  · obtain ⟨v, rfl, r1⟩ := r.one
    cases e : itemsOf m _ with
    | none => rw [e] at p; exact no_op p
    | some ws =>
      rw [e] at p
      obtain ⟨a, zs, rfl, hq, t, h1, h2⟩ := items_ok M r1 e
      exact call_list_of pins s σ H _ us Q I rx ⟨a, zs, rfl, hq, fun l hl => p.lst M t hl⟩
  · exact no_op p
theorem b_all (hc : X.calm = true) : CallR X (.builtin "all") (rdC X.K oAll) := by
  intro pins s σ H xs us Q I rx h
  obtain ⟨vs, m, μ, r, M, p⟩ := h
  unfold oAll at p
  split at p
  · obtain ⟨v, rfl, r1⟩ := r.one
    split at p
    · rename_i e1
      obtain ⟨a, ws, rfl, _, hq, t⟩ := r1.cl M e1
      cases e2 : bools _ with
      | none => rw [e2] at p; exact no_op p
      | some bs =>
        rw [e2] at p
        have := bools_ok t e2
        subst this
        exact cr_all hc pins s σ H _ us Q I rx ⟨a, bs, rfl, SqL.of hq, p.val M (.bl _)⟩
    · exact no_op p
  · exact no_op p
theorem b_any (hc : X.calm = true) : CallR X (.builtin "any") (rdC X.K oAny) := by
  intro pins s σ H xs us Q I rx h
  obtain ⟨vs, m, μ, r, M, p⟩ := h
  unfold oAny at p
  split at p
  · obtain ⟨v, rfl, r1⟩ := r.one
    split at p
    · rename_i e1
      obtain ⟨a, ws, rfl, _, hq, t⟩ := r1.cl M e1
      cases e2 : bools _ with
      | none => rw [e2] at p; exact no_op p
      | some bs =>
        rw [e2] at p
        have := bools_ok t e2
        subst this
        exact cr_any hc pins s σ H _ us Q I rx ⟨a, bs, rfl, SqL.of hq, p.val M (.bl _)⟩
    · exact no_op p
  · exact no_op p
end

/-! ### isinstance -/
inductive Ty where
  | int | str | tuple | list | dict | bool
def Ty.nm : Ty → String
  | .int => "int" | .str => "str" | .tuple => "tuple" | .list => "list" | .dict => "dict" | .bool => "bool"
def Ty.isL : Ty → Bool
  | .list => true
  | _ => false
def Ty.isD : Ty → Bool
  | .dict => true
  | _ => false
def isTy (m : Mem) : Ty → U → Option Bool
  | t, .non => some false
  | .int, .bl _ => some true
  | .bool, .bl _ => some true
  | _, .bl _ => some false
  | .int, .int _ => some true
  | _, .int _ => some false
  | .str, .str _ => some true
  | _, .str _ => some false
  | .tuple, .tup _ => some true
  | _, .tup _ => some false
  | .list, .rol _ => some true
  | _, .rol _ => some false
  | t, .ref n => match m[n]? with
    | some (.lst _) => some t.isL
    | some _ => some t.isD
    | none => none
  | _, .ob _ => none
def dIsi (T : Ty) (f : XD) : XD := fun ρ m => (f ρ m).bind fun u m1 => match isTy m1 T u with
  | some b => .ok (.bl b) m1
  | none => .bad
theorem tyX_tup {K : PySem.W.Frag} {H : Hp} {a : Addr} {xs : List V} (h : SqT K H a xs) : TyX K H (.ref a) (.type "tuple") := by
  rcases h with (h | ⟨o, h⟩) | ⟨o, its, n, h, hc, _⟩
  · exact .base (.tup h)
  · exact .fTuple h
  · exact .kTuple h hc
theorem tyX_lst {K : PySem.W.Frag} {H : Hp} {a : Addr} {xs : List V} (h : SqL K H a xs) : TyX K H (.ref a) (.type "list") := by
  rcases h with (h | ⟨o, h⟩) | ⟨o, its, n, h, hc, _⟩
  · exact .base (.lst h)
  · exact .base (.frz h)
  · exact .kList h hc
section
variable {X : Cx} {c : Nat → Addr} {W : WX} {f : XD}
theorem se_isi {T : Ty} {st : Expr} (h : PE X st (tCB (rIsi X.K) (tCons (rdE (wX X c) W f) (tCons (tC (.ty T.nm)) tNil)))) : SE X c W st (dIsi T f) :=
  h.imp fun σ H Q ⟨ρ, m, μ, E, M, p⟩ => ⟨ρ, m, μ, E, M, p.bind.imp fun μ1 H1 m1 u s1 M1 p1 v r => by
    have fin : ∀ {b : Bool} {n : String}, isTy m1 T u = some b → TyX X.K H1 v (.type n) → kitB n T.nm = some b → rIsi X.K [v, .ty T.nm] H1 Q := fun {b n} e ty k => by
      rw [e] at p1
      exact ⟨v, _, _, _, b, rfl, .ty _, ty, kit_ty k, p1.ok_at M1 _ (.bl b)⟩
    show rIsi X.K [v, .ty T.nm] H1 Q
    cases r with
    | non => cases T <;> exact fin rfl (.base .non) (by decide +kernel)
    | bl b => cases T <;> exact fin rfl (.base (.bl b)) (by decide +kernel)
    | int i => cases T <;> exact fin rfl (.base (.int i)) (by decide +kernel)
    | str i => cases T <;> exact fin rfl (.base (.str i)) (by decide +kernel)
    | tup hq t => cases T <;> exact fin rfl (tyX_tup hq) (by decide +kernel)
    | rol hq t => cases T <;> exact fin rfl (tyX_lst (rol_sq hq)) (by decide +kernel)
    | @ref n a hn =>
      have M1' := M1.cell n a
      cases e : m1[n]? with
      | none => cases T <;> (simp only [isTy, e] at p1; exact False.elim p1)
      | some k =>
        cases k with
        | lst us =>
          obtain ⟨vs, hq, t⟩ := M1' _ hn e
          have e' : isTy m1 T (.ref n) = some T.isL := by cases T <;> simp [isTy, e]
          cases T <;> exact fin e' (tyX_lst (SqL.of hq)) (by decide +kernel)
        | dK us =>
          obtain ⟨vs, hq, t⟩ := M1' _ hn e
          have e' : isTy m1 T (.ref n) = some T.isD := by cases T <;> simp [isTy, e]
          cases T <;> exact fin e' (.base (.dK hq)) (by decide +kernel)
        | dT us =>
          obtain ⟨vs, hq, t⟩ := M1' _ hn e
          have e' : isTy m1 T (.ref n) = some T.isD := by cases T <;> simp [isTy, e]
          cases T <;> exact fin e' (.base (.dT hq)) (by decide +kernel)
    | ob w => cases T <;> (simp only [isTy] at p1; exact False.elim p1)⟩
end
end Ev

set_option Elab.async false
set_option linter.all false
set_option maxRecDepth 100000
set_option maxHeartbeats 2000000
/-! Ev: methods of built-in types; sums, orders, walks of several things. -/
namespace Ev
open PySem PySem.Spec L2

def rdM (K : PySem.W.Frag) (F : U → List U → Mem → O U) : V → List V → Hp → VK → Prop := fun x xs H Q => ∃ u us m μ, RU K H μ u x ∧ RUs K H μ us xs ∧ MOk K H μ m ∧ PostO K μ H (F u us m) fun μ' H' _ z => ∀ v, RU K H' μ' z v → Q v H'
inductive MTy where
  | list | str | dict
def MTy.nm : MTy → String
  | .list => "list" | .str => "str" | .dict => "dict"
def isMT (m : Mem) : MTy → U → Bool
  | .list, .rol _ => true
  | .list, .ref n => match m[n]? with
    | some (.lst _) => true
    | _ => false
  | .dict, .ref n => match m[n]? with
    | some (.dK _) => true
    | some (.dT _) => true
    | _ => false
  | .str, .str _ => true
  | _, _ => false
theorem isMT_ok {K : PySem.W.Frag} {H : Hp} {μ : List Addr} {m : Mem} (M : MOk K H μ m) {T : MTy} {u : U} {v : V} (r : RU K H μ u v) (h : isMT m T u = true) : tyV K T.nm v H := by
  unfold isMT at h
  split at h
  · cases r with | rol hq t => exact .inl ⟨rfl, _, rol_sq hq⟩
  · split at h
    · rename_i e
      obtain ⟨a, vs, rfl, _, hq, _⟩ := r.cl M e
      exact .inl ⟨rfl, _, SqL.of hq⟩
    · cases h
  · cases r with
    | ref hn =>
      split at h
      · rename_i e
        obtain ⟨vs, hq, _⟩ := M.cell _ _ _ hn e
        exact .inr (.inr (.inl ⟨rfl, .inl ⟨_, hq⟩⟩))
      · rename_i e
        obtain ⟨vs, hq, _⟩ := M.cell _ _ _ hn e
        exact .inr (.inr (.inl ⟨rfl, .inr ⟨_, hq⟩⟩))
      · cases h
  · cases r; rfl
  · cases h
def dM (T : MTy) (F : U → List U → Mem → O U) (fo : XD) (fr : XL) : XD := fun ρ m => (fo ρ m).bind fun o m1 => if isMT m1 T o then (fr ρ m1).bind fun us m2 => ofO (F o us m2) else .bad
def dM0 (T : MTy) (F : U → List U → Mem → O U) (fo : XD) : XD := fun ρ m => (fo ρ m).bind fun o m1 => if isMT m1 T o then ofO (F o [] m1) else .bad
section
variable {X : Cx} {c : Nat → Addr} {W : WX} {fo : XD} {fr : XL}
theorem se_m {T : MTy} {F : U → List U → Mem → O U} {st : Expr} (h : PE X st (tBM X.K T.nm (rdM X.K F) (rdE (wX X c) W fo) (rdL (wX X c) W fr))) : SE X c W st (dM T F fo fr) :=
  h.imp fun σ H Q ⟨ρ, m, μ, E, M, p⟩ => ⟨ρ, m, μ, E, M, p.bind.imp fun μ1 H1 m1 u s1 M1 p1 v r => by
    split at p1
    · rename_i hT
      exact ⟨isMT_ok M1 r hT, ρ, m1, μ1, E.step s1, M1, p1.bind.imp fun μ2 H2 m2 us s2 M2 p2 vs rs => ⟨u, us, m2, μ2, r.step s2, rs, M2, p2.o⟩⟩
    · exact False.elim p1⟩
theorem se_m0 {T : MTy} {F : U → List U → Mem → O U} {st : Expr} (h : PE X st (tBM0 X.K T.nm (rdM X.K F) (rdE (wX X c) W fo))) : SE X c W st (dM0 T F fo) :=
  h.imp fun σ H Q ⟨ρ, m, μ, E, M, p⟩ => ⟨ρ, m, μ, E, M, p.bind.imp fun μ1 H1 m1 u s1 M1 p1 v r => by
    split at p1
    · rename_i hT
      exact ⟨isMT_ok M1 r hT, u, [], m1, μ1, r, .nil, M1, p1.o⟩
    · exact False.elim p1⟩
end
/-! ### of lists -/
def oAppend : U → List U → Mem → O U
  | .ref n, [u], m => match m[n]? with
    | some (.lst us) => if us.length < sizeLine then some (.non, m.set n (.lst (us ++ [u]))) else none
    | _ => none
  | _, _, _ => none
def oExtend : U → List U → Mem → O U
  | .ref n, [.ref k], m => match m[n]?, m[k]? with
    | some (.lst us), some (.lst ws) => if us.length + ws.length ≤ sizeLine then some (.non, m.set n (.lst (us ++ ws))) else none
    | _, _ => none
  | _, _, _ => none
def oPop : U → List U → Mem → O U
  | .ref n, [], m => match m[n]? with
    | some (.lst us) => (us[us.length - 1]?).map fun u => (u, m.set n (.lst us.dropLast))
    | _ => none
  | .ref n, [.int i], m => match m[n]? with
    | some (.lst us) => if -(2 ^ 63) ≤ i ∧ i < 2 ^ 63 then (match seqIndex? i us.length with
      | some k => (us[k]?).map fun u => (u, m.set n (.lst (us.eraseIdx k)))
      | none => none) else none
    | _ => none
  | _, _, _ => none
def oCountI : U → List U → Mem → O U
  | u, [.int k], m => match itemsOf m u with
    | some us => if isT u then none else (nums us).map fun ns => (.int (ns.count k : Nat), m)
    | none => none
  | _, _, _ => none
theorem RUs.dropLast {K : PySem.W.Frag} {H : Hp} {μ : List Addr} {us : List U} {vs : List V} (r : RUs K H μ us vs) : RUs K H μ us.dropLast vs.dropLast := by
  rw [List.dropLast_eq_take, List.dropLast_eq_take, r.length]
  exact r.take _
theorem RUs.erase {K : PySem.W.Frag} {H : Hp} {μ : List Addr} : ∀ {us : List U} {vs : List V} (k : Nat), RUs K H μ us vs → RUs K H μ (us.eraseIdx k) (vs.eraseIdx k)
  | _, _, _, .nil => .nil
  | _, _, 0, .cons _ t => t
  | _, _, k + 1, .cons r t => .cons r (RUs.erase k t)
section
variable {X : Cx}
/-- a cell's list becomes another one -/
theorem PostO.setL {K : PySem.W.Frag} {μ : List Addr} {H : Hp} {m : Mem} {n : Nat} {a : Addr} {vs vs' : List V} {us' : List U} {z : U} {v : V} {Q : VK} (p : PostO K μ H (some (z, m.set n (.lst us'))) fun μ' H' _ z => ∀ v, RU K H' μ' z v → Q v H') (M : MOk K H μ m) (hn : μ[n]? = some a) (hq : H a = some (.lst vs)) (t : RUs K H μ us' vs')
    (r : RU K H μ z v) : Q v (upd H a (.lst vs')) :=
  p μ _ (.set (List.mem_of_getElem? hn) hq rfl) (M.set hn hq rfl ⟨vs', upd_same, t.step (.set (List.mem_of_getElem? hn) hq rfl)⟩) v (r.step (.set (List.mem_of_getElem? hn) hq rfl))
theorem m_append : MtR X "list.append" (rdM X.K oAppend) := by
  intro pins s σ H x xs v us Q I rx rxs h
  obtain ⟨u, ws, m, μ, r, rs, M, p⟩ := h
  unfold oAppend at p
  split at p
  · split at p
    · rename_i e
      split at p
      · rename_i hz
        obtain ⟨y, rfl, ry⟩ := rs.one
        obtain ⟨a, vs, rfl, hn, hq, t⟩ := r.cl M e
        exact mt_append pins s σ H _ _ v us Q I rx rxs ⟨a, vs, y, rfl, rfl, hq, by rw [← t.length]; exact hz, p.setL M hn hq (t.append (.cons ry .nil)) .non⟩
      · exact no_op p
    · exact no_op p
  · exact no_op p
theorem m_extend : MtR X "list.extend" (rdM X.K oExtend) := by
  intro pins s σ H x xs v us Q I rx rxs h
  obtain ⟨u, ws, m, μ, r, rs, M, p⟩ := h
  unfold oExtend at p
  split at p
  · split at p
    · rename_i e e2
      split at p
      · rename_i hz
        obtain ⟨y, rfl, ry⟩ := rs.one
        obtain ⟨a, vs, rfl, hn, hq, t⟩ := r.cl M e
        obtain ⟨b, zs, rfl, hn2, hq2, t2⟩ := ry.cl M e2
        exact mt_extend pins s σ H _ _ v us Q I rx rxs ⟨a, b, vs, zs, rfl, rfl, hq, hq2, by rw [← t.length, ← t2.length]; exact hz, p.setL M hn hq (t.append t2) .non⟩
      · exact no_op p
    · exact no_op p
  · exact no_op p
theorem m_pop : MtR X "list.pop" (rdM X.K oPop) := by
  intro pins s σ H x xs v us Q I rx rxs h
  obtain ⟨u, ws, m, μ, r, rs, M, p⟩ := h
  unfold oPop at p
  split at p
  · split at p
    · rename_i us1 e
      cases e3 : us1[us1.length - 1]? with
      | none => rw [e3] at p; exact no_op p
      | some z =>
        rw [e3] at p
        obtain ⟨a, vs, rfl, hn, hq, t⟩ := r.cl M e
        obtain ⟨y, h1, ry⟩ := t.get e3
        cases rs
        exact mt_pop pins s σ H _ _ v us Q I rx rxs ⟨a, vs, y, rfl, rfl, hq, by rw [← t.length]; exact h1, p.setL M hn hq t.dropLast ry⟩
    · exact no_op p
  · split at p
    · rename_i us1 e
      split at p
      · rename_i hz
        split at p
        · rename_i k ek
          cases e3 : us1[k]? with
          | none => rw [e3] at p; exact no_op p
          | some z =>
            rw [e3] at p
            obtain ⟨a, vs, rfl, hn, hq, t⟩ := r.cl M e
            obtain ⟨y, h1, ry⟩ := t.get e3
            obtain ⟨y2, rfl, r2⟩ := rs.one
            cases r2.i
            exact mt_popAt pins s σ H _ _ v us Q I rx rxs ⟨a, vs, _, k, y, rfl, rfl, hq, hz.1, hz.2, by rw [← t.length]; exact ek, h1, p.setL M hn hq (t.erase k) ry⟩
        · exact no_op p
      · exact no_op p
    · exact no_op p
  · exact no_op p
theorem m_countI : MtR X "list.count" (rdM X.K oCountI) := by
  intro pins s σ H x xs v us Q I rx rxs h
  obtain ⟨u, ws, m, μ, r, rs, M, p⟩ := h
  unfold oCountI at p
  split at p
  · split at p
    · rename_i us1 e
      split at p
      · exact no_op p
      · rename_i hT
        cases e2 : nums us1 with
        | none => rw [e2] at p; exact no_op p
        | some ns =>
          rw [e2] at p
          obtain ⟨y, rfl, ry⟩ := rs.one
          cases ry.i
          obtain ⟨a, vs, rfl, hq, t, h1, h2⟩ := items_ok M r e
          have hl := h2 (by simpa using hT)
          rw [nums_ok t e2] at hl
          exact mt_lcount pins s σ H _ _ v us Q I rx rxs ⟨a, ns, _, rfl, rfl, hl, p.val M (.int _)⟩
    · exact no_op p
  · exact no_op p
end
/-! ### of texts -/
def txts : List U → Option (List Str)
  | [] => some []
  | .str b :: r => (txts r).map (b :: ·)
  | _ :: _ => none
theorem txts_ok {K : PySem.W.Frag} {H : Hp} {μ : List Addr} : ∀ {us : List U} {vs : List V} {bs : List Str}, RUs K H μ us vs → txts us = some bs → vs = bs.map V.str
  | _, _, _, .nil, h => by cases h; rfl
  | _, _, _, .cons r t, h => by
    cases r with
    | str b =>
      rw [txts] at h
      cases q : txts _ with
      | none => rw [q] at h; cases h
      | some bs => rw [q] at h; cases h; rw [txts_ok t q]; rfl
    | _ => cases h
/-- a text's method without arguments -/
def oS0 (ok : Str → Bool) (f : Str → U) : U → List U → Mem → O U
  | .str z, [], m => if ok z then some (f z, m) else none
  | _, _, _ => none
def oS1 (ok : Str → Str → Bool) (f : Str → Str → U) : U → List U → Mem → O U
  | .str z, [.str y], m => if ok z y then some (f z y, m) else none
  | _, _, _ => none
def oSI (f : Str → Str → Int → U) : U → List U → Mem → O U
  | .str z, [.str y, .int i], m => some (f z y i, m)
  | _, _, _ => none
def lenOk (z : Str) : Bool := decide (z.length ≤ sizeLine)
def oStrip := oS0 lenOk fun z => .str (Txt.strip z)
def oRstrip := oS0 lenOk fun z => .str (Txt.rstrip z)
def oLower := oS0 (fun z => decide (z.length ≤ 5592405)) fun z => .str (Txt.lower z)
def oIsdigit := oS0 (fun _ => true) fun z => .bl (Txt.isdigit z)
def oIsalpha := oS0 (fun _ => true) fun z => .bl (Txt.isalpha z)
def oIsascii := oS0 (fun _ => true) fun z => .bl (Txt.isascii z)
def oIsprintable := oS0 (fun _ => true) fun z => .bl (Txt.isprintable z)
def oFind := oS1 (fun _ _ => true) fun z y => .int (Txt.find z y)
def oFind3 := oSI fun z y i => .int (Txt.find3 z y i)
section
variable {X : Cx}
theorem m_s0 {id : String} {ok : Str → Bool} {f : Str → U} {C : Str → Prop} {g : Str → V} (h : MtR X id (fun x xs H Q => ∃ a, x = .str a ∧ xs = [] ∧ C a ∧ Q (g a) H)) (hc : ∀ z, ok z = true → C z) (hr : ∀ (K : PySem.W.Frag) H μ z, RU K H μ (f z) (g z)) : MtR X id (rdM X.K (oS0 ok f)) := by
  intro pins s σ H x xs v us Q I rx rxs q
  obtain ⟨u, ws, m, μ, r, rs, M, p⟩ := q
  unfold oS0 at p
  split at p
  · split at p
    · rename_i hz
      cases r.s; cases rs
      exact h pins s σ H _ _ v us Q I rx rxs ⟨_, rfl, rfl, hc _ hz, p.val M (hr _ _ _ _)⟩
    · exact no_op p
  · exact no_op p
theorem m_s1 {id : String} {ok : Str → Str → Bool} {f : Str → Str → U} {g : Str → Str → V} (h : MtR X id (fun x xs H Q => ∃ a b, x = .str a ∧ xs = [.str b] ∧ Q (g a b) H)) (hr : ∀ (K : PySem.W.Frag) H μ z y, RU K H μ (f z y) (g z y)) : MtR X id (rdM X.K (oS1 ok f)) := by
  intro pins s σ H x xs v us Q I rx rxs q
  obtain ⟨u, ws, m, μ, r, rs, M, p⟩ := q
  unfold oS1 at p
  split at p
  · split at p
    · obtain ⟨y, rfl, ry⟩ := rs.one
      cases r.s; cases ry.s
      exact h pins s σ H _ _ v us Q I rx rxs ⟨_, _, rfl, rfl, p.val M (hr _ _ _ _ _)⟩
    · exact no_op p
  · exact no_op p
theorem m_strip : MtR X "str.strip" (rdM X.K oStrip) := m_s0 (C := fun a => a.length ≤ sizeLine) (g := fun a => .str (Txt.strip a)) mt_strip (fun z h => of_decide_eq_true h) fun _ _ _ _ => .str _
theorem m_rstrip : MtR X "str.rstrip" (rdM X.K oRstrip) := m_s0 (C := fun a => a.length ≤ sizeLine) (g := fun a => .str (Txt.rstrip a)) mt_rstrip (fun z h => of_decide_eq_true h) fun _ _ _ _ => .str _
theorem m_lower : MtR X "str.lower" (rdM X.K oLower) := m_s0 (C := fun a => a.length ≤ 5592405) (g := fun a => .str (Txt.lower a)) mt_lower (fun z h => of_decide_eq_true h) fun _ _ _ _ => .str _
theorem m_isdigit : MtR X "str.isdigit" (rdM X.K oIsdigit) := m_s0 (C := fun _ => True) (g := fun a => .bl (Txt.isdigit a)) mt_isdigit (fun z h => trivial) fun _ _ _ _ => .bl _
theorem m_isalpha : MtR X "str.isalpha" (rdM X.K oIsalpha) := m_s0 (C := fun _ => True) (g := fun a => .bl (Txt.isalpha a)) mt_isalpha (fun z h => trivial) fun _ _ _ _ => .bl _
theorem m_isascii : MtR X "str.isascii" (rdM X.K oIsascii) := m_s0 (C := fun _ => True) (g := fun a => .bl (Txt.isascii a)) mt_isascii (fun z h => trivial) fun _ _ _ _ => .bl _
theorem m_isprintable : MtR X "str.isprintable" (rdM X.K oIsprintable) := m_s0 (C := fun _ => True) (g := fun a => .bl (Txt.isprintable a)) mt_isprintable (fun z h => trivial) fun _ _ _ _ => .bl _
theorem m_find : MtR X "str.find" (rdM X.K oFind) := m_s1 (g := fun a b => .int (Txt.find a b)) mt_find fun _ _ _ _ _ => .int _
theorem m_find3 : MtR X "str.find" (rdM X.K oFind3) := by
  intro pins s σ H x xs v us Q I rx rxs q
  obtain ⟨u, ws, m, μ, r, rs, M, p⟩ := q
  unfold oFind3 oSI at p
  split at p
  · obtain ⟨y, y2, rfl, ry, r2⟩ := rs.two
    cases r.s; cases ry.s; cases r2.i
    exact mt_find3 pins s σ H _ _ v us Q I rx rxs ⟨_, _, _, rfl, rfl, p.val M (.int _)⟩
  · exact no_op p
end
/-! ### sum, max, min of ints -/
def oSum : List U → Mem → O U
  | [u], m => match itemsOf m u with
    | some us => if isT u then none else (nums us).map fun ns => (.int ns.sum, m)
    | none => none
  | _, _ => none
def maxL : Int → List Int → Int
  | x, [] => x
  | x, y :: r => maxL (if y > x then y else x) r
def minL : Int → List Int → Int
  | x, [] => x
  | x, y :: r => minL (if y < x then y else x) r
def oMaxL : List U → Mem → O U
  | [u], m => match itemsOf m u with
    | some us => if isT u then none else match nums us with
      | some (n :: ns) => some (.int (maxL n ns), m)
      | _ => none
    | none => none
  | _, _ => none
def oMinL : List U → Mem → O U
  | [u], m => match itemsOf m u with
    | some us => if isT u then none else match nums us with
      | some (n :: ns) => some (.int (minL n ns), m)
      | _ => none
    | none => none
  | _, _ => none
theorem maxL_ok : ∀ (l : List Int) (x : Int), maxL x l ∈ x :: l ∧ ∀ y ∈ x :: l, y ≤ maxL x l
  | [], x => by simp [maxL]
  | y :: r, x => by
    obtain ⟨h1, h2⟩ := maxL_ok r (if y > x then y else x)
    rw [maxL]
    refine ⟨?_, fun z hz => ?_⟩
    · rcases List.mem_cons.mp h1 with e | e
      · rw [e]; split <;> simp
      · exact List.mem_cons_of_mem _ (List.mem_cons_of_mem _ e)
    · have h3 := h2 (if y > x then y else x) (by simp)
      have h4 : x ≤ (if y > x then y else x) ∧ y ≤ (if y > x then y else x) := by split <;> omega
      rcases List.mem_cons.mp hz with e | hz
      · subst e; exact Int.le_trans h4.1 h3
      · rcases List.mem_cons.mp hz with e | hz
        · subst e; exact Int.le_trans h4.2 h3
        · exact h2 z (List.mem_cons_of_mem _ hz)
theorem minL_ok : ∀ (l : List Int) (x : Int), minL x l ∈ x :: l ∧ ∀ y ∈ x :: l, minL x l ≤ y
  | [], x => by simp [minL]
  | y :: r, x => by
    obtain ⟨h1, h2⟩ := minL_ok r (if y < x then y else x)
    rw [minL]
    refine ⟨?_, fun z hz => ?_⟩
    · rcases List.mem_cons.mp h1 with e | e
      · rw [e]; split <;> simp
      · exact List.mem_cons_of_mem _ (List.mem_cons_of_mem _ e)
    · have h3 := h2 (if y < x then y else x) (by simp)
      have h4 : x ≥ (if y < x then y else x) ∧ y ≥ (if y < x then y else x) := by split <;> omega
      rcases List.mem_cons.mp hz with e | hz
      · subst e; exact Int.le_trans h3 h4.1
      · rcases List.mem_cons.mp hz with e | hz
        · subst e; exact Int.le_trans h3 h4.2
        · exact h2 z (List.mem_cons_of_mem _ hz)
section
variable {X : Cx}
theorem b_sum (hc : X.calm = true) : CallR X (.builtin "sum") (rdC X.K oSum) := by
  intro pins s σ H xs us Q I rx h
  obtain ⟨vs, m, μ, r, M, p⟩ := h
  unfold oSum at p
  split at p
  · obtain ⟨v, rfl, r1⟩ := r.one
    split at p
    · rename_i us1 e
      split at p
      · exact no_op p
      · rename_i hT
        cases e2 : nums us1 with
        | none => rw [e2] at p; exact no_op p
        | some ns =>
          rw [e2] at p
          obtain ⟨a, vs, rfl, hq, t, h1, h2⟩ := items_ok M r1 e
          have hl := h2 (by simpa using hT)
          rw [nums_ok t e2] at hl
          exact cr_sum hc pins s σ H _ us Q I rx ⟨a, ns, rfl, hl, p.val M (.int _)⟩
    · exact no_op p
  · exact no_op p
theorem b_maxL (hc : X.calm = true) : CallR X (.builtin "max") (rdC X.K oMaxL) := by
  intro pins s σ H xs us Q I rx h
  obtain ⟨vs, m, μ, r, M, p⟩ := h
  unfold oMaxL at p
  split at p
  · obtain ⟨v, rfl, r1⟩ := r.one
    split at p
    · rename_i us1 e
      split at p
      · exact no_op p
      · rename_i hT
        split at p
        · rename_i n ns e2
          obtain ⟨a, vs, rfl, hq, t, h1, h2⟩ := items_ok M r1 e
          have hl := h2 (by simpa using hT)
          rw [nums_ok t e2] at hl
          refine cr_max hc pins s σ H _ us Q I rx ⟨a, n :: ns, rfl, hl, Nat.succ_pos _, fun k hk hy => ?_⟩
          obtain ⟨g1, g2⟩ := maxL_ok ns n
          have : k = maxL n ns := Int.le_antisymm (g2 k hk) (hy _ g1)
          rw [this]
          exact p.val M (.int _)
        · exact no_op p
    · exact no_op p
  · exact no_op p
theorem b_minL (hc : X.calm = true) : CallR X (.builtin "min") (rdC X.K oMinL) := by
  intro pins s σ H xs us Q I rx h
  obtain ⟨vs, m, μ, r, M, p⟩ := h
  unfold oMinL at p
  split at p
  · obtain ⟨v, rfl, r1⟩ := r.one
    split at p
    · rename_i us1 e
      split at p
      · exact no_op p
      · rename_i hT
        split at p
        · rename_i n ns e2
          obtain ⟨a, vs, rfl, hq, t, h1, h2⟩ := items_ok M r1 e
          have hl := h2 (by simpa using hT)
          rw [nums_ok t e2] at hl
          refine cr_min hc pins s σ H _ us Q I rx ⟨a, n :: ns, rfl, hl, Nat.succ_pos _, fun k hk hy => ?_⟩
          obtain ⟨g1, g2⟩ := minL_ok ns n
          have : k = minL n ns := Int.le_antisymm (hy _ g1) (g2 k hk)
          rw [this]
          exact p.val M (.int _)
        · exact no_op p
    · exact no_op p
  · exact no_op p
def oDivmod : List U → Mem → O U
  | [.int i, .int j], m => if 0 < j ∧ j < 1073741824 then some (.tup [.int (i / j), .int (i % j)], m) else none
  | _, _ => none
theorem b_divmod : CallR X (.builtin "divmod") (rdC X.K oDivmod) := by
  intro pins s σ H xs us Q I rx h
  obtain ⟨vs, m, μ, r, M, p⟩ := h
  unfold oDivmod at p
  split at p
  · obtain ⟨v, y, rfl, r1, r2⟩ := r.two
    cases r1.i; cases r2.i
    split at p
    · rename_i hz
      exact call_divmod pins s σ H _ us Q I rx ⟨_, _, rfl, hz, fun a ha => p.tup M (.cons (.int _) (.cons (.int _) .nil)) ha⟩
    · exact no_op p
  · exact no_op p
end
end Ev

set_option Elab.async false
set_option linter.all false
set_option maxRecDepth 100000
set_option maxHeartbeats 4000000
namespace EvF
open PySem L2 PyProof.Rows
/-! ### walks over lists, tuples and texts alike -/
def signsV (z : Str) : List V := z.cps.toList.map fun c => .str ⟨#[c]⟩
/-- what an iterator over such a value stands on -/
inductive IK | lst (a : Addr) | tup (a : Addr) | str (z : Str) (t : Tok)
def IK.At (it : Addr) (i : Nat) (h : Heap) : IK → Prop
  | .lst a => h.IsListIter it a i
  | .tup a => h.IsTupleIter it a i
  | .str z t => h.IsStrIter it (strIterType z) z t i
def IK.obj : IK → Obj
  | .lst a => { cls := .type "list_iterator", data := .fields #[.ref a, .int 0 0] }
  | .tup a => { cls := .type "tuple_iterator", data := .fields #[.ref a, .int 0 0] }
  | .str z t => { cls := .type (strIterType z), data := .fields #[.str z t, .int 0 0] }
def IK.val : IK → Value
  | .lst a => .ref a
  | .tup a => .ref a
  | .str z t => .str z t
/-- the kind fits what the value is -/
inductive IK.Fits (K : PySem.W.Frag) (H : Hp) (xs : List V) : IK → Prop
  | lst {a : Addr} (h : SqL K H a xs) : Fits K H xs (.lst a)
  | tup {a : Addr} (h : SqT K H a xs) : Fits K H xs (.tup a)
  | str (z : Str) (t : Tok) (e : xs = signsV z) : Fits K H xs (.str z t)
theorem strIter_ne (z : Str) : strIterType z ≠ "list" ∧ strIterType z ≠ "tuple" ∧ strIterType z ≠ "enumerate" ∧ strIterType z ≠ "zip" := by
  unfold strIterType
  split <;> decide
theorem IK.has {k : IK} {it : Addr} {i : Nat} {h : Heap} (a : k.At it i h) : ∃ (o : Obj) (n : String), h.get? it = some o ∧ o.cls = .type n ∧ n ≠ "list" ∧ n ≠ "tuple" ∧ n ≠ "enumerate" ∧ n ≠ "zip" ∧ ∀ v, o.data ≠ .cell v := by
  cases k with
  | lst l => obtain ⟨o, ho, hc, hd⟩ := a; exact ⟨o, _, ho, hc, by decide, by decide, by decide, by decide, fun v q => by rw [hd] at q; cases q⟩
  | tup l => obtain ⟨o, ho, hc, hd⟩ := a; exact ⟨o, _, ho, hc, by decide, by decide, by decide, by decide, fun v q => by rw [hd] at q; cases q⟩
  | str z t => obtain ⟨o, ho, hc, hd⟩ := a; have s := strIter_ne z; exact ⟨o, _, ho, hc, s.1, s.2.1, s.2.2.1, s.2.2.2, fun v q => by rw [hd] at q; cases q⟩
theorem IK.keep {k : IK} {it : Addr} {i : Nat} {h h' : Heap} (a : k.At it i h) (q : ∀ o, h.get? it = some o → h'.get? it = some o) : k.At it i h' := by
  cases k <;> (obtain ⟨o, ho, r⟩ := a; exact ⟨o, q o ho, r⟩)
theorem IK.first {k : IK} {it : Addr} {h : Heap} (e : h.get? it = some k.obj) : k.At it 0 h := by
  cases k <;> exact ⟨_, e, rfl, rfl⟩
theorem cls_ne {h : Heap} {a b : Addr} {o p : Obj} {m n : String} (ho : h.get? a = some o) (hc : o.cls = .type m) (hp : h.get? b = some p) (hd : p.cls = .type n) (hmn : m ≠ n) : a ≠ b := by
  rintro rfl
  rw [ho] at hp
  obtain rfl := Option.some.inj hp
  rw [hc] at hd
  exact hmn (by injection hd)
section
variable {X : Cx} {pins : List (Addr × Obj)} {σ : L2.St} {H : Hp} {s : Shared}
/-- the iterator's own law -/
theorem IK.draws {k : IK} {xs : List V} {it : Addr} {i : Nat} (I : Inv X pins σ H s) (hA : X.A.handled = none) (f : k.Fits X.K H xs) (st : k.At it i s.heap) :
    ∃ (fp : List Addr) (P : Nat → Value → Prop) (Sn : Nat → Heap → Prop), Draws X.prog X.w X.A.in1 it fp xs.length P Sn ∧ Sn i s.heap ∧ it ∈ fp ∧ (∀ b ∈ fp, ∃ (o : Obj) (n : String), s.heap.get? b = some o ∧ o.cls = .type n ∧ n ≠ "enumerate" ∧ n ≠ "zip") ∧
      (∀ j u, P j u → ∃ x, xs[j]? = some x ∧ RelV x u) ∧ (∀ j h, Sn j h → k.At it j h) := by
  obtain ⟨oi, ni, hi1, hi2, h1, h2, h3, h4, _⟩ := IK.has st
  cases f with
  | @lst a h =>
    obtain ⟨its, r, p, z⟩ := I.list h
    obtain ⟨ol, hl1, hl2⟩ := p.isList
    have ne : a ≠ it := cls_ne hl1 hl2.1 hi1 hi2 (Ne.symm h1)
    have D := Draws.list (prog := X.prog) (w := X.w) (A := X.A.in1) hA it a ne its.toArray
    rw [List.size_toArray, ← r.length] at D
    refine ⟨_, _, _, D, ⟨st, p.isList⟩, by simp, fun b hb => ?_, fun j u hu => ?_, fun j h st => st.1⟩
    · rcases List.mem_cons.mp hb with rfl | hb
      · exact ⟨oi, ni, hi1, hi2, h3, h4⟩
      · obtain rfl := List.mem_singleton.mp hb
        exact ⟨ol, _, hl1, hl2.1, by decide, by decide⟩
    · have hu' : its[j]? = some u := by simpa using hu
      have hj : j < xs.length := by rw [r.length]; exact (List.getElem?_eq_some_iff.mp hu').1
      obtain ⟨u', e', r'⟩ := r.get (List.getElem?_eq_getElem hj)
      rw [hu'] at e'
      obtain rfl := Option.some.inj e'
      exact ⟨_, List.getElem?_eq_getElem hj, r'⟩
  | @tup a h =>
    obtain ⟨its, r, p, z⟩ := I.tuple h
    obtain ⟨ol, hl1, hl2⟩ := id p
    have ne : a ≠ it := cls_ne hl1 hl2.1 hi1 hi2 (Ne.symm h2)
    have D := Draws.tuple (prog := X.prog) (w := X.w) (A := X.A.in1) hA it a ne its.toArray
    rw [List.size_toArray, ← r.length] at D
    refine ⟨_, _, _, D, ⟨st, p⟩, by simp, fun b hb => ?_, fun j u hu => ?_, fun j h st => st.1⟩
    · rcases List.mem_cons.mp hb with rfl | hb
      · exact ⟨oi, ni, hi1, hi2, h3, h4⟩
      · obtain rfl := List.mem_singleton.mp hb
        exact ⟨ol, _, hl1, hl2.1, by decide, by decide⟩
    · have hu' : its[j]? = some u := by simpa using hu
      have hj : j < xs.length := by rw [r.length]; exact (List.getElem?_eq_some_iff.mp hu').1
      obtain ⟨u', e', r'⟩ := r.get (List.getElem?_eq_getElem hj)
      rw [hu'] at e'
      obtain rfl := Option.some.inj e'
      exact ⟨_, List.getElem?_eq_getElem hj, r'⟩
  | str z t e =>
    subst e
    have D := Draws.text (prog := X.prog) (w := X.w) (A := X.A.in1) hA it z t
    rw [show z.cps.size = (signsV z).length by unfold signsV; simp] at D
    refine ⟨_, _, _, D, st, by simp, fun b hb => ?_, fun j u hu => ?_, fun j h st => st⟩
    · obtain rfl := List.mem_singleton.mp hb
      exact ⟨oi, ni, hi1, hi2, h3, h4⟩
    · obtain ⟨c, tk, hc, rfl⟩ := hu
      refine ⟨.str ⟨#[c]⟩, ?_, ⟨_, rfl⟩⟩
      unfold signsV
      rw [List.getElem?_map, Array.getElem?_toList, hc]
      rfl
end
end EvF
namespace EvF
open PySem L2 PyProof.Rows
open PySem.Sem (wp)
/-- the heap behind enumerate(v): its iterator o, and itself -/
abbrev enH (h : Heap) (o : Obj) : Heap := (h.push o).push { cls := .type "enumerate", data := .fields #[.none, .bool false, .ref h.objs.size, rawInt 0, .none, .none] }
theorem meets_enum1 {v : Value} {o : Obj} {G : Heap → Prop} (B : Begins v o G) :
    Meets (Builtin.«enumerate.__new__» ⟨[.type "enumerate", v], []⟩) (fun _ R s => G s.heap ∧ R (.ok (.ret (.ref (s.heap.push o).objs.size))) { s with heap := enH s.heap o }) :=
  .of_wp fun prog w A R s h => by
    obtain ⟨hp, gs, dr, tk, os⟩ := s; obtain ⟨hg, h⟩ := h
    have sub1 := sub_enumerate
    have it1 : ∀ {A' : Around} {E' : Value → Shared → Prop} {Q' : Value → Shared → Prop}, Q' (.ref hp.objs.size) ⟨hp.push o, gs, dr, tk, os⟩ → wpAny (model prog w) A' (pyIter v) Q' E' ⟨hp, gs, dr, tk, os⟩ :=
      fun q => B.iter prog w _ _ _ _ hg q
    wp_walk using it1
    refine wpAny_stack_any fun st => wpAny_pure ?_; split
    · rename_i c _ _ _ _ _; cases (c == Value.type "enumerate") <;> (wp_walk using it1; exact ⟨_, rfl, h⟩)
    · wp_walk using it1
      exact ⟨_, rfl, h⟩
theorem call_enum1 {prog : Program} {w : World} {A : Around} {E : Value → Shared → Prop} {s : Shared} {v : Value} {o : Obj} {G : Heap → Prop} {Q : Value → Shared → Prop} (B : Begins v o G) (hg : G s.heap)
    (h : ∀ h', IsEnum h' (s.heap.objs.size + 1) s.heap.objs.size 0 .none → h'.get? s.heap.objs.size = some o → (∀ b u, s.heap.get? b = some u → h'.get? b = some u) → Q (.ref (s.heap.objs.size + 1)) { s with heap := h' }) :
    wpAny (model prog w) A (call (.type "enumerate") [v]) Q E s := by
  refine callType_new F.called_enumerate (by decide) (F.typeCall_enumerate_1 _) (F.newCall_enumerate_1 _) (fun obj => F.args_object_init_2 obj _) F.entry_enumerate_new (meets_enum1 B) ⟨hg, ?_⟩
  have z1 : (s.heap.push o).objs.size = s.heap.objs.size + 1 := Heap.size_push ..
  show _ ∧ _
  rw [z1]
  have en : IsEnum (enH s.heap o) (s.heap.objs.size + 1) s.heap.objs.size 0 .none := by
    rw [← z1]
    exact Heap.get?_push_size _ rfl
  exact ⟨⟨_, en, rfl⟩, h _ en (Heap.get?_push_of_some _ (Heap.get?_push_size _ B.free)) fun b u x => Heap.get?_push_of_some _ (Heap.get?_push_of_some _ x)⟩
/-- enumerate over v, which stands for xs: at turn i a new pair of i and the item -/
def Iqe (K : PySem.W.Frag) (k : IK) (xs : List V) : It :=
  ⟨fun i H => i < xs.length ∧ k.Fits K H xs, fun i H v H' => ∃ T x, v = .ref T ∧ H T = none ∧ xs[i]? = some x ∧ H' = upd H T (.tup [.int (i : Nat), x]), fun i H => i = xs.length ∧ k.Fits K H xs⟩
theorem enum_ne {fp : List Addr} {e it : Addr} {i : Int} {old : Value} {s : Shared} (he : IsEnum s.heap e it i old) (h : ∀ b ∈ fp, ∃ (o : Obj) (n : String), s.heap.get? b = some o ∧ o.cls = .type n ∧ n ≠ "enumerate" ∧ n ≠ "zip") : e ∉ fp := fun hm => by
  obtain ⟨o, n, h1, h2, h3, _⟩ := h e hm
  rw [he] at h1
  obtain rfl := Option.some.inj h1
  injection h2 with h2
  exact h3 h2.symm
theorem turn_enumA {P : Program} {w : World} {K : PySem.W.Frag} {elts : List Expr} {kk : Nat} {tpos : Pos} (k : IK) (xs : List V) (e it : Addr) :
    Turn P w K (.Tuple elts kk tpos) (Iqe K k xs) [e, it] e (fun i h => (∃ old, IsEnum h e it ((i : Nat) : Int) old) ∧ k.At it i h ∧ e ≠ it) := by
  refine ⟨by simp, fun i h st b hb => ?_, fun i h h' st q => ?_, ?_, ?_, fun A i s Q E st h => wpAny_pyIter_enum st.1.choose_spec h⟩
  · obtain ⟨⟨old, he⟩, hi, _⟩ := st
    rcases List.mem_cons.mp hb with rfl | hb
    · exact ⟨_, he, fun v q => by cases q⟩
    · obtain rfl := List.mem_singleton.mp hb
      obtain ⟨o, n, h1, h2, _, _, _, _, h3⟩ := IK.has hi
      exact ⟨o, h1, h3⟩
  · obtain ⟨⟨old, he⟩, hi, ne⟩ := st
    exact ⟨⟨old, q e (by simp) _ he⟩, IK.keep hi fun o ho => q it (by simp) o ho, ne⟩
  · intro X hP hw hK hc i pins s σ H E I hf st hg
    subst hP hw hK
    obtain ⟨⟨old, he⟩, hi, ne⟩ := st
    obtain ⟨fp, Pr, Sn, D, st1, m1, m2, m3, m4⟩ := IK.draws I (I.ok.hd hc) hg.2 hi
    refine wpAny_pyNext_enum_itemD D he st1 hg.1 ne (enum_ne he m2) fun u h1 tk hu ho st2 hT hz hk => ?_
    obtain ⟨x, hx, rx⟩ := m3 i u hu
    have el : e < s.heap.objs.size := Heap.lt_size he
    have il : it < s.heap.objs.size := by obtain ⟨o, n, q, _⟩ := IK.has hi; exact Heap.lt_size q
    refine ⟨_, rfl, wpAny_letOwnedTupleGo_enum (s := { s with heap := h1, toks := tk + 1 }) ho fun h2 he2 sb => ?_⟩
    have hT2 := (sb.2 _ (Nat.ne_of_gt el)).trans hT
    have new : ObjOk X.prog X.w (upd H s.heap.objs.size (.tup [.int (i : Nat), x])) h2 s.heap.objs.size (.tup [.int (i : Nat), x]) :=
      ⟨by show 2 ≤ sizeLine; decide, [.int i tk, u], .cons ⟨_, rfl⟩ (.cons rx .nil), ⟨_, hT2, rfl, _, rfl⟩⟩
    have I1 : Inv X pins σ (upd H s.heap.objs.size (.tup [.int (i : Nat), x])) { s with heap := h2, toks := tk + 1 } :=
      I.turnedNew (ch := [e, it]) (fun b ob hb q => (sb.2 b fun z => hb (by simp [z])).trans (hk b ob (fun z => hb (by simp [z])) (fun z => hb (by simp [z])) q)) hf (Nat.le_refl _) new
    refine ⟨.ref s.heap.objs.size, _, I1, rfl, ⟨_, x, rfl, I.hok.fresh (Nat.le_refl _), hx, rfl⟩, ⟨⟨u, ?_⟩, IK.keep (m4 _ _ st2) fun o q => (sb.2 it (Ne.symm ne)).trans q, ne⟩, fun b hb => ?_⟩
    · rw [show ((i + 1 : Nat) : Int) = (i : Int) + 1 by omega]
      exact he2
    · have bl : b < s.heap.objs.size := by
        rcases List.mem_cons.mp hb with rfl | hb
        · exact el
        · rw [List.mem_singleton.mp hb]; exact il
      rw [upd_ne (Nat.ne_of_lt bl)]
      exact (hf b hb).1
  · intro X hP hw hK hc i pins s σ H E I hf st hg
    subst hP hw hK
    obtain ⟨⟨old, he⟩, hi, ne⟩ := st
    obtain ⟨fp, Pr, Sn, D, st1, m1, m2, m3, m4⟩ := IK.draws I (I.ok.hd hc) hg.2 hi
    obtain ⟨f0, f1, f2, f3, f4, f5⟩ := hf it (by simp)
    rw [hg.1] at st1
    exact wpAny_pyNext_enum_endD D he st1 fun h1 eb => ⟨rfl, I.turned (t' := s.toks) (fun b o hb q => eb b o hb q) f0 f1 f3 f4 f5⟩
/-- the ways of v to be walked: a list, a tuple, a text -/
def wayV (K : PySem.W.Frag) (v : V) (H : Hp) (R : IK → List V → Prop) : Prop :=
  (∃ a xs, v = .ref a ∧ SqL K H a xs ∧ R (.lst a) xs) ∨ (∃ a xs, v = .ref a ∧ SqT K H a xs ∧ R (.tup a) xs) ∨ ∃ z, v = .str z ∧ ∀ t, R (.str z t) (signsV z)
theorem wayV.kind {X : Cx} {pins : List (Addr × Obj)} {σ : L2.St} {H : Hp} {s : Shared} {v : V} {R : IK → List V → Prop} {u : Value} (I : Inv X pins σ H s) (h : wayV X.K v H R) (r : RelV v u) :
    ∃ (k : IK) (xs : List V) (G : Heap → Prop), u = k.val ∧ Begins u k.obj G ∧ G s.heap ∧ R k xs := by
  rcases h with ⟨a, xs, rfl, h, q⟩ | ⟨a, xs, rfl, h, q⟩ | ⟨z, rfl, q⟩
  · cases r
    obtain ⟨its, r, p, z⟩ := I.list h
    exact ⟨.lst a, xs, _, rfl, begins_list a its.toArray, p.isList, q⟩
  · cases r
    obtain ⟨its, r, p, z⟩ := I.tuple h
    exact ⟨.tup a, xs, _, rfl, begins_tuple a its.toArray, p, q⟩
  · obtain ⟨t, rfl⟩ := r
    exact ⟨.str z t, _, _, rfl, begins_text z t, trivial, q t⟩
def iEnumA (K : PySem.W.Frag) (ta : TA) : TI := fun σ H R => ta σ H fun vs H1 => ∃ v, vs = [v] ∧ wayV K v H1 fun k xs => R (Iqe K k xs) H1
theorem pi_enumA {X : Cx} {e : Expr} {ta : TA} {p pos tpos : Pos} {elts : List Expr} {kk : Nat} (hg : Gl X "enumerate") (hm : X.mg "enumerate" = none) (ha : PA X [e] ta) (hs : starEach [e] X.env = [(false, eval e X.env)] := by rfl) :
    PI X (.Tuple elts kk tpos) (.Call (.Name "enumerate" p) [e] [] pos) (iEnumA X.K ta) := by
  refine ⟨fun pins s σ H R I h => Call_ (ld_blt I hg hm boot_enumerate (PyProof.Rows.callWith_type1 (thn (ha.run pos pins s σ H _ I h) fun us s1 hv => ?_) hs rfl))⟩
  obtain ⟨vs, H1, I1, r1, v, rfl, q⟩ := hv
  cases r1 with
  | cons r rr =>
    cases rr
    obtain ⟨k, xs, G, rfl, B, g, q⟩ := q.kind I1 r
    refine call_enum1 B g fun h2 he hit hk => wpAny_pyIter_enum he ?_
    have I2 : Inv X pins σ H1 { s1 with heap := h2 } := I1.kept (t' := s1.toks) hk
    refine ⟨s1.heap.objs.size + 1, [s1.heap.objs.size + 1, s1.heap.objs.size], _, _, H1, rfl, I2, turn_enumA k xs (s1.heap.objs.size + 1) s1.heap.objs.size, ⟨⟨.none, he⟩, IK.first hit, Nat.succ_ne_self _⟩, fun b hb => ?_, q⟩
    have le : s1.heap.objs.size ≤ b := by
      rcases List.mem_cons.mp hb with rfl | hb
      · exact Nat.le_add_right _ _
      · rw [List.mem_singleton.mp hb]; exact Nat.le_refl _
    exact I1.fpOk le (I1.hok.fresh le)
/-- a new pair of the turn and the item -/
def YEn (xs : List V) : Nat → Hp → V → Hp → Prop := fun i H w H' => ∃ T x, w = .ref T ∧ H T = none ∧ xs[i]? = some x ∧ H' = upd H T (.tup [.int (i : Nat), x])
theorem walk_enumL {K : PySem.W.Frag} {a : Addr} {xs : List V} : Walk (Iqe K (.lst a) xs) xs.length (fun H => SqL K H a xs) (YEn xs) := ⟨fun _ _ hi q => ⟨hi, .lst q⟩, fun _ q => ⟨rfl, .lst q⟩, fun _ _ _ _ _ _ y => y⟩
theorem walk_enumT {K : PySem.W.Frag} {a : Addr} {xs : List V} : Walk (Iqe K (.tup a) xs) xs.length (fun H => SqT K H a xs) (YEn xs) := ⟨fun _ _ hi q => ⟨hi, .tup q⟩, fun _ q => ⟨rfl, .tup q⟩, fun _ _ _ _ _ _ y => y⟩
theorem walk_enumS {K : PySem.W.Frag} {z : Str} {t : Tok} : Walk (Iqe K (.str z t) (signsV z)) (signsV z).length (fun _ => True) (YEn (signsV z)) := ⟨fun _ _ hi _ => ⟨hi, .str z t rfl⟩, fun _ _ => ⟨rfl, .str z t rfl⟩, fun _ _ _ _ _ _ y => y⟩
end EvF

set_option Elab.async false
set_option linter.all false
set_option maxRecDepth 100000
set_option maxHeartbeats 4000000
/-! Ev: walks. -/
namespace Ev
open PySem PySem.Spec L2 RZ RT

theorem _root_.L2.PI.or {X : Cx} {tg e : Expr} {t t' : TI} (h : PI X tg e t) (h' : PI X tg e t') : PI X tg e (fun σ H R => t σ H R ∨ t' σ H R) := ⟨fun p s σ H R I q => q.elim (h.run p s σ H R I) (h'.run p s σ H R I)⟩
section
variable {X : Cx} {c : Nat → Addr} {W : WX} {tg e : Expr} {f : XD} {fl : XL}
/-- what follows, told of the result that stands -/
theorem Post.byOk {w : W0} {σ : L2.St} {μ : List Addr} {H : Hp} {α : Type} {r : R α} {P P' : List Addr → Hp → Mem → α → Prop} (p : Post w W σ μ H r P) (h : ∀ a m, r = .ok a m → ∀ μ1 H1, Step w.K μ H μ1 H1 → MOk w.K H1 μ1 m → P μ1 H1 m a → P' μ1 H1 m a) : Post w W σ μ H r P' := by
  cases r with
  | ok a m => exact fun μ1 H1 s1 M1 => h a m rfl μ1 H1 s1 M1 (p μ1 H1 s1 M1)
  | err x m => exact p
  | bad => exact p
/-- for .. in e: a list, a tuple, a text -/
def srcA (m : Mem) (u : U) : Option Src := match u with
  | .str z => some (.fix (signs z))
  | u => srcOf m u
def iAny (f : XD) : ID := fun ρ m => (f ρ m).bind fun u m1 => ofB (srcA m1 u) m1
theorem wk_s {K : PySem.W.Frag} {H : Hp} {μ : List Addr} {z : Str} : WkOk K (Its z) μ H (Src.fix (signs z)).next := wk_fix fun i μ1 H1 m mo M _ => by
  unfold signs
  rw [List.getElem?_map, Array.getElem?_toList]
  cases e : z.cps[i]? with
  | none => exact Array.getElem?_eq_none_iff.mp e
  | some k =>
    refine ⟨(Array.getElem?_eq_some_iff.mp e).1, fun x H' y => ?_⟩
    obtain ⟨e1, k2, e2, e3⟩ := y
    subst e1 e3
    rw [e] at e2
    cases e2
    exact ⟨.refl, M, .str _⟩
theorem si_any (h : SE X c W e f) : SI X c W tg e (iAny f) :=
  (L2.PI.or (pi_list h) (L2.PI.or (pi_tup h) (pi_str h))).imp fun σ H R ⟨ρ, m, μ, E, M, p⟩ => by
    have p := p.bind
    -- by what e gives
    cases q : f ρ m with
    | bad => rw [q] at p; exact False.elim p
    | err x m1 =>
      refine .inl ⟨ρ, m, μ, E, M, ?_⟩
      rw [q] at p ⊢
      exact p
    | ok u m1 =>
      rw [q] at p
      have at_ : ∀ {P : List Addr → Hp → Mem → U → Prop}, (∀ μ1 H1, Step X.K μ H μ1 H1 → MOk X.K H1 μ1 m1 → P μ1 H1 m1 u) → Post (wX X c) W σ μ H (f ρ m) P := fun h => by rw [q]; exact h
      by_cases hs : ∃ z, u = .str z
      · obtain ⟨z, rfl⟩ := hs
        refine .inr (.inr ⟨ρ, m, μ, E, M, at_ fun μ1 H1 s1 M1 v r => ?_⟩)
        cases r.s
        exact ⟨z, rfl, (p μ1 H1 s1 M1).ok_at M1 _ wk_s⟩
      · have es : srcA m1 u = srcOf m1 u := by
          cases u with
          | str z => exact absurd ⟨z, rfl⟩ hs
          | _ => rfl
        cases q2 : srcOf m1 u with
        | none => 
          refine .inl ⟨ρ, m, μ, E, M, at_ fun μ1 H1 s1 M1 v r => ?_⟩
          have p1 : Post (wX X c) W σ μ1 H1 (ofB (srcA m1 u) m1) _ := p μ1 H1 s1 M1
          rw [es, q2] at p1
          exact False.elim p1
        | some s =>
          cases hT : isT u with
          | true =>
            refine .inr (.inl ⟨ρ, m, μ, E, M, at_ fun μ1 H1 s1 M1 v r => ?_⟩)
            have p1 : Post (wX X c) W σ μ1 H1 (ofB (srcA m1 u) m1) _ := p μ1 H1 s1 M1
            rw [es, q2] at p1
            obtain ⟨a, e1, h1⟩ := wk_of M1 r q2
            rcases h1 with ⟨_, h2, h3⟩ | ⟨h2, _⟩
            · exact ⟨a, e1, h2, p1.ok_at M1 _ h3⟩
            · rw [hT] at h2; cases h2
          | false =>
            refine .inl ⟨ρ, m, μ, E, M, at_ fun μ1 H1 s1 M1 v r => ?_⟩
            have p1 : Post (wX X c) W σ μ1 H1 (ofB (srcA m1 u) m1) _ := p μ1 H1 s1 M1
            rw [es, q2] at p1
            obtain ⟨a, e1, h1⟩ := wk_of M1 r q2
            rcases h1 with ⟨h2, _⟩ | ⟨_, h2, h3⟩
            · rw [hT] at h2; cases h2
            · exact ⟨a, e1, h2, p1.ok_at M1 _ h3⟩
/-! enumerate -/
def enumU : Nat → List U → List U
  | _, [] => []
  | k, u :: us => .tup [.int (k : Nat), u] :: enumU (k + 1) us
theorem enumU_get : ∀ (us : List U) (k i : Nat), (enumU k us)[i]? = us[i]?.map fun u => .tup [.int ((k + i : Nat) : Int), u]
  | [], k, i => by simp [enumU]
  | u :: us, k, 0 => by simp [enumU]
  | u :: us, k, i + 1 => by
    rw [enumU, List.getElem?_cons_succ, List.getElem?_cons_succ, enumU_get us (k + 1) i]
    rw [show k + 1 + i = k + (i + 1) by omega]
def srcE (m : Mem) (u : U) : Option Src := match u with
  | .str z => some (.fix (enumU 0 (signs z)))
  | .tup us => some (.fix (enumU 0 us))
  | .ref n => match m[n]? with
    | some (.lst us) => some (.dyn (us.length + 1) fun i m => match m[n]? with
      | some (.lst us) => some (us[i]?.map fun u => .tup [.int (i : Nat), u])
      | _ => none)
    | _ => none
  | _ => none
def iEnum (f : XL) : ID := fun ρ m => (f ρ m).bind fun us m1 => match us with
  | [u] => ofB (srcE m1 u) m1
  | _ => .bad
/-- a new pair -/
theorem pair_new {K : PySem.W.Frag} {H : Hp} {μ : List Addr} {m : Mem} (M : MOk K H μ m) {T : Addr} (hT : H T = none) {a b : U} {x y : V} (ra : RU K H μ a x) (rb : RU K H μ b y) : Step K μ H μ (upd H T (.tup [x, y])) ∧ MOk K (upd H T (.tup [x, y])) μ m ∧ RU K (upd H T (.tup [x, y])) μ (.tup [a, b]) (.ref T) :=
  ⟨.newT hT, M.newT hT, .tup (SqT.of upd_same) (.cons (ra.step (.newT hT)) (.cons (rb.step (.newT hT)) .nil))⟩
theorem wk_eT {K : PySem.W.Frag} {H : Hp} {μ : List Addr} {us : List U} {vs : List V} {k : EvF.IK} (hq : ∀ μ1 H1, Mono K μ H μ1 H1 → k.Fits K H1 vs) (t : RUs K H μ us vs) : WkOk K (EvF.Iqe K k vs) μ H (Src.fix (enumU 0 us)).next := wk_fix fun i μ1 H1 m mo M hi => by
  rw [enumU_get]
  have t1 := t.mo mo
  cases e : us[i]? with
  | none =>
    have hl : (enumU 0 us).length = us.length := by
      have : ∀ (l : List U) (k : Nat), (enumU k l).length = l.length := by
        intro l
        induction l with
        | nil => intro k; rfl
        | cons u l ih => intro k; rw [enumU, List.length_cons, ih, List.length_cons]
      exact this us 0
    have := List.getElem?_eq_none_iff.mp e
    have := t.length
    exact ⟨by omega, hq _ _ mo⟩
  | some u =>
    obtain ⟨v, h1, h2⟩ := t1.get e
    refine ⟨⟨(List.getElem?_eq_some_iff.mp h1).1, hq _ _ mo⟩, fun x H' y => ?_⟩
    obtain ⟨T, z, rfl, hT, hz, rfl⟩ := y
    rw [h1] at hz
    cases hz
    rw [show ((0 + i : Nat) : Int) = ((i : Nat) : Int) by rw [Nat.zero_add]]
    exact pair_new M hT (.int _) h2
theorem wk_eC {K : PySem.W.Frag} {H : Hp} {μ : List Addr} {n : Nat} {a : Addr} (hn : μ[n]? = some a) : WkOk K (Ite K a) μ H (fun i m => match m[n]? with | some (.lst us) => some (us[i]?.map fun u => .tup [.int (i : Nat), u]) | _ => none) := fun i μ1 H1 m mo M => by
  have hn1 := mo.at hn
  simp only []
  cases e0 : m[n]? with
  | none => trivial
  | some k =>
    cases k with
    | lst us =>
      simp only []
      obtain ⟨vs, hq, t⟩ := M.cell _ _ _ hn1 e0
      cases e : us[i]? with
      | none => exact ⟨vs, SqL.of hq, by rw [← t.length]; exact List.getElem?_eq_none_iff.mp e⟩
      | some u =>
        obtain ⟨v, h1, h2⟩ := t.get e
        refine ⟨⟨vs, v, SqL.of hq, h1⟩, fun x H' y => ?_⟩
        obtain ⟨T, z, rfl, hT, rfl, y⟩ := y
        have := y vs (SqL.of hq)
        rw [h1] at this; cases this
        exact pair_new M hT (.int _) h2
    | dK _ => trivial
    | dT _ => trivial
/-- what is chosen by the result -/
theorem pick {α : Type} {w : W0} {σ : L2.St} {μ : List Addr} {H : Hp} {r : R α} {P : List Addr → Hp → Mem → α → Prop} {Z : Prop} (p : Post w W σ μ H r P)
    (he : (∀ P', Post w W σ μ H r P') → Z) (ho : ∀ a m, r = .ok a m → (∀ μ1 H1, Step w.K μ H μ1 H1 → MOk w.K H1 μ1 m → P μ1 H1 m a) → (∀ P' : List Addr → Hp → Mem → α → Prop, (∀ μ1 H1, Step w.K μ H μ1 H1 → MOk w.K H1 μ1 m → P' μ1 H1 m a) → Post w W σ μ H r P') → Z) : Z := by
  cases r with
  | bad => exact False.elim p
  | err x m => exact he fun P' => p
  | ok a m => exact ho a m rfl p fun P' h => h
theorem si_enum {p pos tpos : Pos} {elts : List Expr} {kk : Nat} {a : Expr} (h1 : PI X (.Tuple elts kk tpos) (.Call (.Name "enumerate" p) [a] [] pos) (L2.iEnum X.K (rdL (wX X c) W fl))) (h2 : PI X (.Tuple elts kk tpos) (.Call (.Name "enumerate" p) [a] [] pos) (EvF.iEnumA X.K (rdL (wX X c) W fl))) :
    SI X c W (.Tuple elts kk tpos) (.Call (.Name "enumerate" p) [a] [] pos) (iEnum fl) :=
  (L2.PI.or h1 h2).imp fun σ H R ⟨ρ, m, μ, E, M, p⟩ => pick p.bind (fun z => .inl ⟨ρ, m, μ, E, M, z _⟩) fun us m1 _ p at_ => by
    cases us with
    | nil => exact .inl ⟨ρ, m, μ, E, M, at_ _ fun μ1 H1 s1 M1 => False.elim (p μ1 H1 s1 M1)⟩
    | cons u us =>
      cases us with
      | cons _ _ => exact .inl ⟨ρ, m, μ, E, M, at_ _ fun μ1 H1 s1 M1 => False.elim (p μ1 H1 s1 M1)⟩
      | nil =>
        have p' : ∀ μ1 H1, Step X.K μ H μ1 H1 → MOk X.K H1 μ1 m1 → Post (wX X c) W σ μ1 H1 (ofB (srcE m1 u) m1) fun μ' H' _ s => ∀ J, WkOk X.K J μ' H' s.next → R J H' := p
        cases u with
        | str z =>
          refine .inr ⟨ρ, m, μ, E, M, at_ _ fun μ1 H1 s1 M1 vs rs => ?_⟩
          obtain ⟨v, rfl, r⟩ := rs.one
          cases r.s
          refine ⟨_, rfl, .inr (.inr ⟨z, rfl, fun t => (p' μ1 H1 s1 M1).ok_at M1 _ (wk_eT (vs := EvF.signsV z) (fun _ _ _ => .str z t rfl) ?_)⟩)⟩
          have : ∀ l : List Nat, RUs X.K H1 μ1 (l.map fun c => .str ⟨#[c]⟩) (l.map fun c => .str ⟨#[c]⟩) := by
            intro l
            induction l with
            | nil => exact .nil
            | cons c l ih => exact .cons (.str _) ih
          exact this _
        | tup us =>
          refine .inr ⟨ρ, m, μ, E, M, at_ _ fun μ1 H1 s1 M1 vs rs => ?_⟩
          obtain ⟨v, rfl, r⟩ := rs.one
          cases r with
          | tup hq t => exact ⟨_, rfl, .inr (.inl ⟨_, _, rfl, hq, (p' μ1 H1 s1 M1).ok_at M1 _ (wk_eT (fun μ2 H2 mo => .tup (mo.kt _ _ hq)) t)⟩)⟩
        | ref n =>
          refine .inl ⟨ρ, m, μ, E, M, at_ _ fun μ1 H1 s1 M1 vs rs => ?_⟩
          obtain ⟨v, rfl, r⟩ := rs.one
          have p1 := p' μ1 H1 s1 M1
          cases e : m1[n]? with
          | none => simp only [srcE, e] at p1; exact False.elim p1
          | some k =>
            cases k with
            | lst us =>
              simp only [srcE, e] at p1
              cases r with
              | ref hn =>
                obtain ⟨ws, hq, t⟩ := M1.cell _ _ _ hn e
                exact ⟨_, ws, rfl, SqL.of hq, p1.ok_at M1 _ (wk_eC hn)⟩
            | dK _ => simp only [srcE, e] at p1; exact False.elim p1
            | dT _ => simp only [srcE, e] at p1; exact False.elim p1
        | _ => exact .inl ⟨ρ, m, μ, E, M, at_ _ fun μ1 H1 s1 M1 => False.elim (p' μ1 H1 s1 M1)⟩
/-! zip of two lists, of two tuples -/
def zipU : List U → List U → List U
  | a :: as, b :: bs => .tup [a, b] :: zipU as bs
  | _, _ => []
theorem zipU_get : ∀ (as bs : List U) (i : Nat), (zipU as bs)[i]? = match as[i]?, bs[i]? with
    | some a, some b => some (.tup [a, b])
    | _, _ => none
  | [], bs, i => by simp [zipU]
  | a :: as, [], i => by simp only [zipU, List.getElem?_nil]; split <;> first | rfl | (rename_i h; cases h)
  | a :: as, b :: bs, 0 => rfl
  | a :: as, b :: bs, i + 1 => by rw [zipU, List.getElem?_cons_succ, List.getElem?_cons_succ, List.getElem?_cons_succ, zipU_get as bs i]
/-- an item of a cell's list -/
def cellAt (m : Mem) (n : Nat) : Option (List U) := match m[n]? with
  | some (.lst us) => some us
  | _ => none
def srcZ (m : Mem) (u v : U) : Option Src := match u, v with
  | .tup us, .tup ws => some (.fix (zipU us ws))
  | .ref n, .ref k => match cellAt m n, cellAt m k with
    | some us, some ws => some (.dyn (us.length + 1) fun i m => match cellAt m n, cellAt m k with
      | some us, some ws => some (match us[i]?, ws[i]? with
        | some a, some b => some (.tup [a, b])
        | _, _ => none)
      | _, _ => none)
    | _, _ => none
  | _, _ => none
def iZip (f : XL) : ID := fun ρ m => (f ρ m).bind fun us m1 => match us with
  | [u, v] => ofB (srcZ m1 u v) m1
  | _ => .bad
theorem cellAt_of {m : Mem} {n : Nat} {us : List U} (h : cellAt m n = some us) : m[n]? = some (.lst us) := by
  unfold cellAt at h
  split at h
  · rename_i e; cases h; exact e
  · cases h
theorem si_zip {p pos tpos : Pos} {elts : List Expr} {kk : Nat} {a b : Expr} (h : PI X (.Tuple elts kk tpos) (.Call (.Name "zip" p) [a, b] [] pos) (iZipA X.K (rdL (wX X c) W fl))) : SI X c W (.Tuple elts kk tpos) (.Call (.Name "zip" p) [a, b] [] pos) (iZip fl) :=
  h.imp fun σ H R ⟨ρ, m, μ, E, M, p⟩ => ⟨ρ, m, μ, E, M, p.bind.imp fun μ1 H1 m1 us s1 M1 p1 vs rs => by
    split at p1
    · rename_i u v
      obtain ⟨x, y, rfl, r1, r2⟩ := rs.two
      cases q : srcZ m1 u v with
      | none => rw [q] at p1; exact False.elim p1
      | some s =>
        rw [q] at p1
        have fin := p1.ok_at M1
        unfold srcZ at q
        split at q
        · rename_i us ws
          cases q
          cases r1 with
          | tup hq1 t1 =>
            cases r2 with
            | tup hq2 t2 =>
              refine ⟨_, _, _, _, rfl, .inr ⟨hq1, hq2, fin _ (wk_fix fun i μ2 H2 m2 mo M2 hi => ?_)⟩⟩
              rw [zipU_get]
              have u1 := t1.mo mo
              have u2 := t2.mo mo
              have g1 := mo.kt _ _ hq1
              have g2 := mo.kt _ _ hq2
              cases e1 : us[i]? with
              | none => exact ⟨_, _, g1, g2, .inl (by rw [← t1.length]; exact List.getElem?_eq_none_iff.mp e1)⟩
              | some x1 =>
                cases e2 : ws[i]? with
                | none => exact ⟨_, _, g1, g2, .inr (by rw [← t2.length]; exact List.getElem?_eq_none_iff.mp e2)⟩
                | some x2 =>
                  obtain ⟨v1, k1, w1⟩ := u1.get e1
                  obtain ⟨v2, k2, w2⟩ := u2.get e2
                  refine ⟨⟨_, _, v1, v2, g1, g2, k1, k2⟩, fun x H' y => ?_⟩
                  obtain ⟨T, z1, z2, rfl, hT, rfl, y1, y2⟩ := y
                  have a1 := y1 _ g1
                  have a2 := y2 _ g2
                  rw [k1] at a1; cases a1
                  rw [k2] at a2; cases a2
                  exact pair_new M2 hT w1 w2
        · rename_i n k
          split at q
          · rename_i us ws c1 c2
            cases q
            cases r1 with
            | @ref _ a1 hn1 =>
              cases r2 with
              | @ref _ a2 hn2 =>
                obtain ⟨vs1, hq1, t1⟩ := M1.cell _ _ _ hn1 (cellAt_of c1)
                obtain ⟨vs2, hq2, t2⟩ := M1.cell _ _ _ hn2 (cellAt_of c2)
                refine ⟨_, _, _, _, rfl, .inl ⟨SqL.of hq1, SqL.of hq2, fin _ fun i μ2 H2 m2 mo M2 => ?_⟩⟩
                show match (match cellAt m2 n, cellAt m2 k with | some us, some ws => some (match us[i]?, ws[i]? with | some a, some b => some (U.tup [a, b]) | _, _ => none) | _, _ => none) with | none => True | some none => _ | some (some u) => _
                cases d1 : cellAt m2 n with
                | none => trivial
                | some us2 =>
                  cases d2 : cellAt m2 k with
                  | none => trivial
                  | some ws2 =>
                    obtain ⟨zs1, gq1, u1⟩ := M2.cell _ _ _ (mo.at hn1) (cellAt_of d1)
                    obtain ⟨zs2, gq2, u2⟩ := M2.cell _ _ _ (mo.at hn2) (cellAt_of d2)
                    have g1 : SqL X.K H2 a1 zs1 := SqL.of gq1
                    have g2 : SqL X.K H2 a2 zs2 := SqL.of gq2
                    simp only []
                    cases e1 : us2[i]? with
                    | none => exact ⟨_, _, g1, g2, .inl (by rw [← u1.length]; exact List.getElem?_eq_none_iff.mp e1)⟩
                    | some x1 =>
                      cases e2 : ws2[i]? with
                      | none => exact ⟨_, _, g1, g2, .inr (by rw [← u2.length]; exact List.getElem?_eq_none_iff.mp e2)⟩
                      | some x2 =>
                        obtain ⟨v1, k1, w1⟩ := u1.get e1
                        obtain ⟨v2, k2, w2⟩ := u2.get e2
                        refine ⟨⟨_, _, v1, v2, g1, g2, k1, k2⟩, fun x H' y => ?_⟩
                        obtain ⟨T, z1, z2, rfl, hT, rfl, y1, y2⟩ := y
                        have a1 := y1 _ g1
                        have a2 := y2 _ g2
                        rw [k1] at a1; cases a1
                        rw [k2] at a2; cases a2
                        exact pair_new M2 hT w1 w2
          · cases q
        · cases q
    · exact False.elim p1⟩
/-! reversed of a list, of a tuple -/
def srcR (m : Mem) (u : U) : Option Src := match u with
  | .tup us => some (.fix us.reverse)
  | .ref n => match cellAt m n with
    | some us => some (.dyn (us.length + 1) fun i m => if i < us.length then (match cellAt m n with
      | some ws => (ws[us.length - 1 - i]?).map some
      | none => none) else some none)
    | none => none
  | _ => none
def iRev (f : XD) : ID := fun ρ m => (f ρ m).bind fun u m1 => ofB (srcR m1 u) m1
theorem si_rev {st : Expr} (h : PI X tg st (iRevA X.K (rdE (wX X c) W f))) : SI X c W tg st (iRev f) :=
  h.imp fun σ H R ⟨ρ, m, μ, E, M, p⟩ => ⟨ρ, m, μ, E, M, p.bind.imp fun μ1 H1 m1 u s1 M1 p1 v r => by
    cases q : srcR m1 u with
    | none => rw [q] at p1; exact False.elim p1
    | some s =>
      rw [q] at p1
      have fin := p1.ok_at M1
      unfold srcR at q
      split at q
      · rename_i us
        cases q
        cases r with
        | @tup a vs _ hq t =>
          refine ⟨a, vs, rfl, .inr ⟨hq, fin _ (wk_fix fun i μ2 H2 m2 mo M2 hi => ?_)⟩⟩
          have u1 := t.mo mo
          have g1 := mo.kt _ _ hq
          rw [List.length_reverse] at hi
          by_cases h : i < us.length
          · have e : us.reverse[i]? = us[us.length - 1 - i]? := List.getElem?_reverse h
            rw [e]
            have hl : us.length - 1 - i < us.length := by omega
            rw [List.getElem?_eq_getElem hl]
            obtain ⟨v1, k1, w1⟩ := u1.get (List.getElem?_eq_getElem hl)
            rw [t.length] at k1
            refine ⟨⟨by rw [← t.length]; exact h, vs, v1, g1, k1⟩, fun x H' y => ?_⟩
            obtain ⟨eH, y⟩ := y
            subst eH
            have := y vs g1
            rw [k1] at this; cases this
            exact ⟨.refl, M2, w1⟩
          · rw [List.getElem?_eq_none (by rw [List.length_reverse]; omega)]
            show vs.length ≤ i
            rw [← t.length]; omega
      · rename_i n
        split at q
        · rename_i us c1
          cases q
          cases r with
          | @ref _ a hn =>
            obtain ⟨vs, hq, t⟩ := M1.cell _ _ _ hn (cellAt_of c1)
            refine ⟨a, vs, rfl, .inl ⟨SqL.of hq, fin _ fun i μ2 H2 m2 mo M2 => ?_⟩⟩
            show match (if i < us.length then (match cellAt m2 n with | some ws => (ws[us.length - 1 - i]?).map some | none => none) else some none) with | none => True | some none => _ | some (some u) => _
            by_cases h : i < us.length
            · rw [if_pos h]
              cases d1 : cellAt m2 n with
              | none => trivial
              | some ws =>
                obtain ⟨zs, gq, u1⟩ := M2.cell _ _ _ (mo.at hn) (cellAt_of d1)
                simp only []
                cases e1 : ws[us.length - 1 - i]? with
                | none => trivial
                | some x1 =>
                  obtain ⟨v1, k1, w1⟩ := u1.get e1
                  rw [t.length] at k1
                  refine ⟨⟨by rw [← t.length]; exact h, zs, v1, SqL.of gq, k1⟩, fun x H' y => ?_⟩
                  obtain ⟨eH, y⟩ := y
                  subst eH
                  have := y zs (SqL.of gq)
                  rw [k1] at this; cases this
                  exact ⟨.refl, M2, w1⟩
            · rw [if_neg h]
              show vs.length ≤ i
              rw [← t.length]; omega
        · cases q
      · cases q⟩
end
end Ev

set_option Elab.async false
set_option linter.all false
set_option maxRecDepth 100000
set_option maxHeartbeats 4000000
/-! Ev: tuple * int for any int; pow of three; a list's item for an operator's store. -/
namespace EvG
open PySem PySem.Spec L2 PyProof.Rows
theorem tuple_mul_same (l : Addr) (items : Array Value) (n : Nat) (dd : Option Addr) (sl : Array (Option Value)) (x : Int) (u : Tok) (c0 : (decide (x < -(2 ^ 63)) || decide (x ≥ 2 ^ 63)) = false) (c1 : (items.isEmpty || x == 1) = true) :
    Meets (Builtin.«tuple.__mul__» ⟨[.ref l, .int x u], []⟩) (fun _ R s => s.heap.get? l = some { cls := .type "tuple", dict := dd, data := .seq items n, slots := sl } ∧
      R (.ok (.ret (Value.ref l))) s) :=
  .of_wp fun prog w A R s h => by
    obtain ⟨hp, g, d, tk, os⟩ := s
    obtain ⟨hl, h⟩ := h
    have f1 := AutoSeq1.idx_int
    wp_walk using wpAny_loadPart' hl
    repeat (first
      | (refine wpAny_ite_false (decide_eq_false (by rw [c0]; exact Bool.false_ne_true)) ?_; wp_walk using wpAny_loadPart' hl)
      | (refine wpAny_ite_true (decide_eq_true (by rw [c1])) ?_; wp_walk using wpAny_loadPart' hl))
    exact ⟨_, rfl, h⟩
theorem tuple_mul_none (l : Addr) (items : Array Value) (n : Nat) (dd : Option Addr) (sl : Array (Option Value)) (x : Int) (u : Tok) (c0 : (decide (x < -(2 ^ 63)) || decide (x ≥ 2 ^ 63)) = false) (c1 : (items.isEmpty || x == 1) = false) (c2 : (decide (x ≤ 0) || items.isEmpty) = true) :
    Meets (Builtin.«tuple.__mul__» ⟨[.ref l, .int x u], []⟩) (fun _ R s => s.heap.get? l = some { cls := .type "tuple", dict := dd, data := .seq items n, slots := sl } ∧
      R (.ok (.ret (Value.ref s.heap.objs.size))) { s with heap := s.heap.push { cls := Value.type "tuple", data := Data.seq #[] }, toks := s.toks }) :=
  .of_wp fun prog w A R s h => by
    obtain ⟨hp, g, d, tk, os⟩ := s
    obtain ⟨hl, h⟩ := h
    have f1 := AutoSeq1.idx_int
    wp_walk using wpAny_loadPart' hl
    repeat (first
      | (refine wpAny_ite_false (decide_eq_false (by rw [c0]; exact Bool.false_ne_true)) ?_; wp_walk using wpAny_loadPart' hl)
      | (refine wpAny_ite_false (decide_eq_false (by rw [c1]; exact Bool.false_ne_true)) ?_; wp_walk using wpAny_loadPart' hl)
      | (refine wpAny_ite_true (decide_eq_true (by rw [c2])) ?_; wp_walk using wpAny_loadPart' hl))
    exact ⟨_, rfl, h⟩
end EvG
namespace EvG
open PySem PySem.Spec L2 PyProof.Rows
theorem int_pow3 (a : Int) (t : Tok) (b : Int) (u : Tok) (c : Int) (v : Tok) (h0 : 0 ≤ b) (h1 : 1 < c) :
    Meets (Builtin.«int.__pow__» ⟨[.int a t, .int b u, .int c v], []⟩) (fun _ R s => R (.ok (.ret (Value.int ((Builtin.powMod (a % (c.natAbs : Int)).toNat b.natAbs c.natAbs : Nat) : Int) s.toks))) { s with toks := s.toks + 1 }) :=
  .of_wp fun prog w A R s h => by
    obtain ⟨hp, g, d, tk, os⟩ := s
    have hc0 : ¬ (c == 0) = true := by simp; omega
    have hc1 : ¬ (c.natAbs == 1) = true := by simp; omega
    have hb : ¬ b < 0 := by omega
    have hm : ¬ (decide (c < 0) && (((Builtin.powMod (a % (c.natAbs : Int)).toNat b.natAbs c.natAbs : Nat) : Int) != 0)) = true := by
      rw [decide_eq_false (by omega)]; simp
    wp_walk
    repeat (first
      | (refine wpAny_ite_false (decide_eq_false hc0) ?_; wp_walk)
      | (refine wpAny_ite_false (decide_eq_false hc1) ?_; wp_walk)
      | (refine wpAny_ite_false (decide_eq_false hb) ?_; wp_walk))
    exact ⟨_, by rw [if_neg hm], h⟩
theorem kind_pow : builtinKind "pow" = none := by decide +kernel
theorem plain_pow : plainId "pow" = true := by decide +kernel
theorem entry_pow : entryFor table "pow" = some Builtin.«pow» := entryFor_of_fast (by kernel_rfl)
theorem args_pow3 (a b c : Value) : argsOk "pow" ⟨[a, b, c], []⟩ := by unfold argsOk; kernel_rfl
theorem args_int_pow3 (a b c : Value) : argsOk "int.__pow__" ⟨[a, b, c], []⟩ := by unfold argsOk; kernel_rfl
theorem look_int_pow : typeLookup (.type "int") (Str.ofString "__pow__") = pure (some (.builtin "int.__pow__")) := PySem.F.slot_int_pow.lookup
section
variable {prog : Program} {w : World} {A : Around} {E : Value → Shared → Prop} {s : Shared} {a b c : Int} {t u v : Tok}
theorem call_pow3 {Q : Value → Shared → Prop} (h0 : 0 ≤ b) (h1 : 1 < c) (h : Q (Value.int ((Builtin.powMod (a % (c.natAbs : Int)).toNat b.natAbs c.natAbs : Nat) : Int) s.toks) { s with toks := s.toks + 1 }) :
    wpAny (model prog w) A (call (.builtin "pow") [.int a t, .int b u, .int c v]) Q E s := by
  obtain ⟨hp, g, d, tk, os⟩ := s
  refine PySem.Calls.call_function_entry kind_pow plain_pow entry_pow (args_pow3 _ _ _) ?_
  unfold Builtin.«pow»
  wp_walk
  rw [look_int_pow]
  refine wpAny_pure ?_
  refine wpAny_bind ?_
  refine wpAny_callSpecial?_slot (name := Str.ofString "__pow__") (typeIs_int _ a t) PySem.F.slot_int_pow ?_
  refine call_meets PySem.F.slot_int_pow (typeIs_int _ a t) PySem.F.entry_int_pow (args_int_pow3 _ _ _) (int_pow3 a t b u c v h0 h1) ?_
  show wpAny _ _ (if (Value.int ((Builtin.powMod (a % (c.natAbs : Int)).toNat b.natAbs c.natAbs : Nat) : Int) tk != Value.notImplemented) = true then ret _ else _) _ _ _
  rw [if_pos (show (Value.int ((Builtin.powMod (a % (c.natAbs : Int)).toNat b.natAbs c.natAbs : Nat) : Int) tk != Value.notImplemented) = true from rfl)]
  exact wpAny_pure ⟨_, rfl, h⟩
end
section
variable {X : Cx}
def rPow3 : List V → Hp → VK → Prop := fun xs H Q => ∃ a b c : Int, xs = [.int a, .int b, .int c] ∧ 0 ≤ b ∧ 1 < c ∧ Q (.int ((Builtin.powMod (a % (c.natAbs : Int)).toNat b.natAbs c.natAbs : Nat) : Int)) H
theorem cr_pow3 : CallR X (.builtin "pow") rPow3 := by
  intro pins s σ H xs us Q I rx h
  obtain ⟨a, b, c, rfl, h0, h1, q⟩ := h
  cases rx with
  | cons r1 rx =>
    cases rx with
    | cons r2 rx =>
      cases rx with
      | cons r3 rx =>
        cases rx
        obtain ⟨t, rfl⟩ := r1
        obtain ⟨t2, rfl⟩ := r2
        obtain ⟨t3, rfl⟩ := r3
        exact call_pow3 h0 h1 ⟨.int _, H, I.tok _, ⟨_, rfl⟩, q⟩
/-- tuple * int, whatever the int -/
def rRepG (K : PySem.W.Frag) : R2 := fun x y H Q => ∃ l k xs, x = .ref l ∧ y = .int k ∧ SqT K H l xs ∧ -1000 ≤ k ∧ k ≤ 1000 ∧ xs.length ≤ 1000 ∧
  (xs = [] ∨ k = 1 → Q (.ref l) H) ∧ (xs ≠ [] → k ≤ 0 → ∀ p, H p = none → Q (.ref p) (upd H p (.tup []))) ∧ (xs ≠ [] → 2 ≤ k → ∀ p, H p = none → Q (.ref p) (upd H p (.tup (List.replicate k.toNat xs).flatten)))
theorem op_repG : OpR X (binaryOp .Mult) (rRepG X.K) := by
  intro pins s σ H x y v u Q I rx ry h
  obtain ⟨l, k, xs, rfl, rfl, hT, hk0, hk1, hz, q1, q2, q3⟩ := h
  by_cases hbig : xs ≠ [] ∧ 2 ≤ k
  · exact op_repT pins s σ H _ _ v u Q I rx ry ⟨l, k, xs, rfl, rfl, hT, hbig.1, hbig.2, hk1, hz, q3 hbig.1 hbig.2⟩
  cases rx
  obtain ⟨t, rfl⟩ := ry
  obtain ⟨its, r, ⟨⟨cls, dd, data, sl⟩, ho, hc, n, hd⟩, hs⟩ := I.tuple hT
  simp only at hc hd
  subst hc hd
  have hle : its.length = xs.length := r.length.symm
  have c0 : (decide (k < -(2 ^ 63)) || decide (k ≥ 2 ^ 63)) = false := by
    rw [decide_eq_false (by omega), decide_eq_false (by omega)] <;> rfl
  have hnil : its.toArray.isEmpty = xs.isEmpty := by
    cases its with
    | nil => cases xs with
      | nil => rfl
      | cons _ _ => simp at hle
    | cons _ _ => cases xs with
      | nil => simp at hle
      | cons _ _ => rfl
  by_cases h1 : xs = [] ∨ k = 1
  · have c1 : (its.toArray.isEmpty || k == 1) = true := by
      rw [hnil]
      rcases h1 with e | e
      · rw [e]; rfl
      · rw [e]; simp
    refine wpAny_binaryOp_repeat_ref (T := "tuple") (U := "int") (by decide) ⟨_, ho, rfl⟩ (fun s' => typeIs_int s' k t) noFill_tuple_mul F.fills_int_mul F.slot_int_rmul repeat_tuple F.slot_int_index.lookup
      (call_meets F.slot_int_rmul (typeIs_int s k t) F.entry_int_rmul (F.args_int_rmul_2 _ _) (int_rmul_tuple k t l its.toArray n dd sl)
        ⟨ho, rfl, ⟨_, ho, rfl⟩, call_meets F.slot_tuple_mul ⟨_, ho, rfl⟩ F.entry_tuple_mul (F.args_tuple_mul_2 _ _) (tuple_mul_same l its.toArray n dd sl k t c0 c1) ⟨ho, ?_⟩⟩)
    exact ⟨.ref l, H, I, rfl, q1 h1⟩
  · have hx : xs ≠ [] := fun e => h1 (.inl e)
    have hk : k ≤ 0 := by
      have a1 : k ≠ 1 := fun e => h1 (.inr e)
      have a2 : ¬ 2 ≤ k := fun z => hbig ⟨hx, z⟩
      omega
    have he : xs.isEmpty = false := by
      cases xs with
      | nil => exact absurd rfl hx
      | cons _ _ => rfl
    have c1 : (its.toArray.isEmpty || k == 1) = false := by
      rw [hnil, he]
      simp; omega
    have c2 : (decide (k ≤ 0) || its.toArray.isEmpty) = true := by rw [decide_eq_true hk]; rfl
    refine wpAny_binaryOp_repeat_ref (T := "tuple") (U := "int") (by decide) ⟨_, ho, rfl⟩ (fun s' => typeIs_int s' k t) noFill_tuple_mul F.fills_int_mul F.slot_int_rmul repeat_tuple F.slot_int_index.lookup
      (call_meets F.slot_int_rmul (typeIs_int s k t) F.entry_int_rmul (F.args_int_rmul_2 _ _) (int_rmul_tuple k t l its.toArray n dd sl)
        ⟨ho, rfl, ⟨_, ho, rfl⟩, call_meets F.slot_tuple_mul ⟨_, ho, rfl⟩ F.entry_tuple_mul (F.args_tuple_mul_2 _ _) (tuple_mul_none l its.toArray n dd sl k t c0 c1 c2) ⟨ho, ?_⟩⟩)
    refine ⟨.ref s.heap.objs.size, _, I.laid (t' := s.toks) (o := .tup []) (fun b ob q => Heap.get?_push_of_some _ q) (Nat.le_refl _) ?_, rfl, q2 hx hk _ (I.hok.fresh (Nat.le_refl _))⟩
    exact ⟨Nat.zero_le _, [], .nil, IsTup.new _ _⟩
/-- a list's item, for an operator's store -/
def rGetL (K : PySem.W.Frag) : V → V → Hp → VK → Prop := fun o i H Q => ∃ p xs k v, o = .ref p ∧ i = .int k ∧ SqL K H p xs ∧ atI xs k = some v ∧ Q v H
theorem get_list : PGet X (rGetL X.K) := by
  intro pins s σ H o i ov iv Q I ro ri h
  obtain ⟨p, xs, k, z, rfl, rfl, hq, he, q⟩ := h
  cases ro
  obtain ⟨t, rfl⟩ := ri
  obtain ⟨its, r, pl, hz⟩ := I.list hq
  obtain ⟨j, h1, h2, h3, h4, h5⟩ := atI_get he
  obtain ⟨w, ew, rw'⟩ := r.get h2
  have hl := r.length
  have hn := line63
  have fin : EP X pins σ Q w s := ⟨z, H, I, rw', q⟩
  by_cases h0 : 0 ≤ k
  · have hj : k.toNat = j := by
      rw [seqIndex_of h0 h5] at h1
      exact Option.some.inj h1
    exact wpAny_getItem_list pl.isList h0 (by omega) (by rw [hj]; simpa using ew) fin
  · have hj : (k + (its.toArray.size : Int)).toNat = j := by
      rw [seqIndex_neg (by omega) h4] at h1
      rw [List.size_toArray, ← hl]
      exact Option.some.inj h1
    exact wpAny_getItem_list_neg pl.isList (by omega) (by rw [List.size_toArray] <;> omega) (by omega) (by rw [hj]; simpa using ew) fin
end
end EvG

set_option Elab.async false
set_option linter.all false
set_option maxRecDepth 100000
set_option maxHeartbeats 4000000
/-! Ev: in, tuples times ints, pow, stores by an operator. -/
namespace Ev
open PySem PySem.Spec L2 EvG

/-! ### in -/
def datsOf (m : Mem) (y : U) : Option (List PyData) := match itemsOf m y with
  | some us => datRL (resM m 5) us
  | none => none
def inU (m : Mem) (x y : U) : Option Bool := match y with
  | .str z => match x with
    | .str w => match w.cps.toList with
      | [k] => some (decide (k ∈ z.cps.toList))
      | _ => none
    | _ => none
  | y => match dat m x, datsOf m y with
    | some d, some ds => if SeqAt.shaped d && SeqAt.shaped (.list ds) then some (ds.any fun z => PyData.eqv z d) else none
    | _, _ => none
def oIn : U → U → Mem → O U := fun x y m => (inU m x y).map fun b => (.bl b, m)
def oNotIn : U → U → Mem → O U := fun x y m => (inU m x y).map fun b => (.bl (!b), m)
theorem dats_ok {K : PySem.W.Frag} {H : Hp} {μ : List Addr} {m : Mem} (M : MOk K H μ m) {y : U} {v : V} {ds : List PyData} (r : RU K H μ y v) (h : datsOf m y = some ds) : Dp K H v (.list ds) ∨ Dp K H v (.tuple ds) := by
  unfold datsOf at h
  split at h
  · rename_i us e
    obtain ⟨a, vs, rfl, hq, t, h1, h2⟩ := items_ok M r e
    have hd := datRL_ok (resM_ok M 5) t h
    rcases hq with hq | hq
    · exact .inl (.lst hq hd)
    · exact .inr (.tup hq hd)
  · cases h
theorem str1 {w : Str} {k : Nat} (h : w.cps.toList = [k]) : w = ⟨#[k]⟩ := by
  obtain ⟨c⟩ := w
  have h2 : c.toList = [k] := h
  have : c = #[k] := by
    have := congrArg List.toArray h2
    simpa using this
  rw [this]
theorem inU_ok {X : Cx} {H : Hp} {μ : List Addr} {m : Mem} (M : MOk X.K H μ m) {x y : U} {v w : V} {b : Bool} (rx : RU X.K H μ x v) (ry : RU X.K H μ y w) (h : inU m x y = some b) :
    (∃ (k : Nat) (z : Str), v = .str ⟨#[k]⟩ ∧ w = .str z ∧ b = decide (k ∈ z.cps.toList)) ∨
    ∃ d ds, Dp X.K H v d ∧ (Dp X.K H w (.list ds) ∨ Dp X.K H w (.tuple ds)) ∧ SeqAt.shaped d = true ∧ SeqAt.shaped (.list ds) = true ∧ b = ds.any fun z => PyData.eqv z d := by
  unfold inU at h
  split at h
  · split at h
    · split at h
      · rename_i e
        cases h
        cases ry.s; cases rx.s
        exact .inl ⟨_, _, by rw [str1 e], rfl, rfl⟩
      · cases h
    · cases h
  · split at h
    · rename_i d ds h1 h2
      split at h
      · rename_i hs
        rw [Bool.and_eq_true] at hs
        cases h
        exact .inr ⟨d, ds, dat_ok M rx h1, dats_ok M ry h2, hs.1, hs.2, rfl⟩
      · cases h
    · cases h
section
variable {X : Cx}
theorem room_in_shapedT {ds : List PyData} {d : PyData} {A : Around} (sd : SeqAt.shaped d = true) (hu : A.units + 65 < cLine) : A.units + 1 + min (PyData.depthAll ds) d.depth < cLine := by
  have : d.depth ≤ 64 := by
    unfold SeqAt.shaped at sd
    rw [Bool.and_eq_true] at sd
    exact of_decide_eq_true sd.2
  omega
theorem x_in (hu : X.A.units + 65 < cLine) : OpR X (compareOp .In) (rd2 X.K oIn) := by
  intro pins s σ H x y v u Q I rx ry h
  obtain ⟨u1, u2, m, μ, r1, r2, M, p⟩ := h
  unfold oIn at p
  cases e : inU m u1 u2 with
  | none => rw [e] at p; exact no_op p
  | some b =>
    rw [e] at p
    rcases inU_ok M r1 r2 e with ⟨k, z, rfl, rfl, rfl⟩ | ⟨d, ds, hd, he, sd, se, rfl⟩
    · exact op_in_sign pins s σ H _ _ v u Q I rx ry ⟨k, z, rfl, rfl, p.val M (.bl _)⟩
    · rcases he with he | he
      · exact op_inD hu pins s σ H _ _ v u Q I rx ry ⟨d, ds, hd, he, sd, se, p.val M (.bl _)⟩
      · obtain ⟨as, q1⟩ := Dp.reads I d x v hd rx
        obtain ⟨bs, q2⟩ := Dp.reads I (.tuple ds) y u he ry
        exact SeqAt.in_tuple_reads q2 q1 (SeqAt.canLay_of_shaped (d := .list ds) se) (SeqAt.canLay_of_shaped sd) (room_in_shapedT sd hu) ⟨.bl _, H, I, rfl, p.val M (.bl _)⟩
theorem x_notIn (hu : X.A.units + 65 < cLine) : OpR X (compareOp .NotIn) (rd2 X.K oNotIn) := by
  intro pins s σ H x y v u Q I rx ry h
  obtain ⟨u1, u2, m, μ, r1, r2, M, p⟩ := h
  unfold oNotIn at p
  cases e : inU m u1 u2 with
  | none => rw [e] at p; exact no_op p
  | some b =>
    rw [e] at p
    rcases inU_ok M r1 r2 e with ⟨k, z, rfl, rfl, rfl⟩ | ⟨d, ds, hd, he, sd, se, rfl⟩
    · exact op_notIn_sign pins s σ H _ _ v u Q I rx ry ⟨k, z, rfl, rfl, p.val M (.bl _)⟩
    · rcases he with he | he
      · exact op_notInD hu pins s σ H _ _ v u Q I rx ry ⟨d, ds, hd, he, sd, se, p.val M (.bl _)⟩
      · obtain ⟨as, q1⟩ := Dp.reads I d x v hd rx
        obtain ⟨bs, q2⟩ := Dp.reads I (.tuple ds) y u he ry
        exact SeqAt.notIn_tuple_reads q2 q1 (SeqAt.canLay_of_shaped (d := .list ds) se) (SeqAt.canLay_of_shaped sd) (room_in_shapedT sd hu) ⟨.bl _, H, I, rfl, p.val M (.bl _)⟩
/-! ### times -/
def oMulG : U → U → Mem → O U
  | .tup xs, .int k, m => if -1000 ≤ k ∧ k ≤ 1000 ∧ xs.length ≤ 1000 then some (.tup (List.replicate k.toNat xs).flatten, m) else none
  | u, v, m => oMul u v m
theorem x_mulG : OpR X (binaryOp .Mult) (rd2 X.K oMulG) := by
  intro pins s σ H x y v u Q I rx ry h
  obtain ⟨u1, u2, m, μ, r1, r2, M, p⟩ := h
  unfold oMulG at p
  split at p
  · rename_i xs k
    cases r1 with
    | @tup a vs _ hq t =>
      cases r2
      split at p
      · rename_i hz
        have hl := t.length
        refine op_repG pins s σ H _ _ v u Q I rx ry ⟨a, k, vs, rfl, rfl, hq, hz.1, hz.2.1, by rw [← hl]; exact hz.2.2, fun e => p.val M (.tup hq ?_), fun hx hk p' hp => ?_, fun hx hk p' hp => p.tup M (t.rep _) hp⟩
        · rcases e with e | e
          · subst e
            cases t
            rw [show (List.replicate k.toNat ([] : List U)).flatten = [] by simp]
            exact .nil
          · subst e
            show RUs _ _ _ (List.replicate 1 xs).flatten vs
            rw [List.replicate_one, List.flatten_cons, List.flatten_nil, List.append_nil]
            exact t
        · have : k.toNat = 0 := by omega
          rw [this] at p
          exact p.tup M .nil hp
      · exact no_op p
  · exact x_mul pins s σ H x y v u Q I rx ry ⟨u1, u2, m, μ, r1, r2, M, p⟩
/-! ### pow of three -/
def oPow3 : List U → Mem → O U
  | [.int a, .int b, .int c], m => if 0 ≤ b ∧ 1 < c then some (.int ((Builtin.powMod (a % (c.natAbs : Int)).toNat b.natAbs c.natAbs : Nat) : Int), m) else none
  | _, _ => none
theorem b_pow3 : CallR X (.builtin "pow") (rdC X.K oPow3) := by
  intro pins s σ H xs us Q I rx h
  obtain ⟨vs, m, μ, r, M, p⟩ := h
  unfold oPow3 at p
  split at p
  · split at p
    · rename_i hz
      cases r with
      | cons r1 r =>
        cases r with
        | cons r2 r =>
          cases r with
          | cons r3 r =>
            cases r
            cases r1.i; cases r2.i; cases r3.i
            exact cr_pow3 pins s σ H _ us Q I rx ⟨_, _, _, rfl, hz.1, hz.2, p.val M (.int _)⟩
    · exact no_op p
  · exact no_op p
/-! ### o[i] op= e of a list -/
def oGetL (o i : U) (m : Mem) : O U := match o, i with
  | .ref n, .int k => match cellAt m n with
    | some us => (atI us k).map fun u => (u, m)
    | none => none
  | _, _ => none
def sAugS (G : U → U → Mem → O U) (F : U → U → Mem → O U) (S : U → U → U → Mem → O Unit) (fo fi fe : XD) : SD := fun ρ m => thenE (fo ρ m) ρ fun o m1 => thenE (fi ρ m1) ρ fun i m2 => thenO (G o i m2) fun x m3 => thenE (fe ρ m3) ρ fun y m4 => thenO (F x y m4) fun z m5 => thenO (S o i z m5) fun _ m6 => .ok .nx ρ m6
theorem x_getL : PGet X (rd2 X.K oGetL) := by
  intro pins s σ H x y v u Q I rx ry h
  obtain ⟨u1, u2, m, μ, r1, r2, M, p⟩ := h
  unfold oGetL at p
  split at p
  · cases r2
    split at p
    · rename_i us e
      cases q : atI us _ with
      | none => rw [q] at p; exact no_op p
      | some z =>
        rw [q] at p
        obtain ⟨a, vs, rfl, hn, hq, t⟩ := r1.cl M (cellAt_of e)
        obtain ⟨z', h1, h2⟩ := atI_u t q
        exact get_list pins s σ H _ _ v u Q I rx ry ⟨a, vs, _, z', rfl, rfl, SqL.of hq, h1, p.val M h2⟩
    · exact no_op p
  · exact no_op p
theorem ss_augS {c : Nat → Addr} {W : WX} {st : Stmt} {fo fi fe : XD} {G F : U → U → Mem → O U} {S : U → U → U → Mem → O Unit}
    (h : PS X st (tAugS (rdE (wX X c) W fo) (rdE (wX X c) W fi) (rdE (wX X c) W fe) (rd2 X.K G) (rd2 X.K F) (rdSet X.K S))) : SS X c W st (sAugS G F S fo fi fe) :=
  h.imp fun D σ H ⟨ρ, m, μ, E, M, p⟩ => ⟨ρ, m, μ, E, M, (PostS.thenE E p).imp fun μ1 H1 m1 o s1 M1 p1 vo ro => ⟨ρ, m1, μ1, E.step s1, M1, (PostS.thenE (E.step s1) p1).imp fun μ2 H2 m2 i s2 M2 p2 vi ri => by
    refine ⟨o, i, m2, μ2, ro.step s2, ri, M2, ?_⟩
    have p2 := PostS.thenO p2
    cases q : G o i m2 with
    | none => rw [q] at p2; exact no_op p2
    | some z =>
      obtain ⟨x, m3⟩ := z
      rw [q] at p2
      exact fun μ3 H3 s3 M3 vx rx => ⟨ρ, m3, μ3, ((E.step s1).step s2).step s3, M3, (PostS.thenE (((E.step s1).step s2).step s3) (p2 μ3 H3 s3 M3)).imp fun μ4 H4 m4 y s4 M4 p4 vy ry => by
        refine ⟨x, y, m4, μ4, rx.step s4, ry, M4, ?_⟩
        have p4 := PostS.thenO p4
        cases q2 : F x y m4 with
        | none => rw [q2] at p4; exact no_op p4
        | some z =>
          obtain ⟨z, m5⟩ := z
          rw [q2] at p4
          exact fun μ5 H5 s5 M5 vz rz => by
            refine ⟨o, i, z, m5, μ5, (((ro.step s2).step s3).step s4).step s5, ((ri.step s3).step s4).step s5, rz, M5, ?_⟩
            have p5 := PostS.thenO (p4 μ5 H5 s5 M5)
            cases q3 : S o i z m5 with
            | none => rw [q3] at p5; exact no_op p5
            | some z =>
              obtain ⟨z', m6⟩ := z
              rw [q3] at p5
              exact fun μ6 H6 s6 M6 => (p5 μ6 H6 s6 M6).nx M6 (((((E.step s1).step s2).step s3).step s4).step s5 |>.step s6)⟩⟩⟩
/-! in place: ints, texts -/
def oIAdd : U → U → Mem → O U
  | .int i, .int j, m => some (.int (i + j), m)
  | .str x, .str y, m => if x.length + y.length ≤ sizeLine then some (.str (x ++ y), m) else none
  | _, _, _ => none
theorem x_iadd : PIp X .Add (rd2 X.K oIAdd) := by
  intro pins s σ H x y v u Q I rx ry h
  obtain ⟨u1, u2, m, μ, r1, r2, M, p⟩ := h
  unfold oIAdd at p
  split at p
  · cases r1; cases r2
    exact iop_add pins s σ H _ _ v u Q I rx ry ⟨_, _, rfl, rfl, p.val M (.int _)⟩
  · cases r1; cases r2
    split at p
    · rename_i hz
      exact iop_add_str pins s σ H _ _ v u Q I rx ry ⟨_, _, rfl, rfl, hz, p.val M (.str _)⟩
    · exact no_op p
  · exact no_op p
theorem x_isub : PIp X .Sub (rd2 X.K oSub) := by
  intro pins s σ H x y v u Q I rx ry h
  obtain ⟨u1, u2, m, μ, r1, r2, M, p⟩ := h
  unfold oSub at p
  split at p
  · cases r1; cases r2
    exact iop_sub pins s σ H _ _ v u Q I rx ry ⟨_, _, rfl, rfl, p.val M (.int _)⟩
  · exact no_op p
end
/-! ### reversed(range(..)) -/
def iRevR1 (f : XD) : ID := fun ρ m => (f ρ m).bind fun u m1 => match u with
  | .int j => if -(2 ^ 62) ≤ j ∧ j < 2 ^ 62 then .ok (.fix (runI 0 (j - 0).toNat).reverse) m1 else .bad
  | _ => .bad
theorem runI_len : ∀ (n : Nat) (lo : Int), (runI lo n).length = n
  | 0, _ => rfl
  | n + 1, lo => by rw [runI, List.length_cons, runI_len n]
theorem wk_rr {K : PySem.W.Frag} {H : Hp} {μ : List Addr} {lo : Int} {n : Nat} : WkOk K (Itc (lo + ((n : Nat) : Int) - 1) (-1) n) μ H (Src.fix (runI lo n).reverse).next := wk_fix fun i μ1 H1 m mo M _ => by
  by_cases h : i < n
  · have e : (runI lo n).reverse[i]? = some (.int (lo + ((n - 1 - i : Nat) : Int))) := by
      rw [List.getElem?_reverse (by rw [runI_len]; exact h), runI_len, runI_get, if_pos (by omega)]
    rw [e]
    refine ⟨h, fun x H' y => ?_⟩
    obtain ⟨e1, e2⟩ := y
    subst e1 e2
    refine ⟨.refl, M, ?_⟩
    have : lo + ((n : Nat) : Int) - 1 + (i : Int) * (-1) = lo + ((n - 1 - i : Nat) : Int) := by omega
    rw [this]
    exact .int _
  · rw [List.getElem?_eq_none (by rw [List.length_reverse, runI_len]; omega)]
    exact Nat.le_of_not_lt h
section
variable {X : Cx} {c : Nat → Addr} {W : WX} {tg : Expr} {f : XD}
theorem si_revR1 {st : Expr} (hp : PI X tg st (iRevR (tRg1 (rdE (wX X c) W f)))) : SI X c W tg st (iRevR1 f) :=
  hp.imp fun σ H R ⟨ρ, m, μ, E, M, p⟩ => ⟨ρ, m, μ, E, M, p.bind.imp fun μ1 H1 m1 u s1 M1 p1 v r => by
    split at p1
    · split at p1
      · rename_i hz
        cases r.i
        exact ⟨_, rfl, by omega, by omega, hz.1, hz.2, p1.ok_at M1 _ wk_rr⟩
      · exact False.elim p1
    · exact False.elim p1⟩
end
end Ev

set_option Elab.async false
set_option linter.all false
set_option maxRecDepth 100000
set_option maxHeartbeats 4000000
/-! Ev: short words for printed texts; the ends. -/
namespace Ev
open PySem PySem.Spec L2
def st (l : List Nat) : Str := ⟨l.toArray⟩
section
variable {X : Cx} {c : Nat → Addr} {W : WX}
theorem se_sl (i : Nat) {x : Str} {pos : Pos} (hN : X.N[i]? = some x := by rfl) (hv : Vis X.env.scope x := by first | exact Or.inl rfl | exact Or.inr (Or.inl rfl) | exact Or.inr (Or.inr rfl)) (hd : (x == ("__debug__" : Str)) = false := by decide) (hcd : (x == ("__classdict__" : Str)) = false := by decide) : SE X c W (.Name x pos) (dSlot i) :=
  se_slot hN hv hd hcd
end
theorem law_sp {K : PySem.W.Frag} {c : Nat → Addr} {F : List U → Mem → R U} (hF : ∀ ns : List Int, ns.length ≤ 63 → ∃ m, F [.rol (ns.map .int)] [] = .ok (.bl true) m) {vs : List V} {H : Hp} {Q : VK} {E : XK}
    (h : ∃ (ad : Addr) (ns : List Int), vs = [.ref ad] ∧ ((∃ o, H ad = some (.frz o (.lst (ns.map V.int)))) ∨ SqL K (fun _ => none) ad (ns.map V.int)) ∧ ns.length ≤ 63 ∧ ∀ H', Q (.bl true) H') : spF K c 1 F vs H Q E := by
  obtain ⟨ad, ns, rfl, hq, hl, hQ⟩ := h
  obtain ⟨m, e⟩ := hF ns hl
  refine ⟨rfl, [.rol (ns.map .int)], [], [], .cons (.rol hq (RUs.ints ns)) .nil, ⟨rfl, List.nodup_nil, fun n a c h _ => by simp at h⟩, ?_⟩
  rw [e]
  exact fun μ' H' s M v r => by
    cases r.b
    exact hQ H'
theorem only_rol {K : PySem.W.Frag} {H : Hp} {a : Addr} {vs : List V} (hO : Only H) (hS : SqL K H a vs) : (∃ o, H a = some (.frz o (.lst vs))) ∨ SqL K (fun _ => none) a vs := by
  rcases hS with (h | ⟨o, h⟩) | h
  · rcases hO a with e | ⟨o, xs, e⟩
    · rw [h] at e; cases e
    · rw [h] at e; cases e
  · exact .inl ⟨o, h⟩
  · exact .inr (.inr h)
theorem cx_false {P : Program} {w : World} {l : List PySem.Env} {H : Hp} {s : Shared} {e : Value} {s' : Shared} (z : L2.CX P w l H s (fun _ _ _ => False) e s') : False := by
  obtain ⟨_, _, _, _, _, _, _, _, _, _, _, _, z⟩ := z
  exact z
end Ev

set_option Elab.async false
set_option linter.all false
set_option maxRecDepth 100000
set_option maxHeartbeats 2000000
/-! Ev: len(set(..)), list(range(..)). -/
namespace Ev
open PySem PySem.Spec PyProof.Rows L2 RZ
/-- how many unlike ones -/
def dcount : List Int → Nat
  | [] => 0
  | a :: r => if a ∈ r then dcount r else dcount r + 1
theorem dcount_of : ∀ (ns out : List Int), out.Nodup → (∀ k, k ∈ out ↔ k ∈ ns) → out.length = dcount ns
  | [], out, _, h => by
    cases out with
    | nil => rfl
    | cons a r => exact absurd ((h a).mp (List.mem_cons_self ..)) (by simp)
  | a :: r, out, nd, h => by
    rw [dcount]
    by_cases ha : a ∈ r
    · rw [if_pos ha]
      exact dcount_of r out nd fun k => (h k).trans ⟨fun z => by
        rcases List.mem_cons.mp z with e | z
        · exact e ▸ ha
        · exact z, fun z => List.mem_cons_of_mem _ z⟩
    · rw [if_neg ha]
      have hao : a ∈ out := (h a).mpr (List.mem_cons_self ..)
      have ih := dcount_of r (out.erase a) (nd.erase a) fun k => by
        rw [nd.mem_erase_iff, h k, List.mem_cons]
        exact ⟨fun ⟨h1, h2⟩ => h2.resolve_left h1, fun z => ⟨fun e => ha (e ▸ z), .inr z⟩⟩
      rw [List.length_erase_of_mem hao] at ih
      have := List.length_pos_of_mem hao
      omega
theorem dcount_nodup : ∀ ns : List Int, ns.Nodup → dcount ns = ns.length
  | [], _ => rfl
  | a :: r, h => by
    have h' := List.nodup_cons.mp h
    rw [dcount, if_neg h'.1, dcount_nodup r h'.2, List.length_cons]
theorem dcount_le : ∀ ns : List Int, dcount ns ≤ ns.length
  | [] => Nat.le_refl _
  | a :: r => by
    have := dcount_le r
    rw [dcount, List.length_cons]; split <;> omega
theorem nodup_dcount : ∀ ns : List Int, dcount ns = ns.length → ns.Nodup
  | [], _ => List.nodup_nil
  | a :: r, h => by
    have hl := dcount_le r
    rw [dcount, List.length_cons] at h
    by_cases ha : a ∈ r
    · rw [if_pos ha] at h; omega
    · rw [if_neg ha] at h
      exact List.nodup_cons.mpr ⟨ha, nodup_dcount r (by omega)⟩
def tLenSetT (K : PySem.W.Frag) (ta : TE) : TE := fun σ H Q => ta σ H fun x H1 => ∃ (l : Addr) (ns : List Int), x = .ref l ∧ SqT K H1 l (ns.map V.int) ∧ ns.length ≤ 1000 ∧ Q (.int (dcount ns : Nat)) H1
theorem pe_lenSetT {X : Cx} {a : Expr} {ta : TE} {p p2 q pos : Pos} (hg : Gl X "len") (hm : X.mg "len" = none) (hg2 : Gl X "set") (hm2 : X.mg "set" = none) (ha : PE X a ta) (hc : X.calm = true := by rfl)
    (na : starEach [a] X.env = (false, eval a X.env) :: starEach [] X.env := by rfl) : PE X (.Call (.Name "len" p) [.Call (.Name "set" p2) [a] [] q] [] pos) (tLenSetT X.K ta) := by
  refine ⟨fun pins s σ H Q I h => ?_⟩
  refine Call_ (ld_blt I hg hm boot_len ?_)
  refine PyProof.Rows.callWith_builtin1 (PyProof.Rows.args_cons ?_ rfl) rfl rfl
  refine Call_ (ld_blt I hg2 hm2 boot_set ?_)
  refine PyProof.Rows.callWith_type1 (PyProof.Rows.args_cons (thn (ha.run pins s σ H _ I h) fun v s1 ⟨x, H1, I1, r1, q1⟩ => PyProof.Rows.args_nil ?_) na) na rfl
  obtain ⟨l, ns, rfl, hq, hl, q1⟩ := q1
  cases r1
  obtain ⟨its, rv, pt, hz⟩ := I1.tuple hq
  have hi : PyProof.Rows.IntsAre its.toArray.toList ns := ints_of_vals rv
  refine call_set_tupI ns (I1.ok.hd hc) (show s1.heap.IsTuple l its.toArray from pt) hi (by unfold scanBound; omega) fun h' tk c R1 hcn k => ?_
  obtain ⟨o, es, ep, t, ho, hex, hdt, g, nd, hm2, hb, hf, hn, hr, hl2⟩ := R1
  refine PyProof.Rows.args_nil ?_
  have I2 : Inv X pins σ H1 { s1 with heap := h', toks := tk } := I1.kept fun b o e => k b o e
  have hsz : es.size = dcount ns := by
    have := dcount_of ns (es.toList.map keyOf) nd fun k => (hm2 k).symm.trans (by simp)
    rwa [List.length_map, Array.length_toList] at this
  exact call_len_set ho hex hdt hf (by unfold scanBound at hb; omega) ⟨.int (dcount ns : Nat), H1, I2.tok _, ⟨_, by rw [hsz]⟩, q1⟩
/-- len(set(e)) of a tuple of ints -/
def dLenSet (f : XD) : XD := fun ρ m => (f ρ m).bind fun u m1 => match u with
  | .tup us => match nums us with
    | some ns => if ns.length ≤ 1000 then .ok (.int (dcount ns : Nat)) m1 else .bad
    | none => .bad
  | _ => .bad
theorem nums_u : ∀ {us : List U} {ns : List Int}, nums us = some ns → us = ns.map U.int
  | [], _, h => by cases h; rfl
  | u :: us, ns, h => by
    cases u with
    | int i =>
      simp only [nums] at h
      cases e : nums us with
      | none => rw [e] at h; cases h
      | some ms => rw [e] at h; cases h; rw [nums_u e]; rfl
    | _ => cases h
section
variable {X : Cx} {c : Nat → Addr} {W : WX} {f : XD}
theorem se_lenSet {st : Expr} (h : PE X st (tLenSetT X.K (rdE (wX X c) W f))) : SE X c W st (dLenSet f) :=
  h.imp fun σ H Q ⟨ρ, m, μ, E, M, p⟩ => ⟨ρ, m, μ, E, M, p.bind.imp fun μ1 H1 m1 u s1 M1 p1 v r => by
    cases u with
    | tup us =>
      simp only at p1
      cases e : nums us with
      | none => rw [e] at p1; exact False.elim p1
      | some ns =>
        rw [e] at p1
        simp only at p1
        split at p1
        · rename_i hl
          have hu := nums_u e
          subst hu
          cases r with
          | tup hs t =>
            rw [t.vints] at hs
            exact ⟨_, ns, rfl, hs, hl, p1 μ1 H1 .refl M1 _ (.int _)⟩
        · exact False.elim p1
    | _ => exact False.elim p1⟩
/-! ### list(range(n)), list(range(a, b)) -/
def oLstRg (a b : Int) (m : Mem) : O U := if -(2 ^ 62) ≤ a ∧ a < 2 ^ 62 ∧ -(2 ^ 62) ≤ b ∧ b < 2 ^ 62 ∧ (b - a).toNat ≤ 2 ^ 24 then some (.ref m.length, m ++ [.lst (runI a (b - a).toNat)]) else none
def oTupRg (a b : Int) (m : Mem) : O U := if -(2 ^ 62) ≤ a ∧ a < 2 ^ 62 ∧ -(2 ^ 62) ≤ b ∧ b < 2 ^ 62 ∧ (b - a).toNat ≤ 2 ^ 24 then some (.tup (runI a (b - a).toNat), m) else none
theorem RUs_rg {K : PySem.W.Frag} {H : Hp} {μ : List Addr} : ∀ (n : Nat) (a : Int), RUs K H μ (runI a n) ((List.range n).map fun i : Nat => V.int (a + (i : Nat)))
  | 0, a => .nil
  | n + 1, a => by
    rw [List.range_succ_eq_map, List.map_cons, List.map_map]
    refine .cons ?_ ?_
    · have : a + ((0 : Nat) : Int) = a := by omega
      rw [this]; exact .int a
    · have ih := RUs_rg (K := K) (H := H) (μ := μ) n (a + 1)
      have e : ((fun i : Nat => V.int (a + (i : Nat))) ∘ Nat.succ) = fun i : Nat => V.int (a + 1 + (i : Nat)) := by
        funext i
        show V.int _ = V.int _
        congr 1
        show a + ((i + 1 : Nat) : Int) = _
        omega
      rw [e]; exact ih
def dLstRg (f : XD) : XD := fun ρ m => (f ρ m).bind fun u m1 => match u with
  | .int n => ofO (oLstRg 0 n m1)
  | _ => .bad
theorem se_lstRg {st : Expr} (h : PE X st (tLstRg (tRg1 (rdE (wX X c) W f)))) : SE X c W st (dLstRg f) :=
  h.imp fun σ H Q ⟨ρ, m, μ, E, M, p⟩ => ⟨ρ, m, μ, E, M, p.bind.imp fun μ1 H1 m1 u s1 M1 p1 v r => by
    cases u with
    | int n =>
      cases r
      refine ⟨n, rfl, ?_⟩
      simp only at p1
      unfold oLstRg at p1
      split at p1
      · rename_i hz
        refine ⟨hz, fun q hq => ?_⟩
        exact PostO.lst p1.o M1 (RUs_rg (n - 0).toNat 0) hq
      · exact False.elim p1
    | _ => exact False.elim p1⟩
end
theorem u65 {k : Nat} {A : Around} (hr : Room k A) : A.units + 65 < cLine := by have := hr.un; omega
end Ev

set_option Elab.async false
set_option linter.all false
set_option maxHeartbeats 2000000
/-! Polys over the cells 0 to 996, by their values. -/
namespace PM
/-- equal modulo 997 -/
def Cg (a b : Int) : Prop := ∃ k : Int, a = b + 997 * k
theorem Cg.rfl' (a : Int) : Cg a a := ⟨0, by omega⟩
theorem Cg.symm {a b : Int} (h : Cg a b) : Cg b a := by obtain ⟨k, h⟩ := h; exact ⟨-k, by omega⟩
theorem Cg.trans {a b c : Int} (h : Cg a b) (h2 : Cg b c) : Cg a c := by
  obtain ⟨k, h⟩ := h; obtain ⟨l, h2⟩ := h2; exact ⟨k + l, by omega⟩
theorem Cg.of {a b : Int} (h : a = b) : Cg a b := ⟨0, by omega⟩
theorem Cg.add {a b c d : Int} (h : Cg a b) (h2 : Cg c d) : Cg (a + c) (b + d) := by
  obtain ⟨k, h⟩ := h; obtain ⟨l, h2⟩ := h2; exact ⟨k + l, by omega⟩
theorem Cg.sub {a b c d : Int} (h : Cg a b) (h2 : Cg c d) : Cg (a - c) (b - d) := by
  obtain ⟨k, h⟩ := h; obtain ⟨l, h2⟩ := h2; exact ⟨k - l, by omega⟩
theorem Cg.mul {a b c d : Int} (h : Cg a b) (h2 : Cg c d) : Cg (a * c) (b * d) := by
  obtain ⟨k, h⟩ := h; obtain ⟨l, h2⟩ := h2; exact ⟨k * d + b * l + 997 * k * l, by grind⟩
theorem Cg.mod (a : Int) : Cg (a % 997) a := ⟨-(a / 997), by omega⟩
theorem Cg.iff {a b : Int} : Cg a b ↔ a % 997 = b % 997 := ⟨fun ⟨k, h⟩ => by omega, fun h => ⟨a / 997 - b / 997, by omega⟩⟩
theorem Cg.eq {a b : Int} (h : Cg a b) (h1 : 0 ≤ a) (h2 : a < 997) (h3 : 0 ≤ b) (h4 : b < 997) : a = b := by
  obtain ⟨k, h⟩ := h; omega
instance (a b : Int) : Decidable (Cg a b) := decidable_of_iff _ Cg.iff.symm
/-- the inverse of a cell -/
def inv (c : Int) : Int := c ^ 995 % 997
theorem inv_all : ∀ c : Nat, c < 997 → c ≠ 0 → (c ^ 995 % 997) * c % 997 = 1 := by decide +kernel
theorem inv_mul {c : Int} (h : ¬ Cg c 0) : Cg (inv c * c) 1 := by
  have h0 : c % 997 ≠ 0 := fun z => h (Cg.iff.mpr (by simpa using z))
  have hc : Cg c (c % 997) := (Cg.mod c).symm
  have hp : ∀ n : Nat, Cg (c ^ n) ((c % 997) ^ n) := fun n => by
    induction n with
    | zero => exact Cg.of (by rw [Int.pow_zero, Int.pow_zero])
    | succ n ih => rw [Int.pow_succ, Int.pow_succ]; exact ih.mul hc
  have e : Cg (inv c * c) ((c % 997) ^ 995 % 997 * (c % 997)) := (((Cg.mod _).trans (hp 995)).trans (Cg.mod _).symm).mul hc
  refine e.trans ?_
  have hn : c % 997 = ((c % 997).toNat : Int) := by omega
  have := inv_all (c % 997).toNat (by omega) (by omega)
  rw [hn]
  refine Cg.iff.mpr ?_
  have h3 : (((((c % 997).toNat : Int)) ^ 995 % 997 * ((c % 997).toNat : Int)) % 997 : Int) = ((((c % 997).toNat ^ 995 % 997) * (c % 997).toNat % 997 : Nat) : Int) := by
    rw [Int.natCast_emod, Int.natCast_mul, Int.natCast_emod, Int.natCast_pow]; rfl
  rw [h3, this]
  rfl
theorem no_zero {a b : Int} (h : Cg (a * b) 0) (ha : ¬ Cg a 0) : Cg b 0 := by
  have h1 := inv_mul ha
  have h2 : Cg (inv a * (a * b)) (inv a * 0) := (Cg.rfl' _).mul h
  rw [Int.mul_zero] at h2
  have h3 : Cg (inv a * a * b) (1 * b) := h1.mul (Cg.rfl' b)
  rw [Int.one_mul, Int.mul_assoc] at h3
  exact h3.symm.trans h2
theorem pos_of {α : Type} {l : List α} (h : l ≠ []) : 0 < l.length := Nat.pos_of_ne_zero fun z => h (List.length_eq_zero_iff.mp z)
/-- the value at x -/
def E (x : Int) : List Int → Int
  | [] => 0
  | c :: r => c + x * E x r
theorem E_append (x : Int) (a b : List Int) : E x (a ++ b) = E x a + x ^ a.length * E x b := by
  induction a with
  | nil => simp [E]
  | cons c r ih => simp only [List.cons_append, E, ih, List.length_cons, Int.pow_succ]; grind
theorem E_zeros (x : Int) (n : Nat) : E x (List.replicate n 0) = 0 := by
  induction n with
  | zero => rfl
  | succ n ih => simp [List.replicate_succ, E, ih]
theorem E_mul (x f : Int) (l : List Int) : E x (l.map (f * ·)) = f * E x l := by
  induction l with
  | nil => simp [E]
  | cons c r ih => simp only [List.map_cons, E, ih]; grind
theorem E_mod (x : Int) (l : List Int) : Cg (E x (l.map (· % 997))) (E x l) := by
  induction l with
  | nil => exact Cg.rfl' _
  | cons c r ih => simp only [List.map_cons, E]; exact (Cg.mod c).add ((Cg.rfl' x).mul ih)
theorem E_set (x v : Int) : ∀ (l : List Int) (i : Nat) (h : i < l.length), E x (l.set i v) = E x l + (v - l[i]) * x ^ i
  | [], i, h => by simp at h
  | c :: r, 0, h => by simp only [List.set_cons_zero, E, List.getElem_cons_zero, Int.pow_zero]; grind
  | c :: r, i + 1, h => by
    simp only [List.set_cons_succ, E, List.getElem_cons_succ, Int.pow_succ]
    rw [E_set x v r i (by simpa using h)]; grind
/-- without the zeros at the end -/
def trimL : List Int → List Int
  | [] => []
  | a :: r => if trimL r = [] ∧ a = 0 then [] else a :: trimL r
theorem trim_zero (l : List Int) : trimL (l ++ [0]) = trimL l := by
  induction l with
  | nil => simp [trimL]
  | cons a r ih => simp only [List.cons_append, trimL, ih]
theorem trim_end (l : List Int) {a : Int} (h : a ≠ 0) : trimL (l ++ [a]) = l ++ [a] := by
  induction l with
  | nil => simp [trimL, h]
  | cons b r ih => simp [List.cons_append, trimL, ih]
theorem E_trim (x : Int) (l : List Int) : E x (trimL l) = E x l := by
  induction l with
  | nil => rfl
  | cons a r ih =>
    simp only [trimL]
    split
    · rename_i h
      rw [h.1] at ih
      simp only [E] at ih ⊢
      rw [← ih, h.2]; simp
    · simp only [E, ih]
theorem trim_len (l : List Int) : (trimL l).length ≤ l.length := by
  induction l with
  | nil => simp [trimL]
  | cons a r ih => simp only [trimL]; split <;> simp <;> omega
theorem trim_mem {l : List Int} {c : Int} (h : c ∈ trimL l) : c ∈ l := by
  induction l with
  | nil => simp [trimL] at h
  | cons a r ih =>
    simp only [trimL] at h
    split at h
    · simp at h
    · rcases List.mem_cons.mp h with h | h
      · exact h ▸ List.mem_cons_self ..
      · exact List.mem_cons_of_mem _ (ih h)
theorem trim_last (l : List Int) : (trimL l).getLast? ≠ some 0 := by
  induction l with
  | nil => simp [trimL]
  | cons a r ih =>
    simp only [trimL]
    split
    · simp
    · rename_i h
      cases e : trimL r with
      | nil => rw [e] at h; simp at h ⊢; exact h
      | cons b s => rw [e] at ih; rw [List.getLast?_cons_cons]; exact ih
theorem trim_tail {l : List Int} {k : Nat} (h : ∀ i, k ≤ i → l.getD i 0 = 0) : (trimL l).length ≤ k := by
  induction l generalizing k with
  | nil => simp [trimL]
  | cons a r ih =>
    cases k with
    | zero =>
      have h1 := ih (k := 0) fun i hi => by have := h (i + 1) (by omega); simpa using this
      have h0 : a = 0 := by have := h 0 (by omega); simpa using this
      have : trimL r = [] := List.length_eq_zero_iff.mp (by omega)
      simp [trimL, this, h0]
    | succ k =>
      have h1 := ih (k := k) fun i hi => by have := h (i + 1) (by omega); simpa using this
      simp only [trimL]
      split <;> simp <;> omega
/-- a tuple that is a poly -/
def okP (l : List Int) : Prop := (∀ c ∈ l, 0 ≤ c ∧ c ≤ 996) ∧ l.getLast? ≠ some 0
theorem trim_ok {l : List Int} (h : ∀ c ∈ l, 0 ≤ c ∧ c ≤ 996) : okP (trimL l) := ⟨fun c hc => h c (trim_mem hc), trim_last l⟩
theorem mod_ok (l : List Int) : ∀ c ∈ l.map (· % 997), 0 ≤ c ∧ c ≤ 996 := fun c hc => by
  obtain ⟨d, _, rfl⟩ := List.mem_map.mp hc
  omega
/-! ### roots -/
def Q (r : Int) : List Int → List Int
  | [] => []
  | c :: s => E r (c :: s) :: Q r s
theorem Q_len (r : Int) : ∀ l, (Q r l).length = l.length
  | [] => rfl
  | c :: s => by simp [Q, Q_len r s]
theorem E_Q (x r : Int) : ∀ (c : Int) (l : List Int), E x (c :: l) - E r (c :: l) = (x - r) * E x (Q r l)
  | c, [] => by simp [E, Q]
  | c, d :: s => by
    have h := E_Q x r d s
    have h1 : E x (c :: d :: s) = c + x * E x (d :: s) := rfl
    have h2 : E r (c :: d :: s) = c + r * E r (d :: s) := rfl
    have h3 : E x (Q r (d :: s)) = E r (d :: s) + x * E x (Q r s) := rfl
    rw [h1, h2, h3]; grind
theorem Q_zero (r : Int) : ∀ l : List Int, (∀ c ∈ Q r l, Cg c 0) → ∀ c ∈ l, Cg c 0
  | [], _ => fun c hc => by cases hc
  | c :: s, h => by
    have h1 : Cg (E r (c :: s)) 0 := h _ (List.mem_cons_self ..)
    have h2 := Q_zero r s fun c hc => h c (List.mem_cons_of_mem _ hc)
    have h3 : Cg (E r s) 0 := by
      cases s with
      | nil => exact Cg.rfl' _
      | cons d s => exact h _ (List.mem_cons_of_mem _ (List.mem_cons_self ..))
    intro d hd
    rcases List.mem_cons.mp hd with e | hd
    · subst e
      have : d = E r (d :: s) - r * E r s := by simp only [E]; omega
      rw [this]
      have := h1.sub ((Cg.rfl' r).mul h3)
      simpa using this
    · exact h2 d hd
theorem roots : ∀ (l zs : List Int), l.length ≤ zs.length → zs.Nodup → (∀ z ∈ zs, 0 ≤ z ∧ z < 997 ∧ Cg (E z l) 0) → ∀ c ∈ l, Cg c 0
  | [], _, _, _, _ => fun c hc => by cases hc
  | c :: l, [], h, _, _ => by simp at h
  | c :: l, r :: zs, h, hn, hz => by
    have hn' := List.nodup_cons.mp hn
    have h0 := hz r (List.mem_cons_self ..)
    have hq : ∀ c ∈ Q r l, Cg c 0 := roots (Q r l) zs (by rw [Q_len]; simpa using h) hn'.2 fun z hzm => by
      have h1 := hz z (List.mem_cons_of_mem _ hzm)
      refine ⟨h1.1, h1.2.1, no_zero (a := z - r) ?_ fun hc => ?_⟩
      · rw [← E_Q]
        have := h1.2.2.sub h0.2.2
        simpa using this
      · obtain ⟨k, hk⟩ := hc
        have : z = r := by omega
        exact hn'.1 (this ▸ hzm)
    have hl := Q_zero r l hq
    intro d hd
    rcases List.mem_cons.mp hd with e | hd
    · subst e
      have hE : Cg (E r l) 0 := by
        cases l with
        | nil => exact Cg.rfl' _
        | cons d s => exact hq _ (List.mem_cons_self ..)
      have : d = E r (d :: l) - r * E r l := by simp only [E]; omega
      rw [this]
      have := h0.2.2.sub ((Cg.rfl' r).mul hE)
      simpa using this
    · exact hl d hd
termination_by l => l.length
decreasing_by simp [Q_len]
/-! ### sums, products as lists -/
def addL (f : Int) : List Int → List Int → List Int
  | [], b => b.map (f * ·)
  | a, [] => a
  | x :: a, y :: b => (x + f * y) :: addL f a b
theorem addL_len (f : Int) : ∀ a b : List Int, (addL f a b).length = max a.length b.length
  | [], b => by simp [addL]
  | x :: a, [] => by simp [addL]
  | x :: a, y :: b => by simp only [addL, List.length_cons, addL_len f a b]; omega
theorem addL_E (x f : Int) : ∀ a b : List Int, E x (addL f a b) = E x a + f * E x b
  | [], b => by simp [addL, E_mul, E]
  | y :: a, [] => by simp [addL, E]
  | y :: a, z :: b => by simp only [addL, E, addL_E x f a b]; grind
theorem addL_get (f : Int) : ∀ (a b : List Int) (i : Nat), (addL f a b).getD i 0 = a.getD i 0 + f * b.getD i 0
  | [], b, i => by
    simp only [addL, List.getD_eq_getElem?_getD, List.getElem?_map, List.getElem?_nil]
    cases b[i]? <;> simp
  | y :: a, [], i => by simp [addL]
  | y :: a, z :: b, 0 => by simp [addL]
  | y :: a, z :: b, i + 1 => by
    have := addL_get f a b i
    simpa [addL] using this
def mulL : List Int → List Int → List Int
  | [], _ => []
  | x :: a, b => addL 1 (b.map (x * ·)) (0 :: mulL a b)
theorem mulL_E (x : Int) : ∀ a b : List Int, E x (mulL a b) = E x a * E x b
  | [], b => by simp [mulL, E]
  | y :: a, b => by simp only [mulL, addL_E, E_mul, E, mulL_E x a b]; grind
theorem mulL_len : ∀ a b : List Int, (mulL a b).length ≤ a.length + b.length
  | [], b => by simp [mulL]
  | y :: a, b => by
    have := mulL_len a b
    simp only [mulL, addL_len, List.length_map, List.length_cons]; omega
theorem mulL_top : ∀ (a b : List Int), a ≠ [] → b ≠ [] → (mulL a b).getD (a.length - 1 + (b.length - 1)) 0 = a.getD (a.length - 1) 0 * b.getD (b.length - 1) 0
  | [], b, h, _ => absurd rfl h
  | [y], b, _, hb => by
    have hl : 0 < b.length := pos_of hb
    rw [mulL, addL_get]
    simp only [List.length_cons, List.length_nil]
    rw [show 0 + 1 - 1 + (b.length - 1) = b.length - 1 by omega]
    have h1 : (b.map (y * ·)).getD (b.length - 1) 0 = y * b.getD (b.length - 1) 0 := by
      rw [List.getD_eq_getElem?_getD, List.getD_eq_getElem?_getD, List.getElem?_map, List.getElem?_eq_getElem (by omega)]; rfl
    have h3 : (0 :: mulL [] b : List Int).getD (b.length - 1) 0 = 0 := by
      cases e : b.length - 1 <;> simp [mulL]
    rw [h1, h3]; simp
  | y :: z :: a, b, _, hb => by
    have hl : 0 < b.length := pos_of hb
    have ih := mulL_top (z :: a) b (by simp) hb
    simp only [List.length_cons] at ih ⊢
    rw [mulL, addL_get]
    have h1 : (b.map (y * ·)).getD (a.length + 1 + 1 - 1 + (b.length - 1)) 0 = 0 := by
      rw [List.getD_eq_getElem?_getD, List.getElem?_eq_none (by simp; omega)]; rfl
    rw [h1]
    rw [show a.length + 1 + 1 - 1 + (b.length - 1) = (a.length + 1 - 1 + (b.length - 1)) + 1 by omega]
    rw [List.getD_cons_succ, ih]
    rw [show a.length + 1 + 1 - 1 = (a.length + 1 - 1) + 1 by omega, List.getD_cons_succ]
    simp
/-! ### by their values -/
/-- 0 to 996 -/
def all997 : List Int := (List.range 997).map fun n : Nat => (n : Int)
theorem all_len : all997.length = 997 := by simp [all997]
theorem all_nodup : all997.Nodup := by
  rw [all997, List.nodup_iff_pairwise_ne, List.pairwise_map]
  exact List.nodup_range.imp fun h => by omega
theorem all_mem {z : Int} (h : z ∈ all997) : 0 ≤ z ∧ z < 997 := by
  obtain ⟨n, hn, rfl⟩ := List.mem_map.mp h
  have := List.mem_range.mp hn
  omega
theorem zero_of {l : List Int} (hl : l.length ≤ 997) (h : ∀ x, Cg (E x l) 0) (i : Nat) : Cg (l.getD i 0) 0 := by
  by_cases hi : i < l.length
  · have := roots l all997 (by rw [all_len]; exact hl) all_nodup (fun z hz => ⟨(all_mem hz).1, (all_mem hz).2, h z⟩) l[i] (List.getElem_mem hi)
    rw [List.getD_eq_getElem?_getD, List.getElem?_eq_getElem hi]; exact this
  · rw [List.getD_eq_getElem?_getD, List.getElem?_eq_none (by omega)]; exact Cg.rfl' _
theorem okP.last {l : List Int} (h : okP l) (hn : l ≠ []) : l.getD (l.length - 1) 0 ≠ 0 ∧ ¬ Cg (l.getD (l.length - 1) 0) 0 := by
  have hl : 0 < l.length := pos_of hn
  have e : l.getLast? = some (l.getD (l.length - 1) 0) := by
    rw [List.getLast?_eq_getElem?, List.getD_eq_getElem?_getD, List.getElem?_eq_getElem (by omega)]; rfl
  have h0 : l.getD (l.length - 1) 0 ≠ 0 := fun z => h.2 (by rw [e, z])
  refine ⟨h0, fun hc => h0 ?_⟩
  have hm : l.getD (l.length - 1) 0 ∈ l := by
    rw [List.getD_eq_getElem?_getD, List.getElem?_eq_getElem (by omega)]; exact List.getElem_mem _
  have := h.1 _ hm
  exact hc.eq this.1 (by omega) (by omega) (by omega)
theorem okP.get {l : List Int} (h : okP l) (i : Nat) : 0 ≤ l.getD i 0 ∧ l.getD i 0 < 997 := by
  by_cases hi : i < l.length
  · rw [List.getD_eq_getElem?_getD, List.getElem?_eq_getElem hi]
    have := h.1 _ (List.getElem_mem hi)
    exact ⟨this.1, by have := this.2; show l[i] < 997; omega⟩
  · rw [List.getD_eq_getElem?_getD, List.getElem?_eq_none (by omega)]; simp
/-- a poly is told by its values -/
theorem eq_of {a b : List Int} (ha : okP a) (hb : okP b) (la : a.length ≤ 997) (lb : b.length ≤ 997) (h : ∀ x, Cg (E x a) (E x b)) : a = b := by
  have hd : ∀ i, a.getD i 0 = b.getD i 0 := fun i => by
    have h1 := zero_of (l := addL (-1) a b) (by rw [addL_len]; omega) (fun x => by
      rw [addL_E]
      have := (h x).sub (Cg.rfl' (E x b))
      rw [Int.sub_self] at this
      have e : E x a + -1 * E x b = E x a - E x b := by omega
      rw [e]; exact this) i
    rw [addL_get] at h1
    obtain ⟨k, hk⟩ := h1
    have h2 := ha.get i
    have h3 := hb.get i
    omega
  have hlen : a.length = b.length := by
    rcases Nat.lt_trichotomy a.length b.length with h | h | h
    · have hn : b ≠ [] := fun z => by rw [z] at h; simp at h
      refine absurd ?_ (hb.last hn).1
      rw [← hd, List.getD_eq_getElem?_getD, List.getElem?_eq_none (by omega)]; rfl
    · exact h
    · have hn : a ≠ [] := fun z => by rw [z] at h; simp at h
      refine absurd ?_ (ha.last hn).1
      rw [hd, List.getD_eq_getElem?_getD, List.getElem?_eq_none (by omega)]; rfl
  refine List.ext_getElem hlen fun i h1 h2 => ?_
  have := hd i
  rwa [List.getD_eq_getElem?_getD, List.getD_eq_getElem?_getD, List.getElem?_eq_getElem h1, List.getElem?_eq_getElem h2] at this
/-- what times a poly is of a lower degree is 0 -/
theorem low {d b r : List Int} (hb : okP b) (hn : b ≠ []) (hr : r.length < b.length) (ld : d.length + b.length ≤ 997) (h : ∀ x, Cg (E x d * E x b) (E x r)) (hd : ∀ c ∈ d, Cg c 0 → c = 0) : ∀ c ∈ d, c = 0 := by
  have key : trimL d = [] := by
    refine Classical.byContradiction fun hne => ?_
    have hlen := trim_len d
    have h1 := zero_of (l := addL (-1) (mulL (trimL d) b) r) (by rw [addL_len]; have := mulL_len (trimL d) b; omega) (fun x => by
      rw [addL_E, mulL_E, E_trim]
      have := (h x).sub (Cg.rfl' (E x r))
      rw [Int.sub_self] at this
      have e : E x d * E x b + -1 * E x r = E x d * E x b - E x r := by omega
      rw [e]; exact this) ((trimL d).length - 1 + (b.length - 1))
    rw [addL_get, mulL_top _ _ hne hn] at h1
    have h2 : r.getD ((trimL d).length - 1 + (b.length - 1)) 0 = 0 := by
      rw [List.getD_eq_getElem?_getD, List.getElem?_eq_none (by omega)]; rfl
    rw [h2] at h1
    simp only [Int.mul_zero, Int.add_zero] at h1
    have hl : 0 < (trimL d).length := pos_of hne
    have hm : (trimL d).getD ((trimL d).length - 1) 0 ∈ trimL d := by
      rw [List.getD_eq_getElem?_getD, List.getElem?_eq_getElem (by omega)]; exact List.getElem_mem _
    have hlast : (trimL d).getLast? = some ((trimL d).getD ((trimL d).length - 1) 0) := by
      rw [List.getLast?_eq_getElem?, List.getD_eq_getElem?_getD, List.getElem?_eq_getElem (by omega)]; rfl
    have h0 : ¬ Cg ((trimL d).getD ((trimL d).length - 1) 0) 0 := fun z => by
      have := hd _ (trim_mem hm) z
      rw [this] at hlast
      exact trim_last d hlast
    exact (hb.last hn).2 (no_zero h1 h0)
  clear h hd ld
  induction d with
  | nil => intro c hc; cases hc
  | cons a s ih =>
    simp only [trimL] at key
    split at key
    · rename_i hz
      intro c hc
      rcases List.mem_cons.mp hc with e | hc
      · rw [e]; exact hz.2
      · exact ih hz.1 c hc
    · cases key
/-- a quotient and a rest are the only ones -/
theorem div_unique {b q q' r r' : List Int} (hb : okP b) (hn : b ≠ []) (hq : okP q) (hq' : okP q') (hr : okP r) (hr' : okP r') (lr : r.length < b.length) (lr' : r'.length < b.length) (l1 : q.length + b.length ≤ 900) (l2 : q'.length + b.length ≤ 900) (h : ∀ x, Cg (E x q * E x b + E x r) (E x q' * E x b + E x r')) : q = q' ∧ r = r' := by
  have hd : ∀ c ∈ addL (-1) q q', Cg c 0 → c = 0 := fun c hc hz => by
    obtain ⟨i, hi, rfl⟩ := List.mem_iff_getElem.mp hc
    have e := addL_get (-1) q q' i
    rw [List.getD_eq_getElem?_getD, List.getElem?_eq_getElem hi] at e
    have e' : (addL (-1) q q')[i] = q.getD i 0 + -1 * q'.getD i 0 := e
    rw [e'] at hz ⊢
    obtain ⟨k, hk⟩ := hz
    have h2 := hq.get i
    have h3 := hq'.get i
    omega
  have hz := low (d := addL (-1) q q') (b := b) (r := addL (-1) r' r) hb hn (by rw [addL_len]; omega) (by rw [addL_len]; omega) (fun x => by
    rw [addL_E, addL_E]
    obtain ⟨k, hk⟩ := h x
    exact ⟨k, by grind⟩) hd
  have hqq : q = q' := eq_of hq hq' (by omega) (by omega) fun x => by
    have hE : ∀ l : List Int, (∀ c ∈ l, c = 0) → E x l = 0 := fun l => by
      induction l with
      | nil => intro _; rfl
      | cons a s ih => intro hh; simp only [E]; rw [hh a (List.mem_cons_self ..), ih fun c hc => hh c (List.mem_cons_of_mem _ hc)]; simp
    have := hE _ hz
    rw [addL_E] at this
    exact Cg.of (by omega)
  refine ⟨hqq, eq_of hr hr' (by omega) (by omega) fun x => ?_⟩
  subst hqq
  obtain ⟨k, hk⟩ := h x
  exact ⟨k, by omega⟩
/-- a poly is 0 at fewer cells than it has -/
theorem few_zeros {l zs : List Int} (h : okP l) (hn : l ≠ []) (hz : zs.Nodup) (hr : ∀ z ∈ zs, 0 ≤ z ∧ z < 997 ∧ Cg (E z l) 0) : zs.length < l.length := by
  refine Nat.lt_of_not_le fun hle => ?_
  have hl : 0 < l.length := pos_of hn
  refine (h.last hn).2 (roots l zs hle hz hr _ ?_)
  rw [List.getD_eq_getElem?_getD, List.getElem?_eq_getElem (by omega)]; exact List.getElem_mem _
end PM

set_option Elab.async false
set_option linter.all false
set_option maxRecDepth 100000
set_option maxHeartbeats 2000000
/-! Ev: a law's functions reckoned with, by rewriting. -/
namespace Ev
open PySem PySem.Spec L2

/-! ### memory -/
theorem mem_last (m : Mem) (c : Cell) : (m ++ [c])[m.length]? = some c := by simp
theorem mem_setl (m : Mem) (c d : Cell) : (m ++ [c]).set m.length d = m ++ [d] := by simp
theorem mem_old {m : Mem} {t : Mem} {n : Nat} {c : Cell} (h : m[n]? = some c) : (m ++ t)[n]? = some c := by
  rw [List.getElem?_append_left (List.getElem?_eq_some_iff.mp h).1]; exact h
theorem mulOk_l {i j : Int} (h : -18446744073709551616 < i) (h2 : i < 18446744073709551616) : mulOk i j = true := by
  unfold mulOk
  simp only [Bool.or_eq_true, decide_eq_true_eq]
  left; left; omega
theorem mulOk_r {i j : Int} (h : -18446744073709551616 < j) (h2 : j < 18446744073709551616) : mulOk i j = true := by
  unfold mulOk
  simp only [Bool.or_eq_true, decide_eq_true_eq]
  left; right; omega
theorem log2_lt {n k : Nat} (h : n < 2 ^ k) (hk : 0 < k) : n.log2 < k := by
  by_cases h0 : n = 0
  · subst h0; simpa using hk
  · exact (Nat.log2_lt h0).mpr h
abbrev tI (l : List Int) : U := .tup (l.map .int)
abbrev cI (l : List Int) : Cell := .lst (l.map .int)

/-! ### the rules -/
theorem runB_e {l n : Nat} {b : SD} {us : List U} {m : Mem} (h : us.length = n) : runB l n b us m = finS (b (us.map some ++ List.replicate (l - us.length) none) m) := if_pos h
theorem evB :
    (∀ {α β : Type} (a : α) (m : Mem) (k : α → Mem → R β), (R.ok a m).bind k = k a m) ∧
    (∀ {α β : Type} (x : Ex) (m : Mem) (k : α → Mem → R β), (R.err x m : R α).bind k = .err x m) ∧
    (∀ {α : Type} (a : α) (m : Mem) ρ k, thenE (R.ok a m) ρ k = k a m) ∧
    (∀ {α : Type} x (m : Mem) ρ k, thenE (R.err x m : R α) ρ k = .err x ρ m) ∧
    (∀ {α : Type} (a : α) (m : Mem) k, thenO (some (a, m) : O α) k = k a m) ∧
    (∀ ρ m k, thenS (.ok .nx ρ m) k = k ρ m) ∧
    (∀ u ρ m k, thenS (.ok (.rt u) ρ m) k = .ok (.rt u) ρ m) ∧
    (∀ x ρ m k, thenS (.err x ρ m) k = .err x ρ m) ∧
    (∀ ρ m k, thenS (.ok .bk ρ m) k = .ok .bk ρ m) ∧
    (∀ ρ m k, thenS (.ok .ct ρ m) k = .ok .ct ρ m) ∧
    (∀ ρ m k, loopS (.ok .nx ρ m) k = k ρ m) ∧
    (∀ ρ m k, loopS (.ok .ct ρ m) k = k ρ m) ∧
    (∀ ρ m k, loopS (.ok .bk ρ m) k = .ok .nx ρ m) ∧
    (∀ u ρ m k, loopS (.ok (.rt u) ρ m) k = .ok (.rt u) ρ m) ∧
    (∀ x ρ m k, loopS (.err x ρ m) k = .err x ρ m) ∧
    (∀ u ρ m, finS (.ok (.rt u) ρ m) = .ok u m) ∧
    (∀ ρ m, finS (.ok .nx ρ m) = .ok .non m) ∧
    (∀ x ρ m, finS (.err x ρ m) = .err x m) ∧
    (∀ {α : Type} (a : α) (m : Mem), ofO (some (a, m)) = .ok a m) ∧
    (∀ {α : Type} (a : α) (m : Mem), ofB (some a) m = .ok a m) ∧
    (∀ {α : Type} b (k : Bool → R α), asB (.bl b) k = k b) ∧
    (∀ {α : Type} (a : α) (m : Mem), toO (.ok a m) = some (a, m)) :=
  ⟨fun _ _ _ => rfl, fun _ _ _ => rfl, fun _ _ _ _ => rfl, fun _ _ _ _ => rfl, fun _ _ _ => rfl, fun _ _ _ => rfl, fun _ _ _ _ => rfl, fun _ _ _ _ => rfl, fun _ _ _ => rfl, fun _ _ _ => rfl, fun _ _ _ => rfl, fun _ _ _ => rfl, fun _ _ _ => rfl, fun _ _ _ _ => rfl, fun _ _ _ _ => rfl, fun _ _ _ => rfl, fun _ _ => rfl, fun _ _ _ => rfl, fun _ _ => rfl, fun _ _ => rfl, fun _ _ => rfl, fun _ _ => rfl⟩
theorem dSlot_e {i : Nat} {ρ : Env} {u : U} {m : Mem} (h : ρ[i]? = some (some u)) : dSlot i ρ m = .ok u m := by unfold dSlot; rw [h]
/-- expressions -/
theorem evX :
    (∀ u ρ m, dC u ρ m = .ok u m) ∧
    (∀ F fa fb ρ m, dOp F fa fb ρ m = (fa ρ m).bind fun u m1 => (fb ρ m1).bind fun v m2 => ofO (F u v m2)) ∧
    (∀ F fa ρ m, dUn F fa ρ m = (fa ρ m).bind fun u m1 => ofO (F u m1)) ∧
    (∀ fa fb ρ m, dAnd fa fb ρ m = (fa ρ m).bind fun z m1 => asB z fun b => if b then fb ρ m1 else .ok (.bl false) m1) ∧
    (∀ fa fb ρ m, dOr fa fb ρ m = (fa ρ m).bind fun z m1 => asB z fun b => if b then .ok (.bl true) m1 else fb ρ m1) ∧
    (∀ fa ρ m, dNot fa ρ m = (fa ρ m).bind fun z m1 => asB z fun b => .ok (.bl (!b)) m1) ∧
    (∀ t fa fb ρ m, dIf t fa fb ρ m = (t ρ m).bind fun b m1 => if b then fa ρ m1 else fb ρ m1) ∧
    (∀ ρ m, lNil ρ m = .ok [] m) ∧
    (∀ fa fr ρ m, lCons fa fr ρ m = (fa ρ m).bind fun u m1 => (fr ρ m1).bind fun us m2 => .ok (u :: us) m2) ∧
    (∀ fr ρ m, dTup fr ρ m = (fr ρ m).bind fun us m1 => ofO (oTup us m1)) ∧
    (∀ fr ρ m, dLst fr ρ m = (fr ρ m).bind fun us m1 => ofO (oLst us m1)) ∧
    (∀ F fr ρ m, dCall F fr ρ m = (fr ρ m).bind fun us m1 => F us m1) ∧
    (∀ F fr ρ m, dB F fr ρ m = (fr ρ m).bind fun us m1 => ofO (F us m1)) ∧
    (∀ fa ρ m, tTru fa ρ m = (fa ρ m).bind fun z m1 => ofB (truU m1 z) m1) ∧
    (∀ fa ρ m, tBl fa ρ m = (fa ρ m).bind fun z m1 => asB z fun b => .ok b m1) ∧
    (∀ t u ρ m, tAn t u ρ m = (t ρ m).bind fun b m1 => if b then u ρ m1 else .ok false m1) ∧
    (∀ t u ρ m, tO t u ρ m = (t ρ m).bind fun b m1 => if b then .ok true m1 else u ρ m1) ∧
    (∀ t ρ m, tN t ρ m = (t ρ m).bind fun b m1 => .ok (!b) m1) ∧
    (∀ ρ m, tYesU ρ m = .ok true m) ∧
    (∀ f g t e vs ρ m, dLc f g t e vs ρ m = (f ρ m).bind fun s m1 => ofO (oList (compR g t e (wipeU ρ vs) s m1))) ∧
    (∀ T f ρ m, dIsi T f ρ m = (f ρ m).bind fun u m1 => match isTy m1 T u with | some b => .ok (.bl b) m1 | none => .bad) ∧
    (∀ T F fo fr ρ m, dM T F fo fr ρ m = (fo ρ m).bind fun o m1 => if isMT m1 T o then (fr ρ m1).bind fun us m2 => ofO (F o us m2) else .bad) ∧
    (∀ T F fo ρ m, dM0 T F fo ρ m = (fo ρ m).bind fun o m1 => if isMT m1 T o then ofO (F o [] m1) else .bad) ∧
    (∀ fa lo hi ρ m, dSlice fa lo hi ρ m = (fa ρ m).bind fun u m1 => (lo ρ m1).bind fun l m2 => (hi ρ m2).bind fun h m3 => ofO (oSlice u l h m3)) ∧
    (∀ F F' fa fb fc ρ m, dChain F F' fa fb fc ρ m = (fa ρ m).bind fun u m1 => (fb ρ m1).bind fun v m2 => (ofO (F u v m2)).bind fun z m3 => asB z fun b => if b then (fc ρ m3).bind fun t m4 => ofO (F' v t m4) else .ok (.bl false) m3) ∧
    (∀ g t e ρ us m, compR g t e ρ (.fix us) m = compL g t e ρ us m) :=
  ⟨fun _ _ _ => rfl, fun _ _ _ _ _ => rfl, fun _ _ _ _ => rfl, fun _ _ _ _ => rfl, fun _ _ _ _ => rfl, fun _ _ _ => rfl, fun _ _ _ _ _ => rfl, fun _ _ => rfl, fun _ _ _ _ => rfl, fun _ _ _ => rfl, fun _ _ _ => rfl, fun _ _ _ _ => rfl, fun _ _ _ _ => rfl, fun _ _ _ => rfl, fun _ _ _ => rfl, fun _ _ _ _ => rfl, fun _ _ _ _ => rfl, fun _ _ _ => rfl, fun _ _ => rfl, fun _ _ _ _ _ _ _ => rfl, fun _ _ _ _ => rfl, fun _ _ _ _ _ _ => rfl, fun _ _ _ _ _ => rfl, fun _ _ _ _ _ => rfl, fun F F' fa fb fc ρ m => by
    unfold dChain
    congr 1; funext u m1
    congr 1; funext v m2
    congr 1; funext z m3
    cases z with
    | bl b => cases b <;> rfl
    | _ => rfl, fun _ _ _ _ _ _ => rfl⟩
/-- statements, targets -/
theorem evS :
    (∀ ρ m, sNext ρ m = .ok .nx ρ m) ∧ (∀ ρ m, sBreak ρ m = .ok .bk ρ m) ∧ (∀ ρ m, sCont ρ m = .ok .ct ρ m) ∧
    (∀ f ρ m, sExpr f ρ m = thenE (f ρ m) ρ fun _ m1 => .ok .nx ρ m1) ∧
    (∀ f ρ m, sRet f ρ m = thenE (f ρ m) ρ fun u m1 => .ok (.rt u) ρ m1) ∧
    (∀ ρ m, sRetN ρ m = .ok (.rt .non) ρ m) ∧
    (∀ a b ρ m, sSeq a b ρ m = thenS (a ρ m) b) ∧
    (∀ t a b ρ m, sIf t a b ρ m = thenE (t ρ m) ρ fun k m1 => if k then a ρ m1 else b ρ m1) ∧
    (∀ i u ρ m, gName i u ρ m = some (ρ.set i (some u), m)) ∧
    (∀ ρ m, gNil [] ρ m = some (ρ, m)) ∧
    (∀ i gs u r ρ m, gCons (gName i) gs (u :: r) ρ m = gs r (ρ.set i (some u)) m) ∧
    (∀ n gs us ρ m, gTup n gs (.tup us) ρ m = if us.length = n then gs us ρ m else none) ∧
    (∀ S fo fi u ρ m, gSub S fo fi u ρ m = match toO (fo ρ m) with | some (o, m1) => (match toO (fi ρ m1) with | some (i, m2) => (S o i u m2).map fun x => (ρ, x.2) | none => none) | none => none) ∧
    (∀ f g ρ m, sAsg f g ρ m = thenE (f ρ m) ρ fun u m1 => thenO (g u ρ m1) fun ρ1 m2 => .ok .nx ρ1 m2) ∧
    (∀ i j f ρ m, sPar i j f ρ m = thenE (f ρ m) ρ fun us m1 => match us with | [u, v] => .ok .nx ((ρ.set i (some u)).set j (some v)) m1 | _ => .bad) ∧
    (∀ G F S fo fi fe ρ m, sAugS G F S fo fi fe ρ m = thenE (fo ρ m) ρ fun o m1 => thenE (fi ρ m1) ρ fun i m2 => thenO (G o i m2) fun x m3 => thenE (fe ρ m3) ρ fun y m4 => thenO (F x y m4) fun z m5 => thenO (S o i z m5) fun _ m6 => .ok .nx ρ m6) ∧
    (∀ f g b ρ m, sFor f g b ρ m = thenE (f ρ m) ρ fun s m1 => forR g b s ρ m1) ∧
    (∀ g b us, forR g b (.fix us) = forL g b us) ∧
    (∀ g b, forL g b [] = sNext) ∧
    (∀ g b u us ρ m, forL g b (u :: us) ρ m = thenO (g u ρ m) fun ρ1 m1 => loopS (b ρ1 m1) (forL g b us)) ∧
    (∀ t b, sWhile t b = whileN t b 1000000) ∧
    (∀ k ρ m, sRaise k ρ m = .err ⟨k, none⟩ ρ m) :=
  ⟨fun _ _ => rfl, fun _ _ => rfl, fun _ _ => rfl, fun _ _ _ => rfl, fun _ _ _ => rfl, fun _ _ => rfl, fun _ _ _ _ => rfl, fun _ _ _ _ _ => rfl, fun _ _ _ _ => rfl, fun _ _ => rfl, fun _ _ _ _ _ _ => rfl, fun _ _ _ _ _ => rfl, fun _ _ _ _ _ _ => rfl, fun _ _ _ _ => rfl, fun _ _ _ _ _ => rfl, fun _ _ _ _ _ _ _ _ => rfl, fun _ _ _ _ _ => rfl, fun _ _ _ => rfl, fun _ _ => rfl, fun _ _ _ _ _ _ => rfl, fun _ _ => rfl, fun _ _ _ => rfl⟩
/-- operations without a bound -/
theorem evO :
    (∀ i j m, oAdd (.int i) (.int j) m = some (.int (i + j), m)) ∧
    (∀ i j m, oIAdd (.int i) (.int j) m = some (.int (i + j), m)) ∧
    (∀ i j m, oSub (.int i) (.int j) m = some (.int (i - j), m)) ∧
    (∀ i m, oNeg (.int i) m = some (.int (-i), m)) ∧
    (∀ fi fs i j m, oCmp fi fs (.int i) (.int j) m = some (.bl (fi i j), m)) ∧
    (∀ us m, oLen [.tup us] m = some (.int us.length, m)) ∧
    (∀ us m, oLen [.rol us] m = some (.int us.length, m)) ∧
    (∀ i m, oInt [.int i] m = some (.int i, m)) ∧
    (∀ b m, oInt [.bl b] m = some (.int (if b then 1 else 0), m)) ∧
    (∀ i m, oAbs [.int i] m = some (.int (if i < 0 then -i else i), m)) ∧
    (∀ i j m, oMax2 [.int i, .int j] m = some (.int (if j > i then j else i), m)) ∧
    (∀ i j m, oMin2 [.int i, .int j] m = some (.int (if j < i then j else i), m)) ∧
    (∀ us m, oToTup [.tup us] m = some (.tup us, m)) ∧
    (∀ us m, oToLst [.tup us] m = some (.ref m.length, m ++ [.lst us])) ∧
    (∀ m b, truU m (.bl b) = some b) ∧
    (∀ m i, truU m (.int i) = some (i != 0)) ∧
    (∀ m us, truU m (.tup us) = some (!us.isEmpty)) ∧
    (∀ m us, srcA m (.tup us) = some (.fix us)) ∧
    (∀ m us, srcE m (.tup us) = some (.fix (enumU 0 us))) ∧
    (∀ m us, srcR m (.tup us) = some (.fix us.reverse)) ∧
    (∀ m us T, isTy m T (.tup us) = some (match T with | .tuple => true | _ => false)) ∧
    (∀ m i T, isTy m T (.int i) = some (match T with | .int => true | _ => false)) :=
  ⟨fun _ _ _ => rfl, fun _ _ _ => rfl, fun _ _ _ => rfl, fun _ _ => rfl, fun _ _ _ _ _ => rfl, fun _ _ => rfl, fun _ _ => rfl, fun _ _ => rfl, fun _ _ => rfl, fun _ _ => rfl, fun _ _ _ => rfl, fun _ _ _ => rfl, fun _ _ => rfl, fun _ _ => rfl, fun _ _ => rfl, fun _ _ => rfl, fun _ _ => rfl, fun _ _ => rfl, fun _ _ => rfl, fun _ _ => rfl, fun _ _ T => by cases T <;> rfl, fun _ _ T => by cases T <;> rfl⟩
/-- operations with a bound -/
theorem oMulG_e {i j : Int} {m : Mem} (h : mulOk i j = true) : oMulG (.int i) (.int j) m = some (.int (i * j), m) := by
  show oMul (.int i) (.int j) m = _
  unfold oMul; exact if_pos h
theorem oMulG_a {i j : Int} {m : Mem} (h : -18446744073709551616 < i) (h2 : i < 18446744073709551616) : oMulG (.int i) (.int j) m = some (.int (i * j), m) := oMulG_e (mulOk_l h h2)
theorem oMulG_b {i j : Int} {m : Mem} (h : -18446744073709551616 < j) (h2 : j < 18446744073709551616) : oMulG (.int i) (.int j) m = some (.int (i * j), m) := oMulG_e (mulOk_r h h2)
theorem oMod_e {i j : Int} {m : Mem} (h : 0 < j) : oMod (.int i) (.int j) m = some (.int (i % j), m) := if_pos h
theorem oTup_e {us : List U} {m : Mem} (h : us.length ≤ 16777216) : oTup us m = some (.tup us, m) := if_pos h
theorem oLst_e {us : List U} {m : Mem} (h : us.length ≤ 16777216) : oLst us m = some (.ref m.length, m ++ [.lst us]) := if_pos h
theorem oList_e {us : List U} {m : Mem} (h : us.length ≤ 16777216) : oList (some (us, m)) = some (.ref m.length, m ++ [.lst us]) := if_pos h
theorem oLen_r {n : Nat} {us : List U} {m : Mem} (h : m[n]? = some (.lst us)) : oLen [.ref n] m = some (.int us.length, m) := by
  unfold oLen; simp only [h]
theorem oToTup_r {n : Nat} {us : List U} {m : Mem} (h : m[n]? = some (.lst us)) : oToTup [.ref n] m = some (.tup us, m) := by
  unfold oToTup itemsOf; simp only [h]; rfl
theorem oAll_r {n : Nat} {bs : List Bool} {m : Mem} (h : m[n]? = some (.lst (bs.map .bl))) : oAll [.ref n] m = some (.bl (bs.all id), m) := by
  unfold oAll; simp only [h]
  rw [show bools (bs.map U.bl) = some bs from by clear h; induction bs with | nil => rfl | cons b r ih => simp [bools, ih]]
  rfl
theorem truU_r {n : Nat} {us : List U} {m : Mem} (h : m[n]? = some (.lst us)) : truU m (.ref n) = some (!us.isEmpty) := by
  unfold truU; simp only [h]
theorem isMT_r {n : Nat} {us : List U} {m : Mem} (h : m[n]? = some (.lst us)) : isMT m .list (.ref n) = true := by
  unfold isMT; simp only [h]
theorem atI_at {α : Type} {us : List α} {i : Int} {x : α} (h0 : 0 ≤ i) (h : us[i.toNat]? = some x) : atI us i = some x := by
  have := atI_nat h
  rwa [Int.toNat_of_nonneg h0] at this
theorem oIx_t {us : List U} {i : Int} {x : U} {m : Mem} (h : atI us i = some x) : oIx (.tup us) (.int i) m = some (x, m) := by
  show (atI us i).map (fun x => (x, m)) = _
  rw [h]; rfl
theorem oIx_r {n : Nat} {us : List U} {i : Int} {x : U} {m : Mem} (hm : m[n]? = some (.lst us)) (h : atI us i = some x) : oIx (.ref n) (.int i) m = some (x, m) := by
  have : oIx (.ref n) (.int i) m = match itemsOf m (.ref n) with | some us => (atI us i).map fun x => (x, m) | none => none := rfl
  rw [this, itemsOf]; simp only [hm, h]; rfl
theorem oGetL_r {n : Nat} {us : List U} {i : Int} {x : U} {m : Mem} (hm : m[n]? = some (.lst us)) (h : atI us i = some x) : oGetL (.ref n) (.int i) m = some (x, m) := by
  show (match cellAt m n with | some us => (atI us i).map fun u => (u, m) | none => none) = _
  unfold cellAt; simp only [hm, h]; rfl
theorem ixN_at {n : Nat} {i : Int} (h0 : 0 ≤ i) (h : i < n) : ixN n i = some i.toNat := by unfold ixN; rw [if_pos h0, if_pos h]
theorem oSetL_r {n : Nat} {us : List U} {i : Int} {v : U} {m : Mem} (hm : m[n]? = some (.lst us)) (h0 : 0 ≤ i) (h : i < us.length) : oSetL (.ref n) (.int i) v m = some ((), m.set n (.lst (us.set i.toNat v))) := by
  show (match m[n]? with | some (.lst us) => (ixN us.length i).map fun j => ((), m.set n (.lst (us.set j v))) | _ => none) = _
  simp only [hm, ixN_at h0 h]; rfl
theorem oPop_r {n : Nat} {us : List U} {u : U} {m : Mem} (hm : m[n]? = some (.lst (us ++ [u]))) : oPop (.ref n) [] m = some (u, m.set n (.lst us)) := by
  show (match m[n]? with | some (.lst us) => (us[us.length - 1]?).map fun u => (u, m.set n (.lst us.dropLast)) | _ => none) = _
  simp only [hm]
  simp
theorem oAppend_r {n : Nat} {us : List U} {u : U} {m : Mem} (hm : m[n]? = some (.lst us)) (h : us.length < 16777216) : oAppend (.ref n) [u] m = some (U.non, m.set n (.lst (us ++ [u]))) := by
  show (match m[n]? with | some (.lst us) => if us.length < sizeLine then some (U.non, m.set n (.lst (us ++ [u]))) else none | _ => none) = _
  simp only [hm]
  exact if_pos h
theorem oAdd_t {xs ys : List U} {m : Mem} (h : xs.length + ys.length ≤ 16777216) : oAdd (.tup xs) (.tup ys) m = some (.tup (xs ++ ys), m) := if_pos h
theorem oAdd_r {l k : Nat} {xs ys : List U} {m : Mem} (hl : m[l]? = some (.lst xs)) (hk : m[k]? = some (.lst ys)) (h : xs.length + ys.length ≤ 16777216) : oAdd (.ref l) (.ref k) m = some (.ref m.length, m ++ [.lst (xs ++ ys)]) := by
  unfold oAdd; simp only [hl, hk]; exact if_pos h
theorem oMulG_t {xs : List U} {k : Int} {m : Mem} (h1 : -1000 ≤ k) (h2 : k ≤ 1000) (h3 : xs.length ≤ 1000) : oMulG (.tup xs) (.int k) m = some (.tup (List.replicate k.toNat xs).flatten, m) := if_pos ⟨h1, h2, h3⟩
theorem oMulG_r {l : Nat} {xs : List U} {k : Int} {m : Mem} (hl : m[l]? = some (.lst xs)) (h1 : -9223372036854775808 ≤ k) (h2 : k < 9223372036854775808) (h3 : xs.length * k.toNat ≤ 16777216) : oMulG (.ref l) (.int k) m = some (.ref m.length, m ++ [.lst (List.replicate k.toNat xs).flatten]) := by
  show oMul (.ref l) (.int k) m = _
  unfold oMul; simp only [hl]; exact if_pos ⟨h1, h2, h3⟩
theorem iRange1_e {f : XL} {ρ : Env} {m m1 : Mem} {j : Int} (h : f ρ m = .ok [.int j] m1) (h1 : -4611686018427387904 ≤ j) (h2 : j < 4611686018427387904) : iRange1 f ρ m = .ok (.fix (runI 0 j.toNat)) m1 := by
  unfold iRange1; rw [h]; exact if_pos ⟨h1, h2⟩
/-- what a cell's list gives -/
def nxL (n : Nat) : Nat → Mem → Option (Option U) := fun i m => match m[n]? with
  | some (.lst us) => some us[i]?
  | _ => none
theorem nxL_e {n : Nat} {us : List U} {m : Mem} (h : m[n]? = some (.lst us)) (i : Nat) : nxL n i m = some us[i]? := by unfold nxL; simp only [h]
/-- operations on cells, on places -/
theorem evR :
    (∀ n m, oLen [.ref n] m = match m[n]? with | some (.lst us) => some (.int us.length, m) | some (.dK kvs) => some (.int kvs.length, m) | _ => none) ∧
    (∀ n m, oToTup [.ref n] m = match m[n]? with | some (.lst us) => some (.tup us, m) | _ => none) ∧
    (∀ n m, oToLst [.ref n] m = match m[n]? with | some (.lst us) => some (.ref m.length, m ++ [.lst us]) | _ => none) ∧
    (∀ n m, truU m (.ref n) = match m[n]? with | some (.lst us) => some (!us.isEmpty) | some (.dK kvs) => some (!kvs.isEmpty) | _ => none) ∧
    (∀ n m, isMT m .list (.ref n) = match m[n]? with | some (.lst _) => true | _ => false) ∧
    (∀ us i m, oIx (.tup us) (.int i) m = match atI us i with | some x => some (x, m) | none => none) ∧
    (∀ us i m, oIx (.rol us) (.int i) m = match atI us i with | some x => some (x, m) | none => none) ∧
    (∀ n i m, oIx (.ref n) (.int i) m = match m[n]? with | some (.lst us) => (match atI us i with | some x => some (x, m) | none => none) | _ => none) ∧
    (∀ n i m, oGetL (.ref n) (.int i) m = match m[n]? with | some (.lst us) => (match atI us i with | some x => some (x, m) | none => none) | _ => none) ∧
    (∀ n i v m, oSetL (.ref n) (.int i) v m = match m[n]? with | some (.lst us) => (match ixN us.length i with | some j => some ((), m.set n (.lst (us.set j v))) | none => none) | _ => none) ∧
    (∀ n m, oPop (.ref n) [] m = match m[n]? with | some (.lst us) => (match us[us.length - 1]? with | some u => some (u, m.set n (.lst us.dropLast)) | none => none) | _ => none) ∧
    (∀ n u m, oAppend (.ref n) [u] m = match m[n]? with | some (.lst us) => if us.length < 16777216 then some (.non, m.set n (.lst (us ++ [u]))) else none | _ => none) ∧
    (∀ n m, srcA m (.ref n) = match m[n]? with | some (.lst us) => some (.dyn (us.length + 1) (nxL n)) | _ => none) ∧
    (∀ u v m, oEq u v m = match eqU m u v with | some b => some (.bl b, m) | none => none) ∧
    (∀ u v m, oNe u v m = match eqU m u v with | some b => some (.bl (!b), m) | none => none) := by
  have hc : ∀ (m : Mem) (n : Nat), itemsOf m (.ref n) = match m[n]? with | some (.lst us) => some us | _ => none := fun m n => rfl
  refine ⟨fun _ _ => rfl, fun n m => ?_, fun n m => ?_, fun _ _ => rfl, fun _ _ => rfl, fun us i m => ?_, fun us i m => ?_, fun n i m => ?_, fun n i m => ?_, fun n i v m => ?_, fun n m => ?_, fun _ _ _ => rfl, fun _ _ => rfl, fun u v m => ?_, fun u v m => ?_⟩
  · show (itemsOf m (.ref n)).map (fun us => (U.tup us, m)) = _
    rw [hc]
    cases m[n]? with
    | none => rfl
    | some c => cases c <;> rfl
  · show (itemsOf m (.ref n)).map (fun us => (U.ref m.length, m ++ [.lst us])) = _
    rw [hc]
    cases m[n]? with
    | none => rfl
    | some c => cases c <;> rfl
  · show (atI us i).map (fun x => (x, m)) = _
    cases atI us i <;> rfl
  · show (atI us i).map (fun x => (x, m)) = _
    cases atI us i <;> rfl
  · show (match itemsOf m (.ref n) with | some us => (atI us i).map fun x => (x, m) | none => none) = _
    rw [hc]
    cases m[n]? with
    | none => rfl
    | some c =>
      cases c with
      | lst us => show (atI us i).map (fun x => (x, m)) = (match atI us i with | some x => some (x, m) | none => none); cases atI us i <;> rfl
      | _ => rfl
  · show (match cellAt m n with | some us => (atI us i).map fun u => (u, m) | none => none) = _
    unfold cellAt
    cases m[n]? with
    | none => rfl
    | some c =>
      cases c with
      | lst us => show (atI us i).map (fun x => (x, m)) = (match atI us i with | some x => some (x, m) | none => none); cases atI us i <;> rfl
      | _ => rfl
  · show (match m[n]? with | some (.lst us) => (ixN us.length i).map fun j => ((), m.set n (.lst (us.set j v))) | _ => none) = _
    cases m[n]? with
    | none => rfl
    | some c =>
      cases c with
      | lst us => show (ixN us.length i).map (fun j => ((), m.set n (.lst (us.set j v)))) = (match ixN us.length i with | some j => some ((), m.set n (.lst (us.set j v))) | none => none); cases ixN us.length i <;> rfl
      | _ => rfl
  · show (match m[n]? with | some (.lst us) => (us[us.length - 1]?).map fun u => (u, m.set n (.lst us.dropLast)) | _ => none) = _
    cases m[n]? with
    | none => rfl
    | some c =>
      cases c with
      | lst us => show (us[us.length - 1]?).map (fun u => (u, m.set n (.lst us.dropLast))) = (match us[us.length - 1]? with | some u => some (u, m.set n (.lst us.dropLast)) | none => none); cases us[us.length - 1]? <;> rfl
      | _ => rfl
  · show (eqU m u v).map (fun b => (U.bl b, m)) = _
    cases eqU m u v <;> rfl
  · show (eqU m u v).map (fun b => (U.bl (!b), m)) = _
    cases eqU m u v <;> rfl
theorem evR2 :
    (∀ l k m, oAdd (.ref l) (.ref k) m = match m[l]?, m[k]? with | some (.lst xs), some (.lst ys) => if xs.length + ys.length ≤ 16777216 then some (.ref m.length, m ++ [.lst (xs ++ ys)]) else none | _, _ => none) ∧
    (∀ l k m, oMulG (.ref l) (.int k) m = match m[l]? with | some (.lst xs) => if -9223372036854775808 ≤ k ∧ k < 9223372036854775808 ∧ xs.length * k.toNat ≤ 16777216 then some (.ref m.length, m ++ [.lst (List.replicate k.toNat xs).flatten]) else none | _ => none) :=
  ⟨fun _ _ _ => rfl, fun _ _ _ => rfl⟩
theorem flat_rep {α : Type} (a : α) (n : Nat) : (List.replicate n [a]).flatten = List.replicate n a := by
  induction n with
  | zero => rfl
  | succ n ih => rw [List.replicate_succ, List.flatten_cons, ih, List.replicate_succ]; rfl
theorem zeros_int (n : Nat) (i : Int) : List.replicate n (U.int i) = (List.replicate n i).map U.int := by rw [List.map_replicate]
theorem app_int (a b : List Int) : a.map U.int ++ b.map U.int = (a ++ b).map U.int := by rw [List.map_append]
theorem one_int (i : Int) : [U.int i] = [i].map U.int := rfl
theorem dSlot_d (i : Nat) (ρ : Env) (m : Mem) : dSlot i ρ m = match ρ[i]? with | some (some u) => .ok u m | _ => .bad := rfl
/-! ### equality -/
theorem datRL_ints (res : Nat → Option PyData) : ∀ l : List Int, datRL res (l.map .int) = some (l.map .int)
  | [] => rfl
  | i :: r => by
    show (match datR res (.int i) with | none => none | some d => (datRL res (r.map .int)).map (d :: ·)) = _
    rw [datRL_ints res r]; rfl
theorem dat_tI (m : Mem) (l : List Int) : dat m (tI l) = some (.tuple (l.map .int)) := by
  show (datRL (resM m 6) (l.map .int)).map PyData.tuple = _
  rw [datRL_ints]; rfl
theorem canAll_ints : ∀ l : List Int, PyData.canLayAll0 (l.map .int) = true
  | [] => rfl
  | i :: r => by
    show (true && PyData.canLayAll0 (r.map .int)) = true
    rw [canAll_ints r]; rfl
theorem depth_ints : ∀ l : List Int, PyData.depthAll (l.map .int) = 0
  | [] => rfl
  | i :: r => by simp [PyData.depthAll, PyData.depth, depth_ints r]
theorem shaped_tI (l : List Int) : SeqAt.shaped (.tuple (l.map .int)) = true := by
  simp [SeqAt.shaped, PyData.canLay0, PyData.depth, canAll_ints, depth_ints]
theorem eqvAll_ints : ∀ a b : List Int, PyData.eqvAll (a.map .int) (b.map .int) = decide (a = b)
  | [], [] => rfl
  | [], _ :: _ => rfl
  | _ :: _, [] => rfl
  | x :: a, y :: b => by
    show (PyData.eqv (.int x) (.int y) && PyData.eqvAll (a.map .int) (b.map .int)) = _
    rw [eqvAll_ints a b]
    show ((x == y) && _) = _
    by_cases h : x = y
    · subst h; simp
    · simp [h]
theorem eqU_tI (m : Mem) (a b : List Int) : eqU m (tI a) (tI b) = some (decide (a = b)) := by
  unfold eqU
  simp only [dat_tI, shaped_tI, Bool.and_true, if_true]
  show some (PyData.eqvAll (a.map .int) (b.map .int)) = _
  rw [eqvAll_ints]
theorem eqU_nil (m : Mem) (l : List Int) : eqU m (tI l) (.tup []) = some (decide (l = [])) := eqU_tI m l []
theorem eqU_i (m : Mem) (a b : Int) : eqU m (.int a) (.int b) = some (decide (a = b)) := by
  show (if SeqAt.shaped (.int a) && SeqAt.shaped (.int b) then some (PyData.eqv (.int a) (.int b)) else none) = _
  rw [show SeqAt.shaped (.int a) = true from rfl, show SeqAt.shaped (.int b) = true from rfl]
  show some (a == b) = _
  by_cases h : a = b
  · subst h; simp
  · simp [h]
theorem oEq_e {u v : U} {b : Bool} {m : Mem} (h : eqU m u v = some b) : oEq u v m = some (.bl b, m) := by unfold oEq; rw [h]; rfl
theorem oNe_e {u v : U} {b : Bool} {m : Mem} (h : eqU m u v = some b) : oNe u v m = some (.bl (!b), m) := by unfold oNe; rw [h]; rfl
theorem dat_rI {m : Mem} {n : Nat} {l : List Int} (h : m[n]? = some (cI l)) : dat m (.ref n) = some (.list (l.map .int)) := by
  show resM m 6 n = _
  rw [resM]
  simp only [h]
  rw [datRL_ints]; rfl
theorem shaped_lI (l : List Int) : SeqAt.shaped (.list (l.map .int)) = true := by
  simp [SeqAt.shaped, PyData.canLay0, PyData.depth, canAll_ints, depth_ints]
theorem eqU_rr {m : Mem} {n k : Nat} {a b : List Int} (h : m[n]? = some (cI a)) (h2 : m[k]? = some (cI b)) : eqU m (.ref n) (.ref k) = some (decide (a = b)) := by
  unfold eqU
  simp only [dat_rI h, dat_rI h2, shaped_lI, Bool.and_true, if_true]
  show some (PyData.eqvAll (a.map .int) (b.map .int)) = _
  rw [eqvAll_ints]
theorem mem_mid (m g : Mem) (c : Cell) : (m ++ c :: g)[m.length]? = some c := by simp
theorem mem_setm (m g : Mem) (c d : Cell) : (m ++ c :: g).set m.length d = m ++ d :: g := by simp
/-! ### loops -/
/-- [e for x in us], the memory grows only -/
theorem compL_map {g : GD} {e : XD} {ρ : Env} {F : U → U} {P : Mem → Prop} (hP : ∀ m t, P m → P (m ++ t)) : ∀ (us : List U) (m : Mem), P m → (∀ u ∈ us, ∀ m, P m → ∃ ρ1 t, g u ρ m = some (ρ1, m) ∧ e ρ1 m = .ok (F u) (m ++ t)) → ∃ t, compL g tYesU e ρ us m = some (us.map F, m ++ t)
  | [], m, _, _ => ⟨[], by simp [compL]⟩
  | u :: us, m, hm, h => by
    obtain ⟨ρ1, t, e1, e2⟩ := h u (List.mem_cons_self ..) m hm
    obtain ⟨t2, e3⟩ := compL_map hP us (m ++ t) (hP _ _ hm) fun v hv => h v (List.mem_cons_of_mem _ hv)
    exact ⟨t ++ t2, by simp [compL, e1, tYesU, toO, e2, e3]⟩
/-- an invariant of a loop over written items, none of which leaves it -/
theorem forL_inv {g : GD} {b : SD} (I : List U → Env → Mem → Prop) (h : ∀ u us ρ m, I (u :: us) ρ m → ∃ ρ1 m1 ρ2 m2, g u ρ m = some (ρ1, m1) ∧ b ρ1 m1 = .ok .nx ρ2 m2 ∧ I us ρ2 m2) : ∀ us ρ m, I us ρ m → ∃ ρ' m', forL g b us ρ m = .ok .nx ρ' m' ∧ I [] ρ' m'
  | [], ρ, m, hi => ⟨ρ, m, rfl, hi⟩
  | u :: us, ρ, m, hi => by
    obtain ⟨ρ1, m1, ρ2, m2, e1, e2, h2⟩ := h u us ρ m hi
    obtain ⟨ρ', m', e3, h3⟩ := forL_inv I h us ρ2 m2 h2
    exact ⟨ρ', m', by simp only [forL, e1, thenO, e2, loopS, e3], h3⟩
theorem whileN_step {t : XT} {b : SD} {k : Nat} {ρ : Env} {m m1 : Mem} {c : Bool} (h : t ρ m = .ok c m1) : whileN t b (k + 1) ρ m = if c then loopS (b ρ m1) (whileN t b k) else .ok .nx ρ m1 := by
  show thenE (t ρ m) ρ _ = _
  rw [h]; rfl
/-- the same over ints, over a cell's list -/
theorem compL_ints {k : Nat} {e : XD} {ρ : Env} {f : Int → U} {P : Mem → Prop} (hP : ∀ m t, P m → P (m ++ t)) : ∀ (l : List Int) (m : Mem), P m → (∀ i ∈ l, ∀ m, P m → ∃ t, e (ρ.set k (some (.int i))) m = .ok (f i) (m ++ t)) → ∃ t, compL (gName k) tYesU e ρ (l.map .int) m = some (l.map f, m ++ t)
  | [], m, _, _ => ⟨[], by simp [compL]⟩
  | i :: us, m, hm, h => by
    obtain ⟨t, e2⟩ := h i (List.mem_cons_self ..) m hm
    obtain ⟨t2, e3⟩ := compL_ints hP us (m ++ t) (hP _ _ hm) fun v hv => h v (List.mem_cons_of_mem _ hv)
    exact ⟨t ++ t2, by simp [compL, gName, tYesU, toO, e2, e3]⟩
theorem compN_map {nx : Nat → Mem → Option (Option U)} {g : GD} {e : XD} {ρ : Env} {F : U → U} {P : Mem → Prop} {us : List U} (hP : ∀ m t, P m → P (m ++ t)) (hn : ∀ i m, P m → nx i m = some us[i]?) : ∀ (k i : Nat) (m : Mem), P m → us.length < i + (k + 1) → (∀ u ∈ us, ∀ m, P m → ∃ ρ1 t, g u ρ m = some (ρ1, m) ∧ e ρ1 m = .ok (F u) (m ++ t)) → ∃ t, compN nx g tYesU e ρ (k + 1) i m = some ((us.drop i).map F, m ++ t)
  | k, i, m, hm, hk, h => by
    by_cases hi : i < us.length
    · cases k with
      | zero => omega
      | succ k =>
      have hu : us[i]? = some us[i] := List.getElem?_eq_getElem hi
      obtain ⟨ρ1, t, e1, e2⟩ := h us[i] (List.getElem_mem hi) m hm
      obtain ⟨t2, e3⟩ := compN_map hP hn k (i + 1) (m ++ t) (hP _ _ hm) (by omega) h
      refine ⟨t ++ t2, ?_⟩
      rw [List.drop_eq_getElem_cons hi, List.map_cons]
      rw [compN]; simp [hn i m hm, hu, e1, tYesU, toO, e2, e3]
    · refine ⟨[], ?_⟩
      rw [List.drop_eq_nil_of_le (by omega)]
      simp [compN, hn i m hm, List.getElem?_eq_none (by omega : us.length ≤ i)]
/-- an invariant by the number of turns -/
theorem forIx {g : GD} {b : SD} {us : List U} (I : Nat → Env → Mem → Prop) (h : ∀ i u ρ m, us[i]? = some u → I i ρ m → ∃ ρ1 m1 ρ2 m2, g u ρ m = some (ρ1, m1) ∧ b ρ1 m1 = .ok .nx ρ2 m2 ∧ I (i + 1) ρ2 m2) (ρ : Env) (m : Mem) (h0 : I 0 ρ m) : ∃ ρ' m', forL g b us ρ m = .ok .nx ρ' m' ∧ I us.length ρ' m' := by
  obtain ⟨ρ', m', e, i, hi, hl, hI⟩ := forL_inv (g := g) (b := b) (fun rem ρ m => ∃ i, rem = us.drop i ∧ i ≤ us.length ∧ I i ρ m) (fun u rem ρ m ⟨i, hd, hl, hI⟩ => by
    have hlt : i < us.length := by
      refine Nat.lt_of_not_le fun z => ?_
      rw [List.drop_eq_nil_of_le z] at hd; cases hd
    have hu : us[i]? = some u := by
      rw [List.drop_eq_getElem_cons hlt] at hd
      injection hd with hd _
      rw [List.getElem?_eq_getElem hlt, hd]
    obtain ⟨ρ1, m1, ρ2, m2, e1, e2, h2⟩ := h i u ρ m hu hI
    refine ⟨ρ1, m1, ρ2, m2, e1, e2, i + 1, ?_, by omega, h2⟩
    rw [List.drop_eq_getElem_cons hlt] at hd
    injection hd with _ hd) us ρ m ⟨0, rfl, Nat.zero_le _, h0⟩
  have : i = us.length := by
    refine Nat.le_antisymm hl (Nat.le_of_not_lt fun z => ?_)
    rw [List.drop_eq_getElem_cons z] at hi; cases hi
  exact ⟨ρ', m', e, this ▸ hI⟩
theorem enum_at {l : List Int} {i : Nat} {u : U} (h : (enumU 0 (l.map .int))[i]? = some u) : ∃ hi : i < l.length, u = .tup [.int i, .int l[i]] := by
  rw [enumU_get, Nat.zero_add, List.getElem?_map] at h
  by_cases hi : i < l.length
  · rw [List.getElem?_eq_getElem hi] at h
    exact ⟨hi, (Option.some.inj h).symm⟩
  · rw [List.getElem?_eq_none (by omega)] at h; cases h
theorem enum_len : ∀ (us : List U) (k : Nat), (enumU k us).length = us.length
  | [], _ => rfl
  | u :: us, k => by simp [enumU, enum_len us (k + 1)]
theorem run_at {n i : Nat} {u : U} (h : (runI 0 n)[i]? = some u) : i < n ∧ u = .int i := by
  rw [runI_get] at h
  split at h
  · rename_i hi
    exact ⟨hi, by rw [← Option.some.inj h]; simp⟩
  · cases h
theorem ints_at {l : List Int} {i : Nat} {u : U} (h : (l.map U.int)[i]? = some u) : ∃ hi : i < l.length, u = .int l[i] := by
  rw [List.getElem?_map] at h
  by_cases hi : i < l.length
  · rw [List.getElem?_eq_getElem hi] at h
    exact ⟨hi, (Option.some.inj h).symm⟩
  · rw [List.getElem?_eq_none (by omega)] at h; cases h
theorem atI_ints {l : List Int} {i : Nat} (hi : i < l.length) : atI (l.map U.int) (i : Int) = some (.int l[i]) := atI_nat (by rw [List.getElem?_map, List.getElem?_eq_getElem hi]; rfl)
theorem ixN_ints {l : List Int} {i : Nat} (hi : i < l.length) : ixN l.length (i : Int) = some i := by
  rw [ixN_at (by omega) (by omega)]; simp
theorem set_ints (l : List Int) (i : Nat) (v : Int) : (l.map U.int).set i (.int v) = (l.set i v).map U.int := by rw [List.map_set]
/-- 0 to n - 1 -/
def upto (n : Nat) : List Int := (List.range n).map fun k : Nat => (k : Int)
theorem upto_len (n : Nat) : (upto n).length = n := by simp [upto]
theorem upto_at {n i : Nat} (h : i < (upto n).length) : (upto n)[i] = (i : Int) := by simp [upto]
theorem upto_mem {n : Nat} {i : Int} (h : i ∈ upto n) : ∃ k : Nat, k < n ∧ i = k := by
  obtain ⟨k, hk, rfl⟩ := List.mem_map.mp h
  exact ⟨k, List.mem_range.mp hk, rfl⟩
theorem runI_ints (n : Nat) : runI 0 n = (upto n).map U.int := by
  refine List.ext_getElem? fun i => ?_
  rw [runI_get, List.getElem?_map, upto, List.getElem?_map]
  by_cases h : i < n
  · rw [if_pos h, List.getElem?_range h]; simp
  · rw [if_neg h, List.getElem?_eq_none (by simp; omega)]; rfl
theorem atI_sum {l : List Int} {i j : Nat} (hi : i + j < l.length) : atI (l.map U.int) ((i : Int) + (j : Int)) = some (.int l[i + j]) := by
  have := atI_ints hi
  rwa [Int.natCast_add] at this
theorem ixN_sum {l : List Int} {i j : Nat} (hi : i + j < l.length) : ixN l.length ((i : Int) + (j : Int)) = some (i + j) := by
  have := ixN_ints hi
  rwa [Int.natCast_add] at this
/-- [e for x in us] with a state that goes on -/
theorem compL_gen {k : Nat} {e : XD} {ρ : Env} {I : Mem → Prop} {Q : U → Prop} : ∀ (us : List U) (m : Mem), I m → (∀ u ∈ us, ∀ m, I m → ∃ y m', e (ρ.set k (some u)) m = .ok y m' ∧ Q y ∧ I m') → ∃ ys m', compL (gName k) tYesU e ρ us m = some (ys, m') ∧ ys.length = us.length ∧ (∀ y ∈ ys, Q y) ∧ I m'
  | [], m, hm, _ => ⟨[], m, rfl, rfl, (fun _ h => by cases h), hm⟩
  | u :: us, m, hm, h => by
    obtain ⟨y, m1, e1, q, h1⟩ := h u (List.mem_cons_self ..) m hm
    obtain ⟨ys, m2, e2, hl, hq, h2⟩ := compL_gen us m1 h1 fun v hv => h v (List.mem_cons_of_mem _ hv)
    refine ⟨y :: ys, m2, by simp [compL, gName, tYesU, toO, e1, e2], by simp [hl], fun z hz => ?_, h2⟩
    rcases List.mem_cons.mp hz with e | hz
    · exact e ▸ q
    · exact hq z hz
/-- with a test -/
theorem compL_if {k : Nat} {t : XT} {e : XD} {ρ : Env} {T : Int → Bool} {f : Int → U} {P : Mem → Prop} (hP : ∀ m t, P m → P (m ++ t)) : ∀ (l : List Int) (m : Mem), P m → (∀ i ∈ l, ∀ m, P m → ∃ g, t (ρ.set k (some (.int i))) m = .ok (T i) (m ++ g)) → (∀ i ∈ l, ∀ m, P m → ∃ g, e (ρ.set k (some (.int i))) m = .ok (f i) (m ++ g)) → ∃ g, compL (gName k) t e ρ (l.map .int) m = some ((l.filter T).map f, m ++ g)
  | [], m, _, _, _ => ⟨[], by simp [compL]⟩
  | i :: us, m, hm, h, h' => by
    obtain ⟨g1, e1⟩ := h i (List.mem_cons_self ..) m hm
    cases hT : T i with
    | false =>
      obtain ⟨g2, e2⟩ := compL_if hP us (m ++ g1) (hP _ _ hm) (fun v hv => h v (List.mem_cons_of_mem _ hv)) fun v hv => h' v (List.mem_cons_of_mem _ hv)
      exact ⟨g1 ++ g2, by simp [compL, gName, toO, e1, e2, hT]⟩
    | true =>
      obtain ⟨g2, e2⟩ := h' i (List.mem_cons_self ..) (m ++ g1) (hP _ _ hm)
      obtain ⟨g3, e3⟩ := compL_if hP us (m ++ g1 ++ g2) (hP _ _ (hP _ _ hm)) (fun v hv => h v (List.mem_cons_of_mem _ hv)) fun v hv => h' v (List.mem_cons_of_mem _ hv)
      have e2' : e (ρ.set k (some (.int i))) (m ++ g1) = .ok (f i) (m ++ (g1 ++ g2)) := by rw [e2, List.append_assoc]
      have e3' : compL (gName k) t e ρ (us.map .int) (m ++ (g1 ++ g2)) = some ((us.filter T).map f, m ++ (g1 ++ (g2 ++ g3))) := by
        rw [← List.append_assoc, e3]; simp
      exact ⟨g1 ++ (g2 ++ g3), by simp [compL, gName, toO, e1, e2', e3', hT]⟩
/-- over a cell's list, by the number of the turn -/
theorem compN_ix {nx : Nat → Mem → Option (Option U)} {k0 : Nat} {e : XD} {ρ : Env} {F : Nat → U} {P : Mem → Prop} {us : List U} (hP : ∀ m t, P m → P (m ++ t)) (hn : ∀ i m, P m → nx i m = some us[i]?) (h : ∀ i u, us[i]? = some u → ∀ m, P m → ∃ t, e (ρ.set k0 (some u)) m = .ok (F i) (m ++ t)) : ∀ (k i : Nat) (m : Mem), P m → us.length < i + (k + 1) → i ≤ us.length → ∃ t, compN nx (gName k0) tYesU e ρ (k + 1) i m = some ((List.range' i (us.length - i)).map F, m ++ t)
  | k, i, m, hm, hk, hle => by
    by_cases hi : i < us.length
    · cases k with
      | zero => omega
      | succ k =>
      have hu : us[i]? = some us[i] := List.getElem?_eq_getElem hi
      obtain ⟨t, e2⟩ := h i us[i] hu m hm
      obtain ⟨t2, e3⟩ := compN_ix hP hn h k (i + 1) (m ++ t) (hP _ _ hm) (by omega) (by omega)
      refine ⟨t ++ t2, ?_⟩
      rw [show us.length - i = (us.length - (i + 1)) + 1 by omega, List.range'_succ, List.map_cons]
      rw [compN]; simp [gName, hn i m hm, hu, tYesU, toO, e2, e3]
    · refine ⟨[], ?_⟩
      rw [show us.length - i = 0 by omega]
      simp [compN, hn i m hm, List.getElem?_eq_none (by omega : us.length ≤ i)]
/-- nothing passes the test -/
theorem compN_none {nx : Nat → Mem → Option (Option U)} {k0 : Nat} {t : XT} {e : XD} {ρ : Env} {P : Mem → Prop} {us : List U} (hP : ∀ m t, P m → P (m ++ t)) (hn : ∀ i m, P m → nx i m = some us[i]?) (h : ∀ u ∈ us, ∀ m, P m → ∃ g, t (ρ.set k0 (some u)) m = .ok false (m ++ g)) : ∀ (k i : Nat) (m : Mem), P m → us.length < i + (k + 1) → ∃ g, compN nx (gName k0) t e ρ (k + 1) i m = some ([], m ++ g)
  | k, i, m, hm, hk => by
    by_cases hi : i < us.length
    · cases k with
      | zero => omega
      | succ k =>
      have hu : us[i]? = some us[i] := List.getElem?_eq_getElem hi
      obtain ⟨t, e2⟩ := h us[i] (List.getElem_mem hi) m hm
      obtain ⟨t2, e3⟩ := compN_none (e := e) hP hn h k (i + 1) (m ++ t) (hP _ _ hm) (by omega)
      refine ⟨t ++ t2, ?_⟩
      rw [compN]; simp [gName, hn i m hm, hu, toO, e2, e3]
    · refine ⟨[], ?_⟩
      simp [compN, hn i m hm, List.getElem?_eq_none (by omega : us.length ≤ i)]
/-- lists of tuples of ints -/
theorem datRL_tI (res : Nat → Option PyData) : ∀ A : List (List Int), datRL res (A.map tI) = some (A.map fun l => .tuple (l.map .int))
  | [] => rfl
  | l :: r => by
    show (match datR res (tI l) with | none => none | some d => (datRL res (r.map tI)).map (d :: ·)) = _
    rw [datRL_tI res r, show datR res (tI l) = some (.tuple (l.map .int)) from by show (datRL res (l.map .int)).map PyData.tuple = _; rw [datRL_ints]; rfl]
    rfl
theorem canAll_tI : ∀ A : List (List Int), PyData.canLayAll0 (A.map fun l => .tuple (l.map .int)) = true
  | [] => rfl
  | l :: r => by
    show (PyData.canLayAll0 (l.map .int) && PyData.canLayAll0 (r.map _)) = true
    rw [canAll_ints, canAll_tI r]; rfl
theorem depth_tI : ∀ A : List (List Int), PyData.depthAll (A.map fun l => .tuple (l.map .int)) ≤ 1
  | [] => by simp [PyData.depthAll]
  | l :: r => by
    have := depth_tI r
    simp only [List.map_cons, PyData.depthAll, PyData.depth, depth_ints]
    omega
theorem eqvAll_tI : ∀ a b : List (List Int), PyData.eqvAll (a.map fun l => .tuple (l.map .int)) (b.map fun l => .tuple (l.map .int)) = decide (a = b)
  | [], [] => rfl
  | [], _ :: _ => rfl
  | _ :: _, [] => rfl
  | x :: a, y :: b => by
    show (PyData.eqvAll (x.map .int) (y.map .int) && PyData.eqvAll (a.map _) (b.map _)) = _
    rw [eqvAll_tI a b, eqvAll_ints]
    by_cases h : x = y
    · subst h; simp
    · simp [h]
theorem eqU_rrT {m : Mem} {n k : Nat} {A B : List (List Int)} (h : m[n]? = some (.lst (A.map tI))) (h2 : m[k]? = some (.lst (B.map tI))) : eqU m (.ref n) (.ref k) = some (decide (A = B)) := by
  have hd : ∀ (n : Nat) (A : List (List Int)), m[n]? = some (.lst (A.map tI)) → dat m (.ref n) = some (.list (A.map fun l => .tuple (l.map .int))) := fun n A h => by
    show resM m 6 n = _
    rw [resM]
    simp only [h]
    rw [datRL_tI]; rfl
  have hs : ∀ A : List (List Int), SeqAt.shaped (.list (A.map fun l => .tuple (l.map .int))) = true := fun A => by
    have := depth_tI A
    simp [SeqAt.shaped, PyData.canLay0, PyData.depth, canAll_tI]
    omega
  unfold eqU
  simp only [hd n A h, hd k B h2, hs, Bool.and_true, if_true]
  show some (PyData.eqvAll _ _) = _
  rw [eqvAll_tI]
/-- a list of the same data on both sides -/
theorem eqU_same {m : Mem} {u v : U} {d : PyData} (h : dat m u = some d) (h2 : dat m v = some d) (hs : SeqAt.shaped d = true) (he : PyData.eqv d d = true) : eqU m u v = some true := by
  unfold eqU
  simp only [h, h2, hs, Bool.and_true, if_true, he]
theorem dat_rL {m : Mem} {n : Nat} {us : List U} {ds : List PyData} (h : m[n]? = some (.lst us)) (h2 : datRL (resM m 5) us = some ds) : dat m (.ref n) = some (.list ds) := by
  show resM m 6 n = _
  rw [resM]
  simp only [h, h2]; rfl
/-! ### draws -/
/-- the cell of the draws -/
def Well (c : Nat) (m : Mem) : Prop := ∃ a b d : Int, m[c]? = some (.lst [.int a, .int b, .int d])
structure Gr (c : Nat) (m m' : Mem) : Prop where
  len : m.length ≤ m'.length
  well : Well c m'
  old : ∀ n, n ≠ c → n < m.length → m'[n]? = m[n]?
theorem Gr.refl {c : Nat} {m : Mem} (h : Well c m) : Gr c m m := ⟨Nat.le_refl _, h, fun _ _ _ => rfl⟩
theorem Gr.trans {c : Nat} {m m' m'' : Mem} (h : Gr c m m') (h2 : Gr c m' m'') : Gr c m m'' := ⟨Nat.le_trans h.len h2.len, h2.well, fun n hn hl => (h2.old n hn (Nat.lt_of_lt_of_le hl h.len)).trans (h.old n hn hl)⟩
theorem Well.app {c : Nat} {m : Mem} (h : Well c m) (t : Mem) : Well c (m ++ t) := by
  obtain ⟨a, b, d, e⟩ := h
  exact ⟨a, b, d, mem_old e⟩
theorem Gr.app {c : Nat} {m m' : Mem} (h : Gr c m m') (t : Mem) : Gr c m (m' ++ t) := ⟨by have := h.len; simp; omega, h.well.app t, fun n hn hl => by
  rw [List.getElem?_append_left (Nat.lt_of_lt_of_le hl h.len)]; exact h.old n hn hl⟩
theorem Gr.get {c n : Nat} {m m' : Mem} {x : Cell} (h : Gr c m m') (hn : n ≠ c) (e : m[n]? = some x) : m'[n]? = some x := by
  rw [h.old n hn (List.getElem?_eq_some_iff.mp e).1, e]
theorem Gr.from {c : Nat} {m m' : Mem} (t : Mem) (h : Gr c (m ++ t) m') : Gr c m m' := ⟨by have := h.len; simp at this; omega, h.well, fun n hn hl => by
  rw [h.old n hn (by simp; omega), List.getElem?_append_left hl]⟩
theorem Gr.set {c : Nat} {m : Mem} (a b d : Int) (h : Well c m) : Gr c m (m.set c (.lst [.int a, .int b, .int d])) := by
  obtain ⟨_, _, _, e⟩ := h
  have hl := (List.getElem?_eq_some_iff.mp e).1
  refine ⟨by simp, ⟨a, b, d, by rw [List.getElem?_set_self hl]⟩, fun n hn _ => by rw [List.getElem?_set_ne (fun z => hn z.symm)]⟩
theorem at3_0 (x y z : U) : atI [x, y, z] 0 = some x := rfl
theorem at3_1 (x y z : U) : atI [x, y, z] 1 = some y := rfl
theorem at3_2 (x y z : U) : atI [x, y, z] 2 = some z := rfl
theorem ix3_0 : ixN 3 0 = some 0 := rfl
theorem ix3_2 : ixN 3 2 = some 2 := rfl
theorem evJ :
    (∀ f ρ m, dLenSet f ρ m = (f ρ m).bind fun u m1 => match u with | .tup us => (match nums us with | some ns => if ns.length ≤ 1000 then .ok (.int (dcount ns : Nat)) m1 else .bad | none => .bad) | _ => .bad) ∧
    (∀ f ρ m, dLstRg f ρ m = (f ρ m).bind fun u m1 => match u with | .int n => if -4611686018427387904 ≤ (0 : Int) ∧ (0 : Int) < 4611686018427387904 ∧ -4611686018427387904 ≤ n ∧ n < 4611686018427387904 ∧ (n - 0).toNat ≤ 16777216 then .ok (.ref m1.length) (m1 ++ [.lst (runI 0 (n - 0).toNat)]) else .bad | _ => .bad) := by
  refine ⟨fun f ρ m => ?_, fun f ρ m => ?_⟩
  · unfold dLenSet
    congr 1
  · unfold dLstRg
    congr 1; funext u m1
    cases u with
    | int n =>
      show ofO (if -4611686018427387904 ≤ (0 : Int) ∧ (0 : Int) < 4611686018427387904 ∧ -4611686018427387904 ≤ n ∧ n < 4611686018427387904 ∧ (n - 0).toNat ≤ 16777216 then some (U.ref m1.length, m1 ++ [.lst (runI 0 (n - 0).toNat)]) else none) = _
      split <;> rename_i h <;> simp only [h, if_true, if_false, ofO]
      · simp
    | _ => rfl
theorem nums_ints (l : List Int) : nums (l.map U.int) = some l := by
  induction l with
  | nil => rfl
  | cons a r ih => show (nums (r.map U.int)).map _ = _; rw [ih]; rfl
theorem bools_map {α : Type} (p : α → Bool) : ∀ l : List α, bools (l.map fun x => .bl (p x)) = some (l.map p)
  | [] => rfl
  | x :: l => by
    show (bools (l.map fun x => U.bl (p x))).map _ = _
    rw [bools_map p l]; rfl
/-- what is walked -/
theorem evI :
    (∀ f ρ m, iAny f ρ m = (f ρ m).bind fun u m1 => ofB (srcA m1 u) m1) ∧
    (∀ f ρ m, iRev f ρ m = (f ρ m).bind fun u m1 => ofB (srcR m1 u) m1) ∧
    (∀ f ρ m, iEnum f ρ m = (f ρ m).bind fun us m1 => match us with | [u] => ofB (srcE m1 u) m1 | _ => .bad) ∧
    (∀ f ρ m, iRange1 f ρ m = (f ρ m).bind fun us m1 => match us with | [.int j] => if -4611686018427387904 ≤ j ∧ j < 4611686018427387904 then .ok (.fix (runI 0 j.toNat)) m1 else .bad | _ => .bad) ∧
    (∀ f ρ m, iRevR1 f ρ m = (f ρ m).bind fun u m1 => match u with | .int j => if -4611686018427387904 ≤ j ∧ j < 4611686018427387904 then .ok (.fix (runI 0 (j - 0).toNat).reverse) m1 else .bad | _ => .bad) ∧
    (∀ n m, oAll [.ref n] m = match m[n]? with | some (.lst us) => (match bools us with | some bs => some (.bl (bs.all id), m) | none => none) | _ => none) ∧
    (∀ k nx g t e ρ m, compR g t e ρ (.dyn k nx) m = compN nx g t e ρ k 0 m) ∧
    (∀ k nx g b, forR g b (.dyn k nx) = forN nx g b k 0) := by
  refine ⟨fun _ _ _ => rfl, fun _ _ _ => rfl, fun _ _ _ => rfl, fun _ _ _ => rfl, fun _ _ _ => rfl, fun n m => ?_, fun _ _ _ _ _ _ _ => rfl, fun _ _ _ _ => rfl⟩
  show (match m[n]? with | some (.lst us) => (bools us).map fun bs : List Bool => (U.bl (bs.all id), m) | _ => none) = _
  cases m[n]? with
  | none => rfl
  | some c =>
    cases c with
    | lst us => show (bools us).map (fun bs : List Bool => (U.bl (bs.all id), m)) = (match bools us with | some bs => some (.bl (bs.all id), m) | none => none); cases bools us <;> rfl
    | _ => rfl
end Ev

set_option Elab.async false
set_option linter.all false
set_option maxRecDepth 100000
set_option maxHeartbeats 4000000
namespace My
open PySem L2 Ev RZ RT
def b_is_number : SD :=
  (sSeq (sIf (tO (tN (tTru (dIsi .int (dSlot 0)))) (tTru (dIsi .bool (dSlot 0)))) (sRet (dC (.bl false))) sNext)
  (sRet (dChain oLe oLe (dB oMax2 (lCons (dSlot 1) (lCons (dUn oNeg (dC (.int 999999999999999999999999999999999999999999999999999999999999))) lNil))) (dSlot 0) (dB oMin2 (lCons (dSlot 2) (lCons (dC (.int 999999999999999999999999999999999999999999999999999999999999)) lNil))))))
def d_is_number : List U → Mem → R U := runB 3 3 b_is_number
def b_inverse : SD :=
  (sRet (dB oPow3 (lCons (dB oInt (lCons (dSlot 0) lNil)) (lCons (dC (.int 995)) (lCons (dC (.int 997)) lNil)))))
def d_inverse : List U → Mem → R U := runB 1 1 b_inverse
def b_trimmed : SD :=
  (sSeq (sAsg (dLc (iAny (dSlot 0)) (gName 2) tYesU (dOp oMod (dSlot 2) (dC (.int 997))) [2]) (gName 1))
  (sSeq (sWhile (tAn (tTru (dSlot 1)) (tBl (dOp oEq (dOp oIx (dSlot 1) (dUn oNeg (dC (.int 1)))) (dC (.int 0))))) (sExpr (dM0 .list oPop (dSlot 1))))
  (sRet (dB oToTup (lCons (dSlot 1) lNil)))))
def d_trimmed : List U → Mem → R U := runB 3 1 b_trimmed
def b_evaluated : SD :=
  (sSeq (sAsg (dC (.int 0)) (gName 2))
  (sSeq (sFor (iRev (dSlot 0)) (gName 3) (sAsg (dOp oMod (dOp oAdd (dOp oMulG (dSlot 2) (dSlot 1)) (dSlot 3)) (dC (.int 997))) (gName 2)))
  (sRet (dSlot 2))))
def d_evaluated : List U → Mem → R U := runB 4 2 b_evaluated
def b_products_without : SD :=
  (sSeq (sAsg (dTup (lCons (dLst (lCons (dC (.int 1)) lNil)) (lCons (dLst (lCons (dC (.int 1)) lNil)) lNil))) (gTup 2 (gCons (gName 1) (gCons (gName 2) gNil))))
  (sSeq (sFor (iAny (dSlot 0)) (gName 3) (sExpr (dM .list oAppend (dSlot 1) (lCons (dOp oMod (dOp oMulG (dOp oIx (dSlot 1) (dUn oNeg (dC (.int 1)))) (dSlot 3)) (dC (.int 997))) lNil))))
  (sSeq (sFor (iRev (dSlot 0)) (gName 3) (sExpr (dM .list oAppend (dSlot 2) (lCons (dOp oMod (dOp oMulG (dOp oIx (dSlot 2) (dUn oNeg (dC (.int 1)))) (dSlot 3)) (dC (.int 997))) lNil))))
  (sSeq (sAsg (dOp oSub (dB oLen (lCons (dSlot 0) lNil)) (dC (.int 1))) (gName 4))
  (sRet (dLc (iRange1 (lCons (dB oLen (lCons (dSlot 0) lNil)) lNil)) (gName 5) tYesU (dOp oMod (dOp oMulG (dOp oIx (dSlot 1) (dSlot 5)) (dOp oIx (dSlot 2) (dOp oSub (dSlot 4) (dSlot 5)))) (dC (.int 997))) [5]))))))
def d_products_without : List U → Mem → R U := runB 6 1 b_products_without
def b_law_churn : SD :=
  (sSeq (sAsg (dIf (tBl (dOp oLt (dSlot 1) (dB oLen (lCons (dSlot 0) lNil)))) (dB oInt (lCons (dOp oIx (dSlot 0) (dSlot 1)) lNil)) (dOp oAdd (dOp oMulG (dC (.int 223)) (dSlot 1)) (dC (.int 101)))) (gName 2))
  (sSeq (sAsg (dOp oMod (dB oInt (lCons (dB oAbs (lCons (dSlot 2) lNil)) lNil)) (dOp oMulG (dOp oPow (dC (.int 10)) (dC (.int 54))) (dOp oPow (dC (.int 10)) (dC (.int 58))))) (gName 3))
  (sSeq (sAsg (dOp oAdd (dOp oAdd (dOp oAdd (dOp oMulG (dOp oMod (dSlot 3) (dC (.int 2305843009213693907))) (dC (.int 79))) (dOp oMulG (dC (.int 1213)) (dSlot 1))) (dOp oMulG (dC (.int 43)) (dB oInt (lCons (dOp oLt (dSlot 2) (dC (.int 0))) lNil)))) (dC (.int 37))) (gName 4))
  (sRet (dLst (lCons (dB oMax2 (lCons (dC (.int 0)) (lCons (dOp oSub (dSlot 3) (dOp oPow (dC (.int 10)) (dC (.int 16)))) lNil))) (lCons (dOp oMod (dB oInt (lCons (dSlot 4) lNil)) (dC (.int 1152921504606846883))) (lCons (dC (.int 0)) lNil))))))))
def d_law_churn : List U → Mem → R U := runB 5 2 b_law_churn
def b_law_ladle : SD :=
  (sSeq (sIf (tBl (dOp oGt (dOp oIx (dSlot 0) (dC (.int 0))) (dC (.int 0)))) (sSeq (sAsg (dOp oMod (dB oInt (lCons (dOp oIx (dSlot 0) (dC (.int 0))) lNil)) (dSlot 1)) (gName 2))
  (sSeq (sAsg (dOp oDiv (dOp oIx (dSlot 0) (dC (.int 0))) (dSlot 1)) (gSub oSetL (dSlot 0) (dC (.int 0))))
  (sRet (dSlot 2)))) sNext)
  (sSeq (sAsg (dOp oAdd (dOp oIx (dSlot 0) (dC (.int 2))) (dC (.int 1))) (gSub oSetL (dSlot 0) (dC (.int 2))))
  (sSeq (sAsg (dOp oMod (dB oInt (lCons (dOp oAdd (dOp oIx (dSlot 0) (dC (.int 1))) (dOp oMulG (dC (.int 49979693)) (dOp oIx (dSlot 0) (dC (.int 2))))) lNil)) (dC (.int 2305843009213693951))) (gName 3))
  (sSeq (sAsg (dOp oAdd (dOp oMulG (dOp oMod (dB oInt (lCons (dOp oAdd (dOp oMulG (dSlot 3) (dSlot 3)) (dOp oMulG (dC (.int 107)) (dOp oIx (dSlot 0) (dC (.int 2))))) lNil)) (dC (.int 2305843009213693921))) (dC (.int 32452843))) (dSlot 3)) (gName 4))
  (sRet (dOp oMod (dB oInt (lCons (dOp oDiv (dSlot 4) (dC (.int 65543))) lNil)) (dSlot 1)))))))
def d_law_ladle : List U → Mem → R U := runB 5 2 b_law_ladle
def b_law_trim : SD :=
  (sSeq (sAsg (dB oToLst (lCons (dSlot 0) lNil)) (gName 1))
  (sSeq (sWhile (tAn (tBl (dOp oNe (dSlot 1) (dLst lNil))) (tBl (dOp oEq (dOp oIx (dSlot 1) (dUn oNeg (dC (.int 1)))) (dC (.int 0))))) (sExpr (dM0 .list oPop (dSlot 1))))
  (sRet (dB oToTup (lCons (dSlot 1) lNil)))))
def d_law_trim : List U → Mem → R U := runB 2 1 b_law_trim
def b_law_value : SD :=
  (sSeq (sAsg (dTup (lCons (dC (.int 0)) (lCons (dC (.int 1)) lNil))) (gTup 2 (gCons (gName 2) (gCons (gName 3) gNil))))
  (sSeq (sFor (iAny (dSlot 0)) (gName 4) (sPar 2 3 (lCons (dOp oAdd (dSlot 2) (dOp oMulG (dSlot 4) (dSlot 3))) (lCons (dOp oMod (dB oInt (lCons (dOp oMulG (dSlot 3) (dSlot 1)) lNil)) (dC (.int 997))) lNil))))
  (sRet (dOp oMod (dB oInt (lCons (dSlot 2) lNil)) (dC (.int 997))))))
def d_law_value : List U → Mem → R U := runB 5 2 b_law_value
def b_law_back : SD :=
  (sSeq (sAsg (dTup (lCons (dC (.int 997)) (lCons (dOp oMod (dB oInt (lCons (dSlot 0) lNil)) (dC (.int 997))) (lCons (dC (.int 0)) (lCons (dC (.int 1)) lNil))))) (gTup 4 (gCons (gName 1) (gCons (gName 2) (gCons (gName 3) (gCons (gName 4) gNil))))))
  (sSeq (sWhile (tBl (dOp oNe (dSlot 2) (dC (.int 1)))) (sSeq (sAsg (dOp oDiv (dSlot 1) (dSlot 2)) (gName 5))
  (sSeq (sPar 1 2 (lCons (dSlot 2) (lCons (dOp oSub (dSlot 1) (dOp oMulG (dSlot 5) (dSlot 2))) lNil)))
  (sPar 3 4 (lCons (dSlot 4) (lCons (dOp oSub (dSlot 3) (dOp oMulG (dSlot 5) (dSlot 4))) lNil))))))
  (sRet (dOp oMod (dB oInt (lCons (dSlot 4) lNil)) (dC (.int 997))))))
def d_law_back : List U → Mem → R U := runB 6 1 b_law_back
def b_check_number : SD :=
  (sIf (tN (tTru (dCall d_is_number (lCons (dSlot 0) (lCons (dSlot 1) (lCons (dSlot 2) lNil)))))) sBad sNext)
def d_check_number : List U → Mem → R U := runB 3 3 b_check_number
def b_is_cell : SD :=
  (sRet (dCall d_is_number (lCons (dSlot 0) (lCons (dC (.int 0)) (lCons (dC (.int 996)) lNil)))))
def d_is_cell : List U → Mem → R U := runB 1 1 b_is_cell
def b_combined : SD :=
  (sSeq (sAsg (dB oMax2 (lCons (dB oLen (lCons (dSlot 0) lNil)) (lCons (dB oLen (lCons (dSlot 1) lNil)) lNil))) (gName 3))
  (sSeq (sAsg (dOp oAdd (dB oToLst (lCons (dSlot 0) lNil)) (dOp oMulG (dLst (lCons (dC (.int 0)) lNil)) (dOp oSub (dSlot 3) (dB oLen (lCons (dSlot 0) lNil))))) (gName 4))
  (sSeq (sFor (iEnum (lCons (dSlot 1) lNil)) (gTup 2 (gCons (gName 5) (gCons (gName 6) gNil))) (sAugS oGetL oIAdd oSetL (dSlot 4) (dSlot 5) (dOp oMulG (dSlot 2) (dSlot 6))))
  (sRet (dCall d_trimmed (lCons (dSlot 4) lNil))))))
def d_combined : List U → Mem → R U := runB 7 3 b_combined
def b_multiplied : SD :=
  (sSeq (sAsg (dOp oMulG (dLst (lCons (dC (.int 0)) lNil)) (dOp oAdd (dB oLen (lCons (dSlot 0) lNil)) (dB oLen (lCons (dSlot 1) lNil)))) (gName 2))
  (sSeq (sFor (iEnum (lCons (dSlot 0) lNil)) (gTup 2 (gCons (gName 3) (gCons (gName 4) gNil))) (sFor (iEnum (lCons (dSlot 1) lNil)) (gTup 2 (gCons (gName 5) (gCons (gName 6) gNil))) (sAugS oGetL oIAdd oSetL (dSlot 2) (dOp oAdd (dSlot 3) (dSlot 5)) (dOp oMulG (dSlot 4) (dSlot 6)))))
  (sRet (dCall d_trimmed (lCons (dSlot 2) lNil)))))
def d_multiplied : List U → Mem → R U := runB 7 2 b_multiplied
def b_place_weights : SD :=
  (sSeq (sAsg (dLst lNil) (gName 1))
  (sSeq (sFor (iAny (dSlot 0)) (gName 2) (sSeq (sAsg (dC (.int 1)) (gName 3))
  (sSeq (sFor (iAny (dSlot 0)) (gName 4) (sIf (tBl (dOp oNe (dSlot 4) (dSlot 2))) (sAsg (dOp oMod (dOp oMulG (dSlot 3) (dOp oSub (dSlot 2) (dSlot 4))) (dC (.int 997))) (gName 3)) sNext))
  (sExpr (dM .list oAppend (dSlot 1) (lCons (dCall d_inverse (lCons (dSlot 3) lNil)) lNil))))))
  (sRet (dSlot 1))))
def d_place_weights : List U → Mem → R U := runB 5 1 b_place_weights
def b_numbers_by : SD :=
  (sSeq (sAsg (dCall d_products_without (lCons (dLc (iAny (dSlot 0)) (gName 4) tYesU (dOp oMod (dOp oSub (dSlot 2) (dSlot 4)) (dC (.int 997))) [4]) lNil)) (gName 3))
  (sRet (dB oToTup (lCons (dLc (iZip (lCons (dSlot 1) (lCons (dSlot 3) lNil))) (gTup 2 (gCons (gName 5) (gCons (gName 6) gNil))) tYesU (dOp oMod (dOp oMulG (dSlot 5) (dSlot 6)) (dC (.int 997))) [5, 6]) lNil))))
def d_numbers_by : List U → Mem → R U := runB 7 3 b_numbers_by
def b_law_spoon : SD :=
  (sRet (dOp oIx (dSlot 1) (dCall d_law_ladle (lCons (dSlot 0) (lCons (dB oLen (lCons (dSlot 1) lNil)) lNil)))))
def d_law_spoon : List U → Mem → R U := runB 2 2 b_law_spoon
def b_law_unlike : SD :=
  (sSeq (sPar 3 4 (lCons (dLstRg (dSlot 2)) (lCons (dLst lNil) lNil)))
  (sSeq (sFor (iRange1 (lCons (dSlot 1) lNil)) (gName 5) (sExpr (dM .list oAppend (dSlot 4) (lCons (dM .list oPop (dSlot 3) (lCons (dCall d_law_ladle (lCons (dSlot 0) (lCons (dB oLen (lCons (dSlot 3) lNil)) lNil))) lNil)) lNil))))
  (sRet (dB oToTup (lCons (dSlot 4) lNil)))))
def d_law_unlike : List U → Mem → R U := runB 6 3 b_law_unlike
def b_law_times : SD :=
  (sSeq (sAsg (dOp oMulG (dLst (lCons (dC (.int 0)) lNil)) (dOp oAdd (dB oLen (lCons (dSlot 0) lNil)) (dB oLen (lCons (dSlot 1) lNil)))) (gName 2))
  (sSeq (sFor (iEnum (lCons (dSlot 0) lNil)) (gTup 2 (gCons (gName 3) (gCons (gName 4) gNil))) (sFor (iEnum (lCons (dSlot 1) lNil)) (gTup 2 (gCons (gName 5) (gCons (gName 6) gNil))) (sAsg (dOp oMod (dB oInt (lCons (dOp oAdd (dOp oIx (dSlot 2) (dOp oAdd (dSlot 3) (dSlot 5))) (dOp oMulG (dSlot 4) (dSlot 6))) lNil)) (dC (.int 997))) (gSub oSetL (dSlot 2) (dOp oAdd (dSlot 3) (dSlot 5))))))
  (sRet (dCall d_law_trim (lCons (dSlot 2) lNil)))))
def d_law_times : List U → Mem → R U := runB 7 2 b_law_times
def b_law_plus : SD :=
  (sSeq (sAsg (dB oMax2 (lCons (dB oLen (lCons (dSlot 0) lNil)) (lCons (dB oLen (lCons (dSlot 1) lNil)) lNil))) (gName 2))
  (sSeq (sAsg (dOp oAdd (dSlot 0) (dOp oMulG (dTup (lCons (dC (.int 0)) lNil)) (dOp oSub (dSlot 2) (dB oLen (lCons (dSlot 0) lNil))))) (gName 3))
  (sSeq (sAsg (dOp oAdd (dSlot 1) (dOp oMulG (dTup (lCons (dC (.int 0)) lNil)) (dOp oSub (dSlot 2) (dB oLen (lCons (dSlot 1) lNil))))) (gName 4))
  (sRet (dCall d_law_trim (lCons (dLc (iRange1 (lCons (dSlot 2) lNil)) (gName 5) tYesU (dOp oMod (dB oInt (lCons (dOp oAdd (dOp oIx (dSlot 3) (dSlot 5)) (dOp oIx (dSlot 4) (dSlot 5))) lNil)) (dC (.int 997))) [5]) lNil))))))
def d_law_plus : List U → Mem → R U := runB 6 2 b_law_plus
def b_is_cells : SD :=
  (sRet (dAnd (dIsi .tuple (dSlot 0)) (dB oAll (lCons (dLc (iAny (dSlot 0)) (gName 1) tYesU (dCall d_is_cell (lCons (dSlot 1) lNil)) [1]) lNil))))
def d_is_cells : List U → Mem → R U := runB 2 1 b_is_cells
def b_with_roots : SD :=
  (sSeq (sAsg (dTup (lCons (dC (.int 1)) lNil)) (gName 1))
  (sSeq (sFor (iAny (dSlot 0)) (gName 2) (sAsg (dCall d_multiplied (lCons (dSlot 1) (lCons (dTup (lCons (dUn oNeg (dSlot 2)) (lCons (dC (.int 1)) lNil))) lNil))) (gName 1)))
  (sRet (dSlot 1))))
def d_with_roots : List U → Mem → R U := runB 3 1 b_with_roots
def b_interpolated : SD :=
  (sSeq (sAsg (dTup (lCons (dTup lNil) (lCons (dTup (lCons (dC (.int 1)) lNil)) lNil))) (gTup 2 (gCons (gName 1) (gCons (gName 2) gNil))))
  (sSeq (sFor (iAny (dSlot 0)) (gTup 2 (gCons (gName 3) (gCons (gName 4) gNil))) (sSeq (sAsg (dOp oMulG (dOp oSub (dSlot 4) (dCall d_evaluated (lCons (dSlot 1) (lCons (dSlot 3) lNil)))) (dCall d_inverse (lCons (dCall d_evaluated (lCons (dSlot 2) (lCons (dSlot 3) lNil))) lNil))) (gName 5))
  (sSeq (sAsg (dCall d_combined (lCons (dSlot 1) (lCons (dSlot 2) (lCons (dSlot 5) lNil)))) (gName 1))
  (sAsg (dCall d_multiplied (lCons (dSlot 2) (lCons (dTup (lCons (dUn oNeg (dSlot 3)) (lCons (dC (.int 1)) lNil))) lNil))) (gName 2)))))
  (sRet (dSlot 1))))
def d_interpolated : List U → Mem → R U := runB 6 1 b_interpolated
def b_law_cell : SD :=
  (sRet (dCall d_law_spoon (lCons (dSlot 0) (lCons (dLst (lCons (dC (.int 0)) (lCons (dC (.int 1)) (lCons (dC (.int 2)) (lCons (dC (.int 3)) (lCons (dC (.int 996)) (lCons (dC (.int 498)) (lCons (dCall d_law_ladle (lCons (dSlot 0) (lCons (dC (.int 997)) lNil))) (lCons (dCall d_law_ladle (lCons (dSlot 0) (lCons (dC (.int 997)) lNil))) lNil))))))))) lNil))))
def d_law_cell : List U → Mem → R U := runB 1 1 b_law_cell
def b_law_through : SD :=
  (sSeq (sAsg (dTup lNil) (gName 1))
  (sSeq (sFor (iAny (dSlot 0)) (gTup 2 (gCons (gName 2) (gCons (gName 3) gNil))) (sSeq (sPar 4 5 (lCons (dTup (lCons (dSlot 3) lNil)) (lCons (dC (.int 1)) lNil)))
  (sSeq (sFor (iAny (dSlot 0)) (gTup 2 (gCons (gName 6) (gCons (gName 7) gNil))) (sIf (tBl (dOp oNe (dSlot 6) (dSlot 2))) (sSeq (sAsg (dCall d_law_times (lCons (dSlot 4) (lCons (dTup (lCons (dOp oMod (dB oInt (lCons (dOp oSub (dC (.int 0)) (dSlot 6)) lNil)) (dC (.int 997))) (lCons (dC (.int 1)) lNil))) lNil))) (gName 4))
  (sAsg (dOp oMod (dB oInt (lCons (dOp oMulG (dSlot 5) (dOp oSub (dSlot 2) (dSlot 6))) lNil)) (dC (.int 997))) (gName 5))) sNext))
  (sAsg (dCall d_law_plus (lCons (dSlot 1) (lCons (dCall d_law_times (lCons (dSlot 4) (lCons (dTup (lCons (dCall d_law_back (lCons (dSlot 5) lNil)) lNil)) lNil))) lNil))) (gName 1)))))
  (sRet (dSlot 1))))
def d_law_through : List U → Mem → R U := runB 8 1 b_law_through
def b_is_poly : SD :=
  (sRet (dAnd (dCall d_is_cells (lCons (dSlot 0) lNil)) (dOr (dOp oEq (dSlot 0) (dTup lNil)) (dOp oNe (dOp oIx (dSlot 0) (dUn oNeg (dC (.int 1)))) (dC (.int 0))))))
def d_is_poly : List U → Mem → R U := runB 1 1 b_is_poly
def b_check_places : SD :=
  (sIf (tO (tN (tTru (dCall d_is_cells (lCons (dSlot 0) lNil)))) (tO (tBl (dOp oGt (dB oLen (lCons (dSlot 0) lNil)) (dC (.int 60)))) (tBl (dOp oNe (dLenSet (dSlot 0)) (dB oLen (lCons (dSlot 0) lNil)))))) sBad sNext)
def d_check_places : List U → Mem → R U := runB 1 1 b_check_places
def b_law_cells : SD :=
  (sRet (dB oToTup (lCons (dLc (iRange1 (lCons (dSlot 1) lNil)) (gName 2) tYesU (dCall d_law_cell (lCons (dSlot 0) lNil)) [2]) lNil)))
def d_law_cells : List U → Mem → R U := runB 3 2 b_law_cells
def b_check_poly : SD :=
  (sIf (tO (tN (tTru (dCall d_is_poly (lCons (dSlot 0) lNil)))) (tBl (dOp oGt (dB oLen (lCons (dSlot 0) lNil)) (dC (.int 60))))) sBad sNext)
def d_check_poly : List U → Mem → R U := runB 1 1 b_check_poly
def b_check_points : SD :=
  (sSeq (sIf (tO (tN (tTru (dIsi .tuple (dSlot 0)))) (tN (tTru (dB oAll (lCons (dLc (iAny (dSlot 0)) (gName 3) tYesU (dAnd (dCall d_is_cells (lCons (dSlot 3) lNil)) (dOp oEq (dB oLen (lCons (dSlot 3) lNil)) (dC (.int 2)))) [3]) lNil))))) sBad sNext)
  (sExpr (dCall d_check_places (lCons (dB oToTup (lCons (dLc (iAny (dSlot 0)) (gTup 2 (gCons (gName 1) (gCons (gName 2) gNil))) tYesU (dSlot 1) [1, 2]) lNil)) lNil))))
def d_check_points : List U → Mem → R U := runB 4 1 b_check_points
def b_none_at : SD :=
  (sSeq (sExpr (dCall d_check_places (lCons (dSlot 0) lNil)))
  (sRet (dCall d_with_roots (lCons (dSlot 0) lNil))))
def d_none_at : List U → Mem → R U := runB 1 1 b_none_at
def b_numbers_at : SD :=
  (sSeq (sExpr (dCall d_check_places (lCons (dSlot 0) lNil)))
  (sSeq (sExpr (dCall d_check_number (lCons (dSlot 1) (lCons (dC (.int 0)) (lCons (dC (.int 996)) lNil)))))
  (sRet (dCall d_numbers_by (lCons (dSlot 0) (lCons (dCall d_place_weights (lCons (dSlot 0) lNil)) (lCons (dSlot 1) lNil)))))))
def d_numbers_at : List U → Mem → R U := runB 2 2 b_numbers_at
def b_law_poly : SD :=
  (sRet (dCall d_law_trim (lCons (dCall d_law_cells (lCons (dSlot 0) (lCons (dCall d_law_ladle (lCons (dSlot 0) (lCons (dOp oAdd (dSlot 1) (dC (.int 1))) lNil))) lNil))) lNil)))
def d_law_poly : List U → Mem → R U := runB 2 2 b_law_poly
def b_value_at : SD :=
  (sSeq (sExpr (dCall d_check_poly (lCons (dSlot 0) lNil)))
  (sSeq (sExpr (dCall d_check_number (lCons (dSlot 1) (lCons (dC (.int 0)) (lCons (dC (.int 996)) lNil)))))
  (sRet (dCall d_evaluated (lCons (dSlot 0) (lCons (dSlot 1) lNil))))))
def d_value_at : List U → Mem → R U := runB 2 2 b_value_at
def b_check_both : SD :=
  (sSeq (sExpr (dCall d_check_poly (lCons (dSlot 0) lNil)))
  (sExpr (dCall d_check_poly (lCons (dSlot 1) lNil))))
def d_check_both : List U → Mem → R U := runB 2 2 b_check_both
def b_through : SD :=
  (sSeq (sExpr (dCall d_check_points (lCons (dSlot 0) lNil)))
  (sRet (dCall d_interpolated (lCons (dSlot 0) lNil))))
def d_through : List U → Mem → R U := runB 1 1 b_through
def b_poly_sum : SD :=
  (sSeq (sExpr (dCall d_check_both (lCons (dSlot 0) (lCons (dSlot 1) lNil))))
  (sRet (dCall d_combined (lCons (dSlot 0) (lCons (dSlot 1) (lCons (dC (.int 1)) lNil))))))
def d_poly_sum : List U → Mem → R U := runB 2 2 b_poly_sum
def b_poly_product : SD :=
  (sSeq (sExpr (dCall d_check_both (lCons (dSlot 0) (lCons (dSlot 1) lNil))))
  (sRet (dCall d_multiplied (lCons (dSlot 0) (lCons (dSlot 1) lNil)))))
def d_poly_product : List U → Mem → R U := runB 2 2 b_poly_product
def b_law_numbers_right : SD :=
  (sSeq (sAsg (dCall d_law_spoon (lCons (dSlot 0) (lCons (dOp oAdd (dLst (lCons (dCall d_law_ladle (lCons (dSlot 0) (lCons (dC (.int 997)) lNil))) lNil)) (dB oToLst (lCons (dSlice (dSlot 1) pNone (pSome (dC (.int 2)))) lNil))) lNil))) (gName 2))
  (sSeq (sAsg (dCall d_numbers_at (lCons (dSlot 1) (lCons (dSlot 2) lNil))) (gName 3))
  (sSeq (sIf (tBl (dOp oNe (dB oLen (lCons (dSlot 3) lNil)) (dB oLen (lCons (dSlot 1) lNil)))) (sRet (dC (.bl false))) sNext)
  (sSeq (sFor (iRange1 (lCons (dC (.int 4)) lNil)) (gName 4) (sSeq (sAsg (dCall d_law_trim (lCons (dCall d_law_cells (lCons (dSlot 0) (lCons (dB oLen (lCons (dSlot 1) lNil)) lNil))) lNil)) (gName 5))
  (sSeq (sAsg (dB oSum (lCons (dLc (iZip (lCons (dSlot 3) (lCons (dSlot 1) lNil))) (gTup 2 (gCons (gName 7) (gCons (gName 8) gNil))) tYesU (dOp oMulG (dSlot 7) (dCall d_law_value (lCons (dSlot 5) (lCons (dSlot 8) lNil)))) [7, 8]) lNil)) (gName 6))
  (sIf (tBl (dOp oNe (dOp oMod (dB oInt (lCons (dSlot 6) lNil)) (dC (.int 997))) (dCall d_law_value (lCons (dSlot 5) (lCons (dSlot 2) lNil))))) (sRet (dC (.bl false))) sNext))))
  (sSeq (sIf (tBl (dOp oIn (dSlot 2) (dSlot 1))) (sRet (dOp oEq (dB oToLst (lCons (dSlot 3) lNil)) (dLc (iAny (dSlot 1)) (gName 8) tYesU (dB oInt (lCons (dOp oEq (dSlot 8) (dSlot 2)) lNil)) [8]))) sNext)
  (sRet (dOp oNe (dCall d_value_at (lCons (dCall d_none_at (lCons (dSlot 1) lNil)) (lCons (dSlot 2) lNil))) (dC (.int 0)))))))))
def d_law_numbers_right : List U → Mem → R U := runB 9 2 b_law_numbers_right
def b_law_through_right : SD :=
  (sSeq (sAsg (dTup (lCons (dCall d_through (lCons (dSlot 1) lNil)) (lCons (dCall d_none_at (lCons (dB oToTup (lCons (dLc (iAny (dSlot 1)) (gName 9) tYesU (dOp oIx (dSlot 9) (dC (.int 0))) [9]) lNil)) lNil)) lNil))) (gTup 2 (gCons (gName 2) (gCons (gName 3) gNil))))
  (sSeq (sIf (tBl (dOp oGt (dB oLen (lCons (dSlot 2) lNil)) (dB oLen (lCons (dSlot 1) lNil)))) (sRet (dC (.bl false))) sNext)
  (sSeq (sIf (tBl (dOp oNe (dLc (iAny (dSlot 1)) (gName 9) (tBl (dOp oNe (dCall d_law_value (lCons (dSlot 2) (lCons (dOp oIx (dSlot 9) (dC (.int 0))) lNil))) (dOp oIx (dSlot 9) (dC (.int 1))))) (dSlot 9) [9]) (dLst lNil))) (sRet (dC (.bl false))) sNext)
  (sSeq (sIf (tO (tBl (dOp oNe (dSlot 2) (dCall d_law_through (lCons (dSlot 1) lNil)))) (tO (tBl (dOp oNe (dB oLen (lCons (dSlot 3) lNil)) (dOp oAdd (dB oLen (lCons (dSlot 1) lNil)) (dC (.int 1))))) (tBl (dOp oNe (dOp oIx (dSlot 3) (dUn oNeg (dC (.int 1)))) (dC (.int 1)))))) (sRet (dC (.bl false))) sNext)
  (sSeq (sAsg (dLc (iAny (dSlot 1)) (gName 9) tYesU (dOp oIx (dSlot 9) (dC (.int 0))) [9]) (gName 4))
  (sSeq (sIf (tBl (dOp oNe (dLc (iRange1 (lCons (dC (.int 997)) lNil)) (gName 6) (tBl (dOp oNe (dOp oEq (dCall d_law_value (lCons (dSlot 3) (lCons (dSlot 6) lNil))) (dC (.int 0))) (dOp oIn (dSlot 6) (dSlot 4)))) (dSlot 6) [6]) (dLst lNil))) (sRet (dC (.bl false))) sNext)
  (sSeq (sAsg (dTup (lCons (dCall d_poly_sum (lCons (dSlot 2) (lCons (dCall d_poly_product (lCons (dSlot 3) (lCons (dCall d_law_poly (lCons (dSlot 0) (lCons (dC (.int 4)) lNil))) lNil))) lNil))) (lCons (dCall d_law_ladle (lCons (dSlot 0) (lCons (dC (.int 997)) lNil))) lNil))) (gTup 2 (gCons (gName 5) (gCons (gName 6) gNil))))
  (sSeq (sIf (tBl (dOp oNe (dLc (iAny (dSlot 1)) (gName 9) (tBl (dOp oNe (dCall d_value_at (lCons (dSlot 5) (lCons (dOp oIx (dSlot 9) (dC (.int 0))) lNil))) (dOp oIx (dSlot 9) (dC (.int 1))))) (dSlot 9) [9]) (dLst lNil))) (sRet (dC (.bl false))) sNext)
  (sSeq (sIf (tBl (dOp oIn (dSlot 6) (dSlot 4))) (sRet (dC (.bl true))) sNext)
  (sSeq (sAsg (dCall d_law_cell (lCons (dSlot 0) lNil)) (gName 7))
  (sSeq (sAsg (dCall d_through (lCons (dOp oAdd (dSlot 1) (dTup (lCons (dTup (lCons (dSlot 6) (lCons (dSlot 7) lNil))) lNil))) lNil)) (gName 8))
  (sRet (dAnd (dOp oEq (dCall d_value_at (lCons (dSlot 8) (lCons (dSlot 6) lNil))) (dSlot 7)) (dOp oEq (dOp oEq (dSlot 8) (dSlot 2)) (dOp oEq (dCall d_value_at (lCons (dSlot 2) (lCons (dSlot 6) lNil))) (dSlot 7))))))))))))))))
def d_law_through_right : List U → Mem → R U := runB 10 2 b_law_through_right
def b_law_right : SD :=
  (sSeq (sAsg (dCall d_law_unlike (lCons (dSlot 0) (lCons (dCall d_law_ladle (lCons (dSlot 0) (lCons (dC (.int 11)) lNil))) (lCons (dCall d_law_spoon (lCons (dSlot 0) (lCons (dLst (lCons (dC (.int 12)) (lCons (dC (.int 997)) lNil))) lNil))) lNil)))) (gName 1))
  (sSeq (sAsg (dB oToTup (lCons (dLc (iAny (dSlot 1)) (gName 3) tYesU (dTup (lCons (dSlot 3) (lCons (dCall d_law_cell (lCons (dSlot 0) lNil)) lNil))) [3]) lNil)) (gName 2))
  (sRet (dAnd (dCall d_law_through_right (lCons (dSlot 0) (lCons (dSlot 2) lNil))) (dCall d_law_numbers_right (lCons (dSlot 0) (lCons (dSlot 1) lNil)))))))
def d_law_right : List U → Mem → R U := runB 4 1 b_law_right
def b_law : SD :=
  (sSeq (sFor (iRange1 (lCons (dB oMax2 (lCons (dC (.int 1)) (lCons (dB oMin2 (lCons (dC (.int 3)) (lCons (dB oLen (lCons (dSlot 0) lNil)) lNil))) lNil))) lNil)) (gName 1) (sIf (tN (tTru (dCall d_law_right (lCons (dCall d_law_churn (lCons (dSlot 0) (lCons (dSlot 1) lNil))) lNil)))) (sRet (dC (.bl false))) sNext))
  (sSeq (sIf (tBl (dOp oNe (dLst (lCons (dCall d_through (lCons (dTup lNil) lNil)) (lCons (dCall d_none_at (lCons (dTup lNil) lNil)) (lCons (dCall d_numbers_at (lCons (dTup lNil) (lCons (dC (.int 4)) lNil))) (lCons (dCall d_through (lCons (dTup (lCons (dTup (lCons (dC (.int 7)) (lCons (dC (.int 0)) lNil))) (lCons (dTup (lCons (dC (.int 9)) (lCons (dC (.int 0)) lNil))) lNil))) lNil)) lNil))))) (dLst (lCons (dTup lNil) (lCons (dTup (lCons (dC (.int 1)) lNil)) (lCons (dTup lNil) (lCons (dTup lNil) lNil))))))) (sRet (dC (.bl false))) sNext)
  (sRet (dOp oEq (dLst (lCons (dCall d_through (lCons (dTup (lCons (dTup (lCons (dC (.int 0)) (lCons (dC (.int 5)) lNil))) (lCons (dTup (lCons (dC (.int 1)) (lCons (dC (.int 7)) lNil))) lNil))) lNil)) (lCons (dCall d_none_at (lCons (dTup (lCons (dC (.int 1)) (lCons (dC (.int 996)) lNil))) lNil)) (lCons (dCall d_numbers_at (lCons (dTup (lCons (dC (.int 0)) (lCons (dC (.int 1)) lNil))) (lCons (dC (.int 2)) lNil))) lNil)))) (dLst (lCons (dTup (lCons (dC (.int 5)) (lCons (dC (.int 2)) lNil))) (lCons (dTup (lCons (dC (.int 996)) (lCons (dC (.int 0)) (lCons (dC (.int 1)) lNil)))) (lCons (dTup (lCons (dC (.int 996)) (lCons (dC (.int 2)) lNil))) lNil))))))))
def d_law : List U → Mem → R U := runB 2 1 b_law
end My

set_option Elab.async false
set_option linter.all false
set_option maxRecDepth 100000
set_option maxHeartbeats 2000000
namespace My
open PySem L2 Ev PM
local macro_rules | `(tactic| walk_at "ev") => `(tactic| simp (disch := first | assumption | omega | simp; done | (simp only [List.length_map, List.length_append, List.length_cons, List.length_nil, List.length_replicate]; omega)) only [runB_e, List.length_cons, List.length_nil, List.length_map, Nat.reduceAdd, Nat.reduceSub, List.reduceReplicate, List.map_cons, List.map_nil, List.cons_append, List.nil_append, List.append_nil, List.set_cons_zero, List.set_cons_succ, List.getElem?_cons_zero, List.getElem?_cons_succ, evB, evX, evS, evO, evR, evR2, evI, evJ, nums_ints, flat_rep, Option.map_some, List.getElem?_append_left, dSlot_d, oMulG_a, oMulG_b, oMod_e, oTup_e, oLst_e, oList_e, oAdd_t, oMulG_t, eqU_tI, eqU_nil, eqU_i, Bool.not_true, Bool.not_false, Bool.false_eq_true, if_true, if_false, if_pos, if_neg, mem_last, mem_setl, mem_mid, mem_setm, at3_0, at3_1, at3_2, ix3_0, ix3_2, decide_eq_true_eq, decide_true, decide_false, and_true, true_and, and_false, false_and, not_true_eq_false, not_false_eq_true, wipeU, *])
theorem p_num (i lo hi : Int) (m : Mem) (h1 : -(999999999999999999999999999999999999999999999999999999999999) ≤ lo) (h2 : hi ≤ 999999999999999999999999999999999999999999999999999999999999) : d_is_number [.int i, .int lo, .int hi] m = .ok (.bl (decide (lo ≤ i ∧ i ≤ hi))) m := by
  unfold d_is_number b_is_number
  by_cases h : lo ≤ i
  · walk_at "ev"
  · walk_at "ev"
theorem p_cell (i : Int) (m : Mem) : d_is_cell [.int i] m = .ok (.bl (decide (0 ≤ i ∧ i ≤ 996))) m := by
  unfold d_is_cell b_is_cell
  have h := p_num i 0 996 m (by decide) (by decide)
  walk_at "ev"
theorem p_checknum (i lo hi : Int) (m : Mem) (h1 : -(999999999999999999999999999999999999999999999999999999999999) ≤ lo) (h2 : hi ≤ 999999999999999999999999999999999999999999999999999999999999) (h3 : lo ≤ i) (h4 : i ≤ hi) : d_check_number [.int i, .int lo, .int hi] m = .ok .non m := by
  unfold d_check_number b_check_number
  have h := p_num i lo hi m h1 h2
  walk_at "ev"
def okC (l : List Int) : Prop := ∀ c ∈ l, 0 ≤ c ∧ c ≤ 996
instance (l : List Int) : Decidable (okC l) := by unfold okC; infer_instance
theorem p_cells (l : List Int) (m : Mem) (hl : l.length ≤ 16777216) : ∃ t, d_is_cells [tI l] m = .ok (.bl (decide (okC l))) (m ++ t) := by
  unfold d_is_cells b_is_cells
  obtain ⟨t, e⟩ := compL_ints (k := 1) (e := dCall d_is_cell (lCons (dSlot 1) lNil)) (ρ := [some (tI l), none]) (P := fun _ => True) (f := fun i => .bl (decide (0 ≤ i ∧ i ≤ 996))) (fun _ _ _ => trivial) l m trivial (by
    intro i hi m _
    refine ⟨[], ?_⟩
    have := p_cell i m
    walk_at "ev")
  have hb := bools_map (fun i : Int => decide (0 ≤ i ∧ i ≤ 996)) l
  walk_at "ev"
  refine ⟨t ++ [.lst (l.map fun i => .bl (decide (0 ≤ i ∧ i ≤ 996)))], ?_⟩
  rw [show ((l.map fun i : Int => decide (0 ≤ i ∧ i ≤ 996)).all id) = decide (okC l) from by
    rw [List.all_map]
    by_cases h : okC l
    · rw [decide_eq_true h, List.all_eq_true]
      intro x hx
      exact decide_eq_true (h x hx)
    · rw [decide_eq_false h]
      refine Bool.eq_false_iff.mpr fun z => h fun c hc => ?_
      rw [List.all_eq_true] at z
      exact of_decide_eq_true (z c hc)]
  simp only [List.append_assoc]
theorem okP.cells {l : List Int} (h : PM.okP l) : okC l := h.1
theorem last_at {l : List Int} (h : l ≠ []) : atI (l.map U.int) (-1) = some (.int (l.getD (l.length - 1) 0)) := by
  have hl : 0 < l.length := pos_of h
  unfold atI ixN
  rw [if_neg (by decide), List.length_map, if_pos (by omega)]
  show (l.map U.int)[(-1 + (l.length : Int)).toNat]? = _
  rw [show (-1 + (l.length : Int)).toNat = l.length - 1 by omega, List.getElem?_map, List.getD_eq_getElem?_getD, List.getElem?_eq_getElem (by omega)]
  rfl
theorem p_poly (l : List Int) (h : PM.okP l) (hl : l.length ≤ 16777216) (m : Mem) : ∃ t, d_is_poly [tI l] m = .ok (.bl true) (m ++ t) := by
  unfold d_is_poly b_is_poly
  obtain ⟨t, e⟩ := p_cells l m hl
  rw [decide_eq_true (okP.cells h)] at e
  refine ⟨t, ?_⟩
  by_cases hn : l = []
  · subst hn; walk_at "ev"
  · have h2 := last_at hn
    have h3 := (h.last hn).1
    walk_at "ev"
theorem p_checkpoly (l : List Int) (h : PM.okP l) (hl : l.length ≤ 60) (m : Mem) : ∃ t, d_check_poly [tI l] m = .ok .non (m ++ t) := by
  unfold d_check_poly b_check_poly
  obtain ⟨t, e⟩ := p_poly l h (by omega) m
  refine ⟨t, ?_⟩
  have h2 : decide (60 < (l.length : Int)) = false := decide_eq_false (by omega)
  walk_at "ev"
theorem p_both (a b : List Int) (ha : PM.okP a) (la : a.length ≤ 60) (hb : PM.okP b) (lb : b.length ≤ 60) (m : Mem) : ∃ t, d_check_both [tI a, tI b] m = .ok .non (m ++ t) := by
  unfold d_check_both b_check_both
  obtain ⟨t, e⟩ := p_checkpoly a ha la m
  obtain ⟨t2, e2⟩ := p_checkpoly b hb lb (m ++ t)
  refine ⟨t ++ t2, ?_⟩
  walk_at "ev"
  simp only [List.append_assoc]
/-- while cells and cells[-1] == 0: cells.pop() -/
theorem nil_or_end (l : List Int) : l = [] ∨ ∃ s a, l = s ++ [a] := by
  rcases List.eq_nil_or_concat l with h | ⟨s, a, h⟩
  · exact .inl h
  · exact .inr ⟨s, a, by rw [h, List.concat_eq_append]⟩
theorem p_trim_loop (u v : Option U) (M : Mem) : ∀ (k : Nat) (l : List Int), l.length < k → whileN (tAn (tTru (dSlot 1)) (tBl (dOp oEq (dOp oIx (dSlot 1) (dUn oNeg (dC (.int 1)))) (dC (.int 0))))) (sExpr (dM0 .list oPop (dSlot 1))) k [u, some (.ref M.length), v] (M ++ [cI l]) = .ok .nx [u, some (.ref M.length), v] (M ++ [cI (trimL l)])
  | 0, l, h => by omega
  | k + 1, l, h => by
    rcases nil_or_end l with e | ⟨s, a, e⟩
    · subst e
      rw [whileN_step (c := false) (m1 := M ++ [cI []]) (by walk_at "ev")]
      simp [trimL]
    · subst e
      have hne : s ++ [a] ≠ [] := by simp
      have h2 := last_at hne
      have hget : (s ++ [a]).getD ((s ++ [a]).length - 1) 0 = a := by simp
      rw [hget] at h2
      have hie : ((s ++ [a]).map U.int).isEmpty = false := by simp
      by_cases ha : a = 0
      · have hpop : oPop (.ref M.length) [] (M ++ [cI (s ++ [a])]) = some (.int a, M ++ [cI s]) := by
          have := oPop_r (n := M.length) (us := s.map U.int) (u := .int a) (m := M ++ [cI (s ++ [a])]) (by rw [mem_last]; simp)
          rw [this, mem_setl]
        subst ha
        rw [whileN_step (c := true) (m1 := M ++ [cI (s ++ [0])]) (by walk_at "ev")]
        have ih := p_trim_loop u v M k s (by simp at h; omega)
        rw [if_pos rfl]
        simp only [evS, evX, evB, dSlot_d, List.getElem?_cons_zero, List.getElem?_cons_succ, isMT_r (mem_last M (cI (s ++ [0]))), if_true, hpop]
        rw [ih, trim_zero]
      · rw [whileN_step (c := false) (m1 := M ++ [cI (s ++ [a])]) (by walk_at "ev")]
        rw [if_neg (by simp), trim_end s ha]
theorem p_trimmed (n : Nat) (l : List Int) (m : Mem) (hm : m[n]? = some (cI l)) (hl : l.length < 1000) : ∃ t, d_trimmed [.ref n] m = .ok (tI (trimL (l.map (· % 997)))) (m ++ t) := by
  unfold d_trimmed b_trimmed
  obtain ⟨t, e⟩ := compN_map (nx := nxL n) (g := gName 2) (e := dOp oMod (dSlot 2) (dC (.int 997))) (ρ := [some (.ref n), none, none]) (P := fun m => m[n]? = some (cI l)) (us := l.map .int) (F := fun u => match u with | .int i => .int (i % 997) | _ => .non) (fun m t h => mem_old h) (fun i m h => nxL_e h i) l.length 0 m hm (by simp) (by
    intro u hu m hm
    obtain ⟨i, hi, rfl⟩ := List.mem_map.mp hu
    refine ⟨[some (.ref n), none, some (.int i)], [], rfl, ?_⟩
    walk_at "ev")
  have e0 : ((l.map U.int).drop 0).map (fun u => match u with | .int i => U.int (i % 997) | _ => .non) = (l.map (· % 997)).map U.int := by
    rw [List.drop_zero, List.map_map, List.map_map]; rfl
  rw [e0] at e
  have hw := p_trim_loop (some (.ref n)) none (m ++ t) 1000000 (l.map (· % 997)) (by simp; omega)
  refine ⟨t ++ [cI (trimL (l.map (· % 997)))], ?_⟩
  walk_at "ev"
  simp only [List.append_assoc]
end My

set_option Elab.async false
set_option linter.all false
set_option maxRecDepth 100000
set_option maxHeartbeats 2000000
namespace My
open PySem L2 Ev PM
local macro_rules | `(tactic| walk_at "ev") => `(tactic| simp (disch := first | assumption | omega | simp; done | (simp only [List.length_map, List.length_append, List.length_cons, List.length_nil, List.length_replicate]; omega)) only [runB_e, List.length_cons, List.length_nil, List.length_map, Nat.reduceAdd, Nat.reduceSub, List.reduceReplicate, List.map_cons, List.map_nil, List.cons_append, List.nil_append, List.append_nil, List.set_cons_zero, List.set_cons_succ, List.getElem?_cons_zero, List.getElem?_cons_succ, evB, evX, evS, evO, evR, evR2, evI, evJ, nums_ints, flat_rep, Option.map_some, List.getElem?_append_left, dSlot_d, oMulG_a, oMulG_b, oMod_e, oTup_e, oLst_e, oList_e, oAdd_t, oMulG_t, eqU_tI, eqU_nil, eqU_i, Bool.not_true, Bool.not_false, Bool.false_eq_true, if_true, if_false, if_pos, if_neg, mem_last, mem_setl, mem_mid, mem_setm, at3_0, at3_1, at3_2, ix3_0, ix3_2, decide_eq_true_eq, decide_true, decide_false, and_true, true_and, and_false, false_and, not_true_eq_false, not_false_eq_true, wipeU, *])
/-- the value, from the last cell on -/
theorem hor_E (x : Int) (l : List Int) : Cg (l.foldr (fun c t => (t * x + c) % 997) 0) (E x l) := by
  induction l with
  | nil => exact Cg.rfl' _
  | cons c r ih =>
    simp only [List.foldr_cons, E]
    refine (Cg.mod _).trans ?_
    have h := (ih.mul (Cg.rfl' x)).add (Cg.rfl' c)
    rw [Int.mul_comm (E x r) x, Int.add_comm (x * E x r) c] at h
    exact h
theorem p_eval_loop (p : Option U) (x : Int) (m : Mem) : ∀ (r : List Int) (tot : Int) (y : Option U), 0 ≤ tot → tot < 997 → (∃ y', forL (gName 3) (sAsg (dOp oMod (dOp oAdd (dOp oMulG (dSlot 2) (dSlot 1)) (dSlot 3)) (dC (.int 997))) (gName 2)) (r.map U.int) [p, some (.int x), some (.int tot), y] m = .ok .nx [p, some (.int x), some (.int (r.foldl (fun t c => (t * x + c) % 997) tot)), y'] m)
  | [], tot, y, _, _ => ⟨y, rfl⟩
  | c :: r, tot, y, h1, h2 => by
    obtain ⟨y', e⟩ := p_eval_loop p x m r ((tot * x + c) % 997) (some (.int c)) (by omega) (by omega)
    refine ⟨y', ?_⟩
    walk_at "ev"
    rfl
theorem p_evaluated (l : List Int) (x : Int) (m : Mem) : ∃ v, 0 ≤ v ∧ v < 997 ∧ Cg v (E x l) ∧ d_evaluated [tI l, .int x] m = .ok (.int v) m := by
  unfold d_evaluated b_evaluated
  obtain ⟨y', e⟩ := p_eval_loop (some (tI l)) x m l.reverse 0 none (by omega) (by omega)
  rw [List.foldl_reverse] at e
  have hb : 0 ≤ l.foldr (fun c t => (t * x + c) % 997) 0 ∧ l.foldr (fun c t => (t * x + c) % 997) 0 < 997 := by
    cases l with
    | nil => simp
    | cons c r => simp only [List.foldr_cons]; omega
  rw [List.map_reverse] at e
  refine ⟨_, hb.1, hb.2, hor_E x l, ?_⟩
  walk_at "ev"
/-- the law's own: power by power -/
theorem p_value_loop (p : Option U) (x : Int) (m : Mem) : ∀ (r : List Int) (f w : Int) (y : Option U), okC r → 0 ≤ w → w < 997 → (∃ y' f' w', Cg f' (f + w * E x r) ∧ forL (gName 4) (sPar 2 3 (lCons (dOp oAdd (dSlot 2) (dOp oMulG (dSlot 4) (dSlot 3))) (lCons (dOp oMod (dB oInt (lCons (dOp oMulG (dSlot 3) (dSlot 1)) lNil)) (dC (.int 997))) lNil))) (r.map U.int) [p, some (.int x), some (.int f), some (.int w), y] m = .ok .nx [p, some (.int x), some (.int f'), some (.int w'), y'] m)
  | [], f, w, y, _, _, _ => ⟨y, f, w, Cg.of (by simp [E]), rfl⟩
  | c :: r, f, w, y, hr, h1, h2 => by
    obtain ⟨y', f', w', hc, e⟩ := p_value_loop p x m r (f + c * w) (w * x % 997) (some (.int c)) (fun d hd => hr d (List.mem_cons_of_mem _ hd)) (by omega) (by omega)
    refine ⟨y', f', w', hc.trans ?_, ?_⟩
    · have h3 : Cg (w * x % 997 * E x r) (w * x * E x r) := (Cg.mod _).mul (Cg.rfl' _)
      refine ((Cg.rfl' (f + c * w)).add h3).trans (Cg.of ?_)
      simp only [E]; grind
    · have hc0 := hr c (List.mem_cons_self ..)
      walk_at "ev"
theorem p_value (l : List Int) (hl : okC l) (x : Int) (m : Mem) : ∃ v, 0 ≤ v ∧ v < 997 ∧ Cg v (E x l) ∧ d_law_value [tI l, .int x] m = .ok (.int v) m := by
  unfold d_law_value b_law_value
  obtain ⟨y', f', w', hc, e⟩ := p_value_loop (some (tI l)) x m l 0 1 none hl (by omega) (by omega)
  refine ⟨f' % 997, by omega, by omega, (Cg.mod _).trans (hc.trans (Cg.of (by omega))), ?_⟩
  walk_at "ev"
theorem p_ltrim_loop (u : Option U) (M : Mem) : ∀ (k : Nat) (l : List Int) (g : Mem), l.length < k → ∃ g', whileN (tAn (tBl (dOp oNe (dSlot 1) (dLst lNil))) (tBl (dOp oEq (dOp oIx (dSlot 1) (dUn oNeg (dC (.int 1)))) (dC (.int 0))))) (sExpr (dM0 .list oPop (dSlot 1))) k [u, some (.ref M.length)] (M ++ cI l :: g) = .ok .nx [u, some (.ref M.length)] (M ++ cI (trimL l) :: g')
  | 0, l, g, h => by omega
  | k + 1, l, g, h => by
    have e1 : (M ++ cI l :: (g ++ [Cell.lst []]))[(M ++ cI l :: g).length]? = some (Cell.lst []) := by
      rw [show M ++ cI l :: (g ++ [Cell.lst []]) = (M ++ cI l :: g) ++ [Cell.lst []] by simp, mem_last]
    have e2 := eqU_rr (mem_mid M (g ++ [Cell.lst []]) (cI l)) (b := []) e1
    have e3 : M ++ cI l :: g ++ [Cell.lst []] = M ++ cI l :: (g ++ [Cell.lst []]) := by simp
    rcases nil_or_end l with e | ⟨s, a, e⟩
    · subst e
      refine ⟨g ++ [Cell.lst []], ?_⟩
      rw [whileN_step (c := false) (m1 := M ++ cI [] :: (g ++ [Cell.lst []])) (by
        walk_at "ev")]
      simp [trimL]
    · subst e
      have hne : s ++ [a] ≠ [] := by simp
      have hd : decide (s ++ [a] = []) = false := by simp
      rw [hd] at e2
      have h2 := last_at hne
      have hget : (s ++ [a]).getD ((s ++ [a]).length - 1) 0 = a := by simp
      rw [hget] at h2
      by_cases ha : a = 0
      · subst ha
        have hpop : oPop (.ref M.length) [] (M ++ cI (s ++ [0]) :: (g ++ [Cell.lst []])) = some (.int 0, M ++ cI s :: (g ++ [Cell.lst []])) := by
          have := oPop_r (n := M.length) (us := s.map U.int) (u := .int 0) (m := M ++ cI (s ++ [0]) :: (g ++ [Cell.lst []])) (by rw [mem_mid]; simp)
          rw [this, mem_setm]
        obtain ⟨g', ih⟩ := p_ltrim_loop u M k s (g ++ [Cell.lst []]) (by simp at h; omega)
        refine ⟨g', ?_⟩
        rw [whileN_step (c := true) (m1 := M ++ cI (s ++ [0]) :: (g ++ [Cell.lst []])) (by
          clear hpop ih
          walk_at "ev")]
        rw [if_pos rfl]
        simp only [evS, evX, evB, dSlot_d, List.getElem?_cons_zero, List.getElem?_cons_succ, isMT_r (mem_mid M (g ++ [Cell.lst []]) (cI (s ++ [0]))), if_true, hpop]
        rw [ih, trim_zero]
      · refine ⟨g ++ [Cell.lst []], ?_⟩
        rw [whileN_step (c := false) (m1 := M ++ cI (s ++ [a]) :: (g ++ [Cell.lst []])) (by
          walk_at "ev")]
        rw [if_neg (by simp), trim_end s ha]
theorem p_law_trim_r (n : Nat) (l : List Int) (m : Mem) (hl : l.length < 1000) (hm : m[n]? = some (cI l)) : ∃ t, d_law_trim [.ref n] m = .ok (tI (trimL l)) (m ++ t) := by
  unfold d_law_trim b_law_trim
  obtain ⟨g', e⟩ := p_ltrim_loop (some (.ref n)) m 1000000 l [] (by omega)
  refine ⟨cI (trimL l) :: g', ?_⟩
  walk_at "ev"
theorem p_law_trim_t (l : List Int) (m : Mem) (hl : l.length < 1000) : ∃ t, d_law_trim [tI l] m = .ok (tI (trimL l)) (m ++ t) := by
  unfold d_law_trim b_law_trim
  obtain ⟨g', e⟩ := p_ltrim_loop (some (tI l)) m 1000000 l [] (by omega)
  refine ⟨cI (trimL l) :: g', ?_⟩
  walk_at "ev"
end My

set_option Elab.async false
set_option linter.all false
set_option maxRecDepth 100000
set_option maxHeartbeats 2000000
namespace My
open PySem L2 Ev PM
local macro_rules | `(tactic| walk_at "ev") => `(tactic| simp (disch := first | assumption | omega | simp; done | (simp only [List.length_map, List.length_append, List.length_cons, List.length_nil, List.length_replicate]; omega)) only [runB_e, List.length_cons, List.length_nil, List.length_map, Nat.reduceAdd, Nat.reduceSub, List.reduceReplicate, List.map_cons, List.map_nil, List.cons_append, List.nil_append, List.append_nil, List.set_cons_zero, List.set_cons_succ, List.getElem?_cons_zero, List.getElem?_cons_succ, evB, evX, evS, evO, evR, evR2, evI, evJ, nums_ints, flat_rep, Option.map_some, List.getElem?_append_left, dSlot_d, oMulG_a, oMulG_b, oMod_e, oTup_e, oLst_e, oList_e, oAdd_t, oMulG_t, eqU_tI, eqU_nil, eqU_i, Bool.not_true, Bool.not_false, Bool.false_eq_true, if_true, if_false, if_pos, if_neg, mem_last, mem_setl, mem_mid, mem_setm, at3_0, at3_1, at3_2, ix3_0, ix3_2, decide_eq_true_eq, decide_true, decide_false, and_true, true_and, and_false, false_and, not_true_eq_false, not_false_eq_true, wipeU, *])
theorem E_take (x : Int) (l : List Int) (i : Nat) (h : i < l.length) : E x (l.take (i + 1)) = E x (l.take i) + l[i] * x ^ i := by
  rw [List.take_succ_eq_append_getElem h, E_append]
  simp only [E, List.length_take]
  rw [show min i l.length = i by omega]; grind
/-- what two polys make -/
structure Made (r : List Int) (n : Nat) (v : Int → Int) : Prop where
  ok : PM.okP r
  len : r.length ≤ n
  val : ∀ x, Cg (E x r) (v x)
theorem made_of {L : List Int} {n : Nat} {v : Int → Int} (hl : L.length ≤ n) (h : ∀ x, Cg (E x L) (v x)) : Made (trimL (L.map (· % 997))) n v := ⟨trim_ok (mod_ok L), by have := trim_len (L.map (· % 997)); simp at this; omega, fun x => by rw [E_trim]; exact (E_mod x L).trans (h x)⟩
theorem made_of' {L : List Int} {n : Nat} {v : Int → Int} (ho : okC L) (hl : L.length ≤ n) (h : ∀ x, Cg (E x L) (v x)) : Made (trimL L) n v := ⟨trim_ok ho, by have := trim_len L; omega, fun x => by rw [E_trim]; exact h x⟩
theorem p_comb_loop (a b c : Option U) (f : Int) (hf : -1000000000 < f) (hf2 : f < 1000000000) (one other : List Int) (hb : okC other) (M : Mem) (L0 : List Int) (hL : other.length ≤ L0.length) :
    ∃ ρ' m', forL (gTup 2 (gCons (gName 5) (gCons (gName 6) gNil))) (sAugS oGetL oIAdd oSetL (dSlot 4) (dSlot 5) (dOp oMulG (dSlot 2) (dSlot 6))) (enumU 0 (other.map .int)) [a, b, some (.int f), c, some (.ref M.length), none, none] (M ++ [cI L0]) = .ok .nx ρ' m' ∧
      ∃ L y z, ρ' = [a, b, some (.int f), c, some (.ref M.length), y, z] ∧ m' = M ++ [cI L] ∧ L.length = L0.length ∧ ∀ x, E x L = E x L0 + f * E x other := by
  obtain ⟨ρ', m', e, h⟩ := forIx (g := gTup 2 (gCons (gName 5) (gCons (gName 6) gNil))) (b := sAugS oGetL oIAdd oSetL (dSlot 4) (dSlot 5) (dOp oMulG (dSlot 2) (dSlot 6))) (us := enumU 0 (other.map .int))
    (fun i ρ m => ∃ L y z, ρ = [a, b, some (.int f), c, some (.ref M.length), y, z] ∧ m = M ++ [cI L] ∧ L.length = L0.length ∧ ∀ x, E x L = E x L0 + f * E x (other.take i))
    (fun i u ρ m hu ⟨L, y, z, h1, h2, h3, h4⟩ => by
      subst h1; subst h2
      obtain ⟨hi, rfl⟩ := enum_at hu
      have hc := hb _ (List.getElem_mem hi)
      have hiL : i < L.length := by omega
      have ha := atI_ints hiL
      have hx := ixN_ints hiL
      refine ⟨[a, b, some (.int f), c, some (.ref M.length), some (.int i), some (.int other[i])], M ++ [cI L], [a, b, some (.int f), c, some (.ref M.length), some (.int i), some (.int other[i])], M ++ [cI (L.set i (L[i] + f * other[i]))], rfl, ?_, _, _, _, rfl, rfl, by simp [h3], fun x => ?_⟩
      · generalize hq : other[i] = q at hc ⊢
        clear h4 hu h3
        walk_at "ev"
        rw [set_ints]
      · rw [E_set x _ L i hiL, h4 x, E_take x other i hi]; grind) _ _ ⟨L0, none, none, rfl, rfl, rfl, fun x => by simp [E]⟩
  refine ⟨ρ', m', e, ?_⟩
  obtain ⟨L, y, z, h1, h2, h3, h4⟩ := h
  rw [enum_len, List.length_map, List.take_length] at h4
  exact ⟨L, y, z, h1, h2, h3, h4⟩
theorem p_combined (one other : List Int) (f : Int) (hf : -1000000000 < f) (hf2 : f < 1000000000) (hb : okC other) (l1 : one.length ≤ 400) (l2 : other.length ≤ 400) (m : Mem) :
    ∃ r t, d_combined [tI one, tI other, .int f] m = .ok (tI r) (m ++ t) ∧ Made r (max one.length other.length) fun x => E x one + f * E x other := by
  unfold d_combined b_combined
  have hmx : (if (other.length : Int) > one.length then (other.length : Int) else one.length) = ((max one.length other.length : Nat) : Int) := by
    split <;> omega
  generalize hN : max one.length other.length = N at hmx
  have hz : ((N : Int) - (one.length : Int)).toNat = N - one.length := by omega
  let Z : List U := List.replicate (N - one.length) (U.int 0)
  have hZ : Z = List.replicate (N - one.length) (U.int 0) := rfl
  have hc : cI (one ++ List.replicate (N - one.length) 0) = Cell.lst (one.map U.int ++ Z) := by rw [hZ]; simp [List.map_replicate]
  obtain ⟨ρ', m', e, L, y, z, h1, h2, h3, h4⟩ := p_comb_loop (some (tI one)) (some (tI other)) (some (.int N)) f hf hf2 one other hb (m ++ [Cell.lst (one.map U.int)] ++ [Cell.lst [U.int 0]] ++ [Cell.lst Z]) (one ++ List.replicate (N - one.length) 0) (by simp; omega)
  subst h1; subst h2
  obtain ⟨t, et⟩ := p_trimmed (m ++ [Cell.lst (one.map U.int)] ++ [Cell.lst [U.int 0]] ++ [Cell.lst Z]).length L (m ++ [Cell.lst (one.map U.int)] ++ [Cell.lst [U.int 0]] ++ [Cell.lst Z] ++ [cI L]) (mem_last _ _) (by rw [h3]; simp; omega)
  refine ⟨trimL (L.map (· % 997)), [Cell.lst (one.map U.int)] ++ [Cell.lst [U.int 0]] ++ [Cell.lst Z] ++ [cI L] ++ t, ?_, ?_⟩
  · rw [hc, hZ] at e
    rw [hZ] at et
    rw [hZ]
    clear h3 h4 hc hZ
    walk_at "ev"
    simp only [List.append_assoc, List.cons_append, List.nil_append]
  · refine made_of (by rw [h3]; simp; omega) fun x => Cg.of ?_
    rw [h4, E_append, E_zeros]; simp
end My

set_option Elab.async false
set_option linter.all false
set_option maxRecDepth 100000
set_option maxHeartbeats 2000000
namespace My
open PySem L2 Ev PM
local macro_rules | `(tactic| walk_at "ev") => `(tactic| simp (disch := first | assumption | omega | simp; done | (simp only [List.length_map, List.length_append, List.length_cons, List.length_nil, List.length_replicate]; omega)) only [runB_e, List.length_cons, List.length_nil, List.length_map, Nat.reduceAdd, Nat.reduceSub, List.reduceReplicate, List.map_cons, List.map_nil, List.cons_append, List.nil_append, List.append_nil, List.set_cons_zero, List.set_cons_succ, List.getElem?_cons_zero, List.getElem?_cons_succ, evB, evX, evS, evO, evR, evR2, evI, evJ, nums_ints, flat_rep, Option.map_some, List.getElem?_append_left, dSlot_d, oMulG_a, oMulG_b, oMod_e, oTup_e, oLst_e, oList_e, oAdd_t, oMulG_t, eqU_tI, eqU_nil, eqU_i, Bool.not_true, Bool.not_false, Bool.false_eq_true, if_true, if_false, if_pos, if_neg, mem_last, mem_setl, mem_mid, mem_setm, at3_0, at3_1, at3_2, ix3_0, ix3_2, decide_eq_true_eq, decide_true, decide_false, and_true, true_and, and_false, false_and, not_true_eq_false, not_false_eq_true, wipeU, *])
def small (l : List Int) : Prop := ∀ c ∈ l, -1000 < c ∧ c < 1000
theorem okC.small {l : List Int} (h : okC l) : small l := fun c hc => by have := h c hc; omega
theorem p_mul_inner (a b : Option U) (pw : Nat) (cell : Int) (hcell : -1000 < cell ∧ cell < 1000) (other : List Int) (hb : small other) (M : Mem) (L0 : List Int) (hL : pw + other.length ≤ L0.length) (y0 z0 : Option U) :
    ∃ ρ' m', forL (gTup 2 (gCons (gName 5) (gCons (gName 6) gNil))) (sAugS oGetL oIAdd oSetL (dSlot 2) (dOp oAdd (dSlot 3) (dSlot 5)) (dOp oMulG (dSlot 4) (dSlot 6))) (enumU 0 (other.map .int)) [a, b, some (.ref M.length), some (.int pw), some (.int cell), y0, z0] (M ++ [cI L0]) = .ok .nx ρ' m' ∧
      ∃ L y z, ρ' = [a, b, some (.ref M.length), some (.int pw), some (.int cell), y, z] ∧ m' = M ++ [cI L] ∧ L.length = L0.length ∧ ∀ x, E x L = E x L0 + cell * x ^ pw * E x other := by
  obtain ⟨ρ', m', e, h⟩ := forIx (g := gTup 2 (gCons (gName 5) (gCons (gName 6) gNil))) (b := sAugS oGetL oIAdd oSetL (dSlot 2) (dOp oAdd (dSlot 3) (dSlot 5)) (dOp oMulG (dSlot 4) (dSlot 6))) (us := enumU 0 (other.map .int))
    (fun i ρ m => ∃ L y z, ρ = [a, b, some (.ref M.length), some (.int pw), some (.int cell), y, z] ∧ m = M ++ [cI L] ∧ L.length = L0.length ∧ ∀ x, E x L = E x L0 + cell * x ^ pw * E x (other.take i))
    (fun i u ρ m hu ⟨L, y, z, h1, h2, h3, h4⟩ => by
      subst h1; subst h2
      obtain ⟨hi, rfl⟩ := enum_at hu
      have hc := hb _ (List.getElem_mem hi)
      have hiL : pw + i < L.length := by omega
      have ha := atI_sum hiL
      have hx := ixN_sum hiL
      refine ⟨[a, b, some (.ref M.length), some (.int pw), some (.int cell), some (.int i), some (.int other[i])], M ++ [cI L], [a, b, some (.ref M.length), some (.int pw), some (.int cell), some (.int i), some (.int other[i])], M ++ [cI (L.set (pw + i) (L[pw + i] + cell * other[i]))], rfl, ?_, _, _, _, rfl, rfl, by simp [h3], fun x => ?_⟩
      · generalize hq : other[i] = q at hc ⊢
        clear h4 hu h3
        walk_at "ev"
        rw [set_ints]
      · rw [E_set x _ L _ hiL, h4 x, E_take x other i hi, Int.pow_add]; grind) _ _ ⟨L0, y0, z0, rfl, rfl, rfl, fun x => by simp [E]⟩
  refine ⟨ρ', m', e, ?_⟩
  obtain ⟨L, y, z, h1, h2, h3, h4⟩ := h
  rw [enum_len, List.length_map, List.take_length] at h4
  exact ⟨L, y, z, h1, h2, h3, h4⟩
theorem p_mul_outer (one other : List Int) (ho : small one) (hb : small other) (M : Mem) (L0 : List Int) (hL : one.length + other.length ≤ L0.length) :
    ∃ ρ' m', forL (gTup 2 (gCons (gName 3) (gCons (gName 4) gNil))) (sFor (iEnum (lCons (dSlot 1) lNil)) (gTup 2 (gCons (gName 5) (gCons (gName 6) gNil))) (sAugS oGetL oIAdd oSetL (dSlot 2) (dOp oAdd (dSlot 3) (dSlot 5)) (dOp oMulG (dSlot 4) (dSlot 6)))) (enumU 0 (one.map .int)) [some (tI one), some (tI other), some (.ref M.length), none, none, none, none] (M ++ [cI L0]) = .ok .nx ρ' m' ∧
      ∃ L p c y z, ρ' = [some (tI one), some (tI other), some (.ref M.length), p, c, y, z] ∧ m' = M ++ [cI L] ∧ L.length = L0.length ∧ ∀ x, E x L = E x L0 + E x one * E x other := by
  obtain ⟨ρ', m', e, h⟩ := forIx (g := gTup 2 (gCons (gName 3) (gCons (gName 4) gNil))) (b := sFor (iEnum (lCons (dSlot 1) lNil)) (gTup 2 (gCons (gName 5) (gCons (gName 6) gNil))) (sAugS oGetL oIAdd oSetL (dSlot 2) (dOp oAdd (dSlot 3) (dSlot 5)) (dOp oMulG (dSlot 4) (dSlot 6)))) (us := enumU 0 (one.map .int))
    (fun i ρ m => ∃ L p c y z, ρ = [some (tI one), some (tI other), some (.ref M.length), p, c, y, z] ∧ m = M ++ [cI L] ∧ L.length = L0.length ∧ ∀ x, E x L = E x L0 + E x (one.take i) * E x other)
    (fun i u ρ m hu ⟨L, p, c, y, z, h1, h2, h3, h4⟩ => by
      subst h1; subst h2
      obtain ⟨hi, rfl⟩ := enum_at hu
      have hc := ho _ (List.getElem_mem hi)
      obtain ⟨ρ2, m2, e, L2, y2, z2, g1, g2, g3, g4⟩ := p_mul_inner (some (tI one)) (some (tI other)) i one[i] hc other hb M L (by omega) y z
      subst g1; subst g2
      refine ⟨[some (tI one), some (tI other), some (.ref M.length), some (.int i), some (.int one[i]), y, z], M ++ [cI L], [some (tI one), some (tI other), some (.ref M.length), some (.int i), some (.int one[i]), y2, z2], M ++ [cI L2], rfl, ?_, _, _, _, _, _, rfl, rfl, by omega, fun x => ?_⟩
      · clear h4 hu h3 g3 g4
        walk_at "ev"
      · rw [g4 x, h4 x, E_take x one i hi]; grind) _ _ ⟨L0, none, none, none, none, rfl, rfl, rfl, fun x => by simp [E]⟩
  refine ⟨ρ', m', e, ?_⟩
  obtain ⟨L, p, c, y, z, h1, h2, h3, h4⟩ := h
  rw [enum_len, List.length_map, List.take_length] at h4
  exact ⟨L, p, c, y, z, h1, h2, h3, h4⟩
theorem p_multiplied (one other : List Int) (ho : small one) (hb : small other) (l1 : one.length ≤ 400) (l2 : other.length ≤ 400) (m : Mem) :
    ∃ r t, d_multiplied [tI one, tI other] m = .ok (tI r) (m ++ t) ∧ Made r (one.length + other.length) fun x => E x one * E x other := by
  unfold d_multiplied b_multiplied
  have hz : ((one.length : Int) + (other.length : Int)).toNat = one.length + other.length := by omega
  have hc : cI (List.replicate (one.length + other.length) 0) = Cell.lst (List.replicate (one.length + other.length) (U.int 0)) := by simp [List.map_replicate]
  obtain ⟨ρ', m', e, L, p, c, y, z, h1, h2, h3, h4⟩ := p_mul_outer one other ho hb (m ++ [Cell.lst [U.int 0]]) (List.replicate (one.length + other.length) 0) (by simp)
  subst h1; subst h2
  rw [List.length_replicate] at h3
  obtain ⟨t, et⟩ := p_trimmed (m ++ [Cell.lst [U.int 0]]).length L (m ++ [Cell.lst [U.int 0]] ++ [cI L]) (mem_last _ _) (by omega)
  refine ⟨trimL (L.map (· % 997)), [Cell.lst [U.int 0]] ++ [cI L] ++ t, ?_, ?_⟩
  · rw [hc] at e
    clear h3 h4 hc
    walk_at "ev"
    simp only [List.append_assoc, List.cons_append, List.nil_append]
  · refine made_of (by omega) fun x => Cg.of ?_
    rw [h4, E_zeros]; simp
end My

set_option Elab.async false
set_option linter.all false
set_option maxRecDepth 100000
set_option maxHeartbeats 2000000
namespace My
open PySem L2 Ev PM
local macro_rules | `(tactic| walk_at "ev") => `(tactic| simp (disch := first | assumption | omega | simp; done | (simp only [List.length_map, List.length_append, List.length_cons, List.length_nil, List.length_replicate]; omega)) only [runB_e, List.length_cons, List.length_nil, List.length_map, Nat.reduceAdd, Nat.reduceSub, List.reduceReplicate, List.map_cons, List.map_nil, List.cons_append, List.nil_append, List.append_nil, List.set_cons_zero, List.set_cons_succ, List.getElem?_cons_zero, List.getElem?_cons_succ, evB, evX, evS, evO, evR, evR2, evI, evJ, nums_ints, flat_rep, Option.map_some, List.getElem?_append_left, dSlot_d, oMulG_a, oMulG_b, oMod_e, oTup_e, oLst_e, oList_e, oAdd_t, oMulG_t, eqU_tI, eqU_nil, eqU_i, Bool.not_true, Bool.not_false, Bool.false_eq_true, if_true, if_false, if_pos, if_neg, mem_last, mem_setl, mem_mid, mem_setm, at3_0, at3_1, at3_2, ix3_0, ix3_2, decide_eq_true_eq, decide_true, decide_false, and_true, true_and, and_false, false_and, not_true_eq_false, not_false_eq_true, wipeU, *])
theorem p_lt_inner (a b : Option U) (pw : Nat) (cell : Int) (hcell : -1000 < cell ∧ cell < 1000) (other : List Int) (hb : small other) (M : Mem) (L0 : List Int) (h0 : okC L0) (hL : pw + other.length ≤ L0.length) (y0 z0 : Option U) :
    ∃ ρ' m', forL (gTup 2 (gCons (gName 5) (gCons (gName 6) gNil))) (sAsg (dOp oMod (dB oInt (lCons (dOp oAdd (dOp oIx (dSlot 2) (dOp oAdd (dSlot 3) (dSlot 5))) (dOp oMulG (dSlot 4) (dSlot 6))) lNil)) (dC (.int 997))) (gSub oSetL (dSlot 2) (dOp oAdd (dSlot 3) (dSlot 5)))) (enumU 0 (other.map .int)) [a, b, some (.ref M.length), some (.int pw), some (.int cell), y0, z0] (M ++ [cI L0]) = .ok .nx ρ' m' ∧
      ∃ L y z, ρ' = [a, b, some (.ref M.length), some (.int pw), some (.int cell), y, z] ∧ m' = M ++ [cI L] ∧ L.length = L0.length ∧ okC L ∧ ∀ x, Cg (E x L) (E x L0 + cell * x ^ pw * E x other) := by
  obtain ⟨ρ', m', e, h⟩ := forIx (g := gTup 2 (gCons (gName 5) (gCons (gName 6) gNil))) (b := sAsg (dOp oMod (dB oInt (lCons (dOp oAdd (dOp oIx (dSlot 2) (dOp oAdd (dSlot 3) (dSlot 5))) (dOp oMulG (dSlot 4) (dSlot 6))) lNil)) (dC (.int 997))) (gSub oSetL (dSlot 2) (dOp oAdd (dSlot 3) (dSlot 5)))) (us := enumU 0 (other.map .int))
    (fun i ρ m => ∃ L y z, ρ = [a, b, some (.ref M.length), some (.int pw), some (.int cell), y, z] ∧ m = M ++ [cI L] ∧ L.length = L0.length ∧ okC L ∧ ∀ x, Cg (E x L) (E x L0 + cell * x ^ pw * E x (other.take i)))
    (fun i u ρ m hu ⟨L, y, z, h1, h2, h3, hk, h4⟩ => by
      subst h1; subst h2
      obtain ⟨hi, rfl⟩ := enum_at hu
      have hc := hb _ (List.getElem_mem hi)
      have hiL : pw + i < L.length := by omega
      have ha := atI_sum hiL
      have hx := ixN_sum hiL
      refine ⟨[a, b, some (.ref M.length), some (.int pw), some (.int cell), some (.int i), some (.int other[i])], M ++ [cI L], [a, b, some (.ref M.length), some (.int pw), some (.int cell), some (.int i), some (.int other[i])], M ++ [cI (L.set (pw + i) ((L[pw + i] + cell * other[i]) % 997))], rfl, ?_, _, _, _, rfl, rfl, by simp [h3], fun c hc' => ?_, fun x => ?_⟩
      · generalize hq : other[i] = q at hc ⊢
        clear h4 hu h3
        walk_at "ev"
        try simp only [Option.map_some, thenO]
        rw [set_ints]
      · rcases List.mem_or_eq_of_mem_set hc' with hc' | hc'
        · exact hk c hc'
        · omega
      · rw [E_set x _ L _ hiL, E_take x other i hi]
        obtain ⟨k, hk'⟩ := h4 x
        refine ⟨k - x ^ (pw + i) * ((L[pw + i] + cell * other[i]) / 997), ?_⟩
        have hm : (L[pw + i] + cell * other[i]) % 997 = L[pw + i] + cell * other[i] - 997 * ((L[pw + i] + cell * other[i]) / 997) := by omega
        rw [hm, hk', Int.pow_add]; grind) _ _ ⟨L0, y0, z0, rfl, rfl, rfl, h0, fun x => Cg.of (by simp [E])⟩
  refine ⟨ρ', m', e, ?_⟩
  obtain ⟨L, y, z, h1, h2, h3, hk, h4⟩ := h
  rw [enum_len, List.length_map, List.take_length] at h4
  exact ⟨L, y, z, h1, h2, h3, hk, h4⟩
theorem p_lt_outer (one other : List Int) (ho : small one) (hb : small other) (M : Mem) (L0 : List Int) (h0 : okC L0) (hL : one.length + other.length ≤ L0.length) :
    ∃ ρ' m', forL (gTup 2 (gCons (gName 3) (gCons (gName 4) gNil))) (sFor (iEnum (lCons (dSlot 1) lNil)) (gTup 2 (gCons (gName 5) (gCons (gName 6) gNil))) (sAsg (dOp oMod (dB oInt (lCons (dOp oAdd (dOp oIx (dSlot 2) (dOp oAdd (dSlot 3) (dSlot 5))) (dOp oMulG (dSlot 4) (dSlot 6))) lNil)) (dC (.int 997))) (gSub oSetL (dSlot 2) (dOp oAdd (dSlot 3) (dSlot 5))))) (enumU 0 (one.map .int)) [some (tI one), some (tI other), some (.ref M.length), none, none, none, none] (M ++ [cI L0]) = .ok .nx ρ' m' ∧
      ∃ L p c y z, ρ' = [some (tI one), some (tI other), some (.ref M.length), p, c, y, z] ∧ m' = M ++ [cI L] ∧ L.length = L0.length ∧ okC L ∧ ∀ x, Cg (E x L) (E x L0 + E x one * E x other) := by
  obtain ⟨ρ', m', e, h⟩ := forIx (g := gTup 2 (gCons (gName 3) (gCons (gName 4) gNil))) (b := sFor (iEnum (lCons (dSlot 1) lNil)) (gTup 2 (gCons (gName 5) (gCons (gName 6) gNil))) (sAsg (dOp oMod (dB oInt (lCons (dOp oAdd (dOp oIx (dSlot 2) (dOp oAdd (dSlot 3) (dSlot 5))) (dOp oMulG (dSlot 4) (dSlot 6))) lNil)) (dC (.int 997))) (gSub oSetL (dSlot 2) (dOp oAdd (dSlot 3) (dSlot 5))))) (us := enumU 0 (one.map .int))
    (fun i ρ m => ∃ L p c y z, ρ = [some (tI one), some (tI other), some (.ref M.length), p, c, y, z] ∧ m = M ++ [cI L] ∧ L.length = L0.length ∧ okC L ∧ ∀ x, Cg (E x L) (E x L0 + E x (one.take i) * E x other))
    (fun i u ρ m hu ⟨L, p, c, y, z, h1, h2, h3, hk, h4⟩ => by
      subst h1; subst h2
      obtain ⟨hi, rfl⟩ := enum_at hu
      have hc := ho _ (List.getElem_mem hi)
      obtain ⟨ρ2, m2, e, L2, y2, z2, g1, g2, g3, gk, g4⟩ := p_lt_inner (some (tI one)) (some (tI other)) i one[i] hc other hb M L hk (by omega) y z
      subst g1; subst g2
      refine ⟨[some (tI one), some (tI other), some (.ref M.length), some (.int i), some (.int one[i]), y, z], M ++ [cI L], [some (tI one), some (tI other), some (.ref M.length), some (.int i), some (.int one[i]), y2, z2], M ++ [cI L2], rfl, ?_, _, _, _, _, _, rfl, rfl, by omega, gk, fun x => ?_⟩
      · clear h4 hu h3 g3 g4
        walk_at "ev"
      · refine (g4 x).trans (((h4 x).add (Cg.rfl' _)).trans (Cg.of ?_))
        rw [E_take x one i hi]; grind) _ _ ⟨L0, none, none, none, none, rfl, rfl, rfl, h0, fun x => Cg.of (by simp [E])⟩
  refine ⟨ρ', m', e, ?_⟩
  obtain ⟨L, p, c, y, z, h1, h2, h3, hk, h4⟩ := h
  rw [enum_len, List.length_map, List.take_length] at h4
  exact ⟨L, p, c, y, z, h1, h2, h3, hk, h4⟩
theorem p_law_times (one other : List Int) (ho : small one) (hb : small other) (l1 : one.length ≤ 400) (l2 : other.length ≤ 400) (m : Mem) :
    ∃ r t, d_law_times [tI one, tI other] m = .ok (tI r) (m ++ t) ∧ Made r (one.length + other.length) fun x => E x one * E x other := by
  unfold d_law_times b_law_times
  have hz : ((one.length : Int) + (other.length : Int)).toNat = one.length + other.length := by omega
  have hc : cI (List.replicate (one.length + other.length) 0) = Cell.lst (List.replicate (one.length + other.length) (U.int 0)) := by simp [List.map_replicate]
  obtain ⟨ρ', m', e, L, p, c, y, z, h1, h2, h3, hk, h4⟩ := p_lt_outer one other ho hb (m ++ [Cell.lst [U.int 0]]) (List.replicate (one.length + other.length) 0) (fun c hc => by rw [List.eq_of_mem_replicate hc]; omega) (by simp)
  subst h1; subst h2
  rw [List.length_replicate] at h3
  obtain ⟨t, et⟩ := p_law_trim_r (m ++ [Cell.lst [U.int 0]]).length L (m ++ [Cell.lst [U.int 0]] ++ [cI L]) (by omega) (mem_last _ _)
  refine ⟨trimL L, [Cell.lst [U.int 0]] ++ [cI L] ++ t, ?_, ?_⟩
  · rw [hc] at e
    clear h3 h4 hc
    walk_at "ev"
    simp only [List.append_assoc, List.cons_append, List.nil_append]
  · refine made_of' hk (by omega) fun x => (h4 x).trans (Cg.of ?_)
    rw [E_zeros]; simp
theorem pad_get (l : List Int) (n i : Nat) : (l ++ List.replicate n 0).getD i 0 = l.getD i 0 := by
  rw [List.getD_eq_getElem?_getD, List.getD_eq_getElem?_getD]
  by_cases h : i < l.length
  · rw [List.getElem?_append_left h]
  · rw [List.getElem?_append_right (by omega), List.getElem?_eq_none (by omega : l.length ≤ i), List.getElem?_replicate]
    split <;> rfl
theorem p_law_plus (one other : List Int) (l1 : one.length ≤ 400) (l2 : other.length ≤ 400) (m : Mem) :
    ∃ r t, d_law_plus [tI one, tI other] m = .ok (tI r) (m ++ t) ∧ Made r (max one.length other.length) fun x => E x one + E x other := by
  unfold d_law_plus b_law_plus
  have hmx : (if (other.length : Int) > one.length then (other.length : Int) else one.length) = ((max one.length other.length : Nat) : Int) := by
    split <;> omega
  generalize hN : max one.length other.length = N at hmx
  have hz1 : ((N : Int) - (one.length : Int)).toNat = N - one.length := by omega
  have hz2 : ((N : Int) - (other.length : Int)).toNat = N - other.length := by omega
  have hzN : ((N : Int)).toNat = N := by omega
  have hp1 : one.map U.int ++ List.replicate (N - one.length) (U.int 0) = (one ++ List.replicate (N - one.length) 0).map U.int := by simp [List.map_replicate]
  have hp2 : other.map U.int ++ List.replicate (N - other.length) (U.int 0) = (other ++ List.replicate (N - other.length) 0).map U.int := by simp [List.map_replicate]
  have hA : (one ++ List.replicate (N - one.length) 0).length = N := by simp; omega
  have hB : (other ++ List.replicate (N - other.length) 0).length = N := by simp; omega
  generalize hAe : one ++ List.replicate (N - one.length) 0 = A at hp1 hA
  generalize hBe : other ++ List.replicate (N - other.length) 0 = B at hp2 hB
  obtain ⟨t, e⟩ := compL_ints (k := 5) (e := dOp oMod (dB oInt (lCons (dOp oAdd (dOp oIx (dSlot 3) (dSlot 5)) (dOp oIx (dSlot 4) (dSlot 5))) lNil)) (dC (.int 997))) (ρ := [some (tI one), some (tI other), some (.int N), some (tI A), some (tI B), none]) (P := fun _ => True) (f := fun i => .int ((A.getD i.toNat 0 + B.getD i.toNat 0) % 997)) (fun _ _ _ => trivial) (upto N) m trivial (by
    intro i hi m _
    obtain ⟨k, hk, rfl⟩ := upto_mem hi
    refine ⟨[], ?_⟩
    have h1 := atI_ints (l := A) (i := k) (by omega)
    have h2 := atI_ints (l := B) (i := k) (by omega)
    have g1 : A.getD ((k : Int)).toNat 0 = A[k]'(by omega) := by rw [show ((k : Int)).toNat = k by omega, List.getD_eq_getElem?_getD, List.getElem?_eq_getElem (by omega)]; rfl
    have g2 : B.getD ((k : Int)).toNat 0 = B[k]'(by omega) := by rw [show ((k : Int)).toNat = k by omega, List.getD_eq_getElem?_getD, List.getElem?_eq_getElem (by omega)]; rfl
    rw [g1, g2]
    clear g1 g2
    generalize hx1 : A[k]'(by omega) = p at h1 ⊢
    generalize hx2 : B[k]'(by omega) = q at h2 ⊢
    clear hx1 hx2 hA hB hAe hBe hp1 hp2 hz1 hz2 hzN hmx hN
    walk_at "ev")
  rw [show (upto N).map (fun i => U.int ((A.getD i.toNat 0 + B.getD i.toNat 0) % 997)) = (((addL 1 A B).map (· % 997)).map U.int) from by
    rw [List.map_map]
    refine List.ext_getElem (by simp [upto_len, addL_len, hA, hB]) fun i h1 h2 => ?_
    rw [List.getElem_map, List.getElem_map, upto_at]
    have := addL_get 1 A B i
    rw [List.getD_eq_getElem?_getD, List.getElem?_eq_getElem (by simpa using h2)] at this
    simp only [Option.getD_some] at this
    show U.int _ = U.int _
    rw [this, Int.one_mul, show ((i : Int)).toNat = i by omega], ← runI_ints] at e
  obtain ⟨t2, e2⟩ := p_law_trim_r (m ++ t).length ((addL 1 A B).map (· % 997)) (m ++ t ++ [cI ((addL 1 A B).map (· % 997))]) (by simp [addL_len, hA, hB]; omega) (mem_last _ _)
  refine ⟨trimL ((addL 1 A B).map (· % 997)), t ++ [cI ((addL 1 A B).map (· % 997))] ++ t2, ?_, ?_⟩
  · have hlen : (((addL 1 A B).map (· % 997)).map U.int).length ≤ 16777216 := by simp [addL_len, hA, hB]; omega
    clear hA hB hAe hBe
    have hol := oList_e (us := ((addL 1 A B).map (· % 997)).map U.int) (m := m ++ t) hlen
    walk_at "ev"
    simp only [List.append_assoc, List.cons_append, List.nil_append]
  · refine made_of (by rw [addL_len, hA, hB]; omega) fun x => Cg.of ?_
    rw [addL_E, ← hAe, ← hBe, E_append, E_append, E_zeros, E_zeros]; simp
end My

set_option Elab.async false
set_option linter.all false
set_option maxRecDepth 100000
set_option maxHeartbeats 2000000
namespace My
open PySem L2 Ev PM
local macro_rules | `(tactic| walk_at "ev") => `(tactic| simp (disch := first | assumption | omega | simp; done | (simp only [List.length_map, List.length_append, List.length_cons, List.length_nil, List.length_replicate]; omega)) only [runB_e, List.length_cons, List.length_nil, List.length_map, Nat.reduceAdd, Nat.reduceSub, List.reduceReplicate, List.map_cons, List.map_nil, List.cons_append, List.nil_append, List.append_nil, List.set_cons_zero, List.set_cons_succ, List.getElem?_cons_zero, List.getElem?_cons_succ, evB, evX, evS, evO, evR, evR2, evI, evJ, nums_ints, flat_rep, Option.map_some, List.getElem?_append_left, dSlot_d, oMulG_a, oMulG_b, oMod_e, oTup_e, oLst_e, oList_e, oAdd_t, oMulG_t, eqU_tI, eqU_nil, eqU_i, Bool.not_true, Bool.not_false, Bool.false_eq_true, if_true, if_false, if_pos, if_neg, mem_last, mem_setl, mem_mid, mem_setm, at3_0, at3_1, at3_2, ix3_0, ix3_2, decide_eq_true_eq, decide_true, decide_false, and_true, true_and, and_false, false_and, not_true_eq_false, not_false_eq_true, wipeU, *])
theorem pow_all : ∀ n : Nat, n < 997 → n ≠ 0 → Builtin.powMod n 995 997 * n % 997 = 1 ∧ Builtin.powMod n 995 997 < 997 := by decide +kernel
theorem p_inverse (c : Int) (h : ¬ Cg c 0) (m : Mem) : ∃ v, d_inverse [.int c] m = .ok (.int v) m ∧ 0 ≤ v ∧ v < 997 ∧ Cg (v * c) 1 := by
  unfold d_inverse b_inverse
  have h0 : c % 997 ≠ 0 := fun z => h (Cg.iff.mpr (by simpa using z))
  have hp := pow_all (c % 997).toNat (by omega) (by omega)
  have e : oPow3 [.int c, .int 995, .int 997] m = some (.int ((Builtin.powMod (c % 997).toNat 995 997 : Nat) : Int), m) := by
    show (if (0 : Int) ≤ 995 ∧ (1 : Int) < 997 then some (U.int ((Builtin.powMod (c % (997 : Int)).toNat 995 997 : Nat) : Int), m) else none) = _
    rw [if_pos (by decide)]
  generalize hv : Builtin.powMod (c % 997).toNat 995 997 = v at hp e
  refine ⟨(v : Int), ?_, by omega, by omega, ?_⟩
  · clear hp hv h h0
    walk_at "ev"
  · have h1 : Cg ((v : Int) * c) ((v : Int) * (c % 997)) := (Cg.rfl' _).mul (Cg.mod c).symm
    refine h1.trans (Cg.iff.mpr ?_)
    have hn : c % 997 = ((c % 997).toNat : Int) := by omega
    rw [hn, ← Int.natCast_mul]
    omega
/-- Euclid's way, as the law goes -/
def backN : Nat → Int → Int → Int → Int → Option Int
  | 0, _, _, _, _ => none
  | k + 1, one, other, first, last => if other = 1 then some last else if 0 < other ∧ other < 1000 ∧ -1000 < last ∧ last < 1000 then backN k other (one - one / other * other) last (first - one / other * last) else none
def backOk (n : Nat) : Bool := match backN 30 997 n 0 1 with
  | some v => decide (v * n % 997 = 1)
  | none => false
theorem back_all : ∀ n : Nat, n < 997 → n ≠ 0 → backOk n = true := by decide +kernel
theorem p_back_loop (c : Option U) (m : Mem) (d : Nat) : ∀ (k : Nat) (one other first last v : Int) (y : Option U), backN k one other first last = some v → ∃ a b e z, whileN (tBl (dOp oNe (dSlot 2) (dC (.int 1)))) (sSeq (sAsg (dOp oDiv (dSlot 1) (dSlot 2)) (gName 5)) (sSeq (sPar 1 2 (lCons (dSlot 2) (lCons (dOp oSub (dSlot 1) (dOp oMulG (dSlot 5) (dSlot 2))) lNil))) (sPar 3 4 (lCons (dSlot 4) (lCons (dOp oSub (dSlot 3) (dOp oMulG (dSlot 5) (dSlot 4))) lNil))))) (k + d) [c, some (.int one), some (.int other), some (.int first), some (.int last), y] m = .ok .nx [c, a, b, e, some (.int v), z] m
  | 0, _, _, _, _, _, _, h => by cases h
  | k + 1, one, other, first, last, v, y, h => by
    rw [backN] at h
    rw [show k + 1 + d = (k + d) + 1 by omega]
    split at h
    · rename_i ho
      cases h
      subst ho
      refine ⟨some (.int one), some (.int 1), some (.int first), y, ?_⟩
      rw [whileN_step (c := false) (m1 := m) (by walk_at "ev"), if_neg (by simp)]
    · rename_i ho
      split at h
      · rename_i hb
        obtain ⟨hb1, hb2, hb3, hb4⟩ := hb
        obtain ⟨a, b, e, z, ih⟩ := p_back_loop c m d k _ _ _ _ v (some (.int (one / other))) h
        refine ⟨a, b, e, z, ?_⟩
        rw [whileN_step (c := true) (m1 := m) (by clear ih h; walk_at "ev"), if_pos rfl]
        have hl : other.natAbs.log2 < 9000 := Nat.lt_trans (log2_lt (k := 10) (by omega) (by decide)) (by decide)
        have hd : oDiv (.int one) (.int other) m = some (.int (one / other), m) := if_pos ⟨hb1, hl⟩
        clear h
        walk_at "ev"
      · cases h
theorem p_back (c : Int) (h : ¬ Cg c 0) (m : Mem) : ∃ v, d_law_back [.int c] m = .ok (.int v) m ∧ 0 ≤ v ∧ v < 997 ∧ Cg (v * c) 1 := by
  unfold d_law_back b_law_back
  have h0 : c % 997 ≠ 0 := fun z => h (Cg.iff.mpr (by simpa using z))
  have hp := back_all (c % 997).toNat (by omega) (by omega)
  have hn : c % 997 = ((c % 997).toNat : Int) := by omega
  unfold backOk at hp
  rw [← hn] at hp
  cases hb : backN 30 997 (c % 997) 0 1 with
  | none => rw [hb] at hp; cases hp
  | some v =>
    rw [hb] at hp
    have hv : v * (c % 997) % 997 = 1 := of_decide_eq_true hp
    obtain ⟨a, b, e, z, hw⟩ := p_back_loop (some (.int c)) m 999970 30 997 (c % 997) 0 1 v none hb
    rw [show (30 + 999970 : Nat) = 1000000 from rfl] at hw
    refine ⟨v % 997, ?_, by omega, by omega, ?_⟩
    · clear hp hv hb hn h h0
      walk_at "ev"
    · exact ((Cg.mod v).mul (Cg.mod c).symm).trans (Cg.iff.mpr (by rw [hv]; rfl))
theorem p_sum (a b : List Int) (ha : PM.okP a) (la : a.length ≤ 60) (hb : PM.okP b) (lb : b.length ≤ 60) (m : Mem) : ∃ r t, d_poly_sum [tI a, tI b] m = .ok (tI r) (m ++ t) ∧ Made r (max a.length b.length) fun x => E x a + E x b := by
  unfold d_poly_sum b_poly_sum
  obtain ⟨t, e⟩ := p_both a b ha la hb lb m
  obtain ⟨r, t2, e2, M⟩ := p_combined a b 1 (by decide) (by decide) hb.1 (by omega) (by omega) (m ++ t)
  refine ⟨r, t ++ t2, ?_, M.ok, M.len, fun x => (M.val x).trans (Cg.of (by omega))⟩
  walk_at "ev"
  simp only [List.append_assoc]
theorem p_product (a b : List Int) (ha : PM.okP a) (la : a.length ≤ 60) (hb : PM.okP b) (lb : b.length ≤ 60) (m : Mem) : ∃ r t, d_poly_product [tI a, tI b] m = .ok (tI r) (m ++ t) ∧ Made r (a.length + b.length) fun x => E x a * E x b := by
  unfold d_poly_product b_poly_product
  obtain ⟨t, e⟩ := p_both a b ha la hb lb m
  obtain ⟨r, t2, e2, M⟩ := p_multiplied a b (okC.small ha.1) (okC.small hb.1) (by omega) (by omega) (m ++ t)
  refine ⟨r, t ++ t2, ?_, M⟩
  walk_at "ev"
  simp only [List.append_assoc]
theorem p_value_at (a : List Int) (c : Int) (ha : PM.okP a) (la : a.length ≤ 60) (hn0 : 0 ≤ c) (hn1 : c ≤ 996) (m : Mem) : ∃ v t, d_value_at [tI a, .int c] m = .ok (.int v) (m ++ t) ∧ 0 ≤ v ∧ v < 997 ∧ Cg v (E c a) := by
  unfold d_value_at b_value_at
  obtain ⟨t, e⟩ := p_checkpoly a ha la m
  have e2 := p_checknum c 0 996 (m ++ t) (by decide) (by decide) hn0 hn1
  obtain ⟨v, h1, h2, h3, e3⟩ := p_evaluated a c (m ++ t)
  refine ⟨v, t, ?_, h1, h2, h3⟩
  walk_at "ev"
end My

set_option Elab.async false
set_option linter.all false
set_option maxRecDepth 100000
set_option maxHeartbeats 2000000
namespace My
open PySem L2 Ev PM
local macro_rules | `(tactic| walk_at "ev") => `(tactic| simp (disch := first | assumption | omega | simp; done | (simp only [List.length_map, List.length_append, List.length_cons, List.length_nil, List.length_replicate]; omega)) only [runB_e, List.length_cons, List.length_nil, List.length_map, Nat.reduceAdd, Nat.reduceSub, List.reduceReplicate, List.map_cons, List.map_nil, List.cons_append, List.nil_append, List.append_nil, List.set_cons_zero, List.set_cons_succ, List.getElem?_cons_zero, List.getElem?_cons_succ, evB, evX, evS, evO, evR, evR2, evI, evJ, nums_ints, flat_rep, Option.map_some, List.getElem?_append_left, dSlot_d, oMulG_a, oMulG_b, oMod_e, oTup_e, oLst_e, oList_e, oAdd_t, oMulG_t, eqU_tI, eqU_nil, eqU_i, Bool.not_true, Bool.not_false, Bool.false_eq_true, if_true, if_false, if_pos, if_neg, mem_last, mem_setl, mem_mid, mem_setm, at3_0, at3_1, at3_2, ix3_0, ix3_2, decide_eq_true_eq, decide_true, decide_false, and_true, true_and, and_false, false_and, not_true_eq_false, not_false_eq_true, wipeU, *])
theorem pow54 (m : Mem) : oPow (.int 10) (.int 54) m = some (.int 1000000000000000000000000000000000000000000000000000000, m) := by
  rw [show oPow (.int 10) (.int 54) m = if (0 : Int) ≤ 54 ∧ (Builtin.Int.intBits 10 : Int) * 54 ≤ 2 ^ 27 then some (.int ((10 : Int) ^ (54 : Int).toNat), m) else none from rfl, if_pos (by decide +kernel)]
  rfl
theorem pow58 (m : Mem) : oPow (.int 10) (.int 58) m = some (.int 10000000000000000000000000000000000000000000000000000000000, m) := by
  rw [show oPow (.int 10) (.int 58) m = if (0 : Int) ≤ 58 ∧ (Builtin.Int.intBits 10 : Int) * 58 ≤ 2 ^ 27 then some (.int ((10 : Int) ^ (58 : Int).toNat), m) else none from rfl, if_pos (by decide +kernel)]
  rfl
theorem pow16 (m : Mem) : oPow (.int 10) (.int 16) m = some (.int 10000000000000000, m) := by
  rw [show oPow (.int 10) (.int 16) m = if (0 : Int) ≤ 16 ∧ (Builtin.Int.intBits 10 : Int) * 16 ≤ 2 ^ 27 then some (.int ((10 : Int) ^ (16 : Int).toNat), m) else none from rfl, if_pos (by decide +kernel)]
  rfl
theorem mul112 (m : Mem) : oMulG (.int 1000000000000000000000000000000000000000000000000000000) (.int 10000000000000000000000000000000000000000000000000000000000) m = some (.int 10000000000000000000000000000000000000000000000000000000000000000000000000000000000000000000000000000000000000000, m) := by
  rw [oMulG_e (by decide +kernel)]
  rfl
theorem p_churn (ns : List Int) (spot : Nat) (hs : spot ≤ 1000) (m : Mem) : ∃ a b : Int, d_law_churn [.rol (ns.map .int), .int spot] m = .ok (.ref m.length) (m ++ [.lst [.int a, .int b, .int 0]]) := by
  unfold d_law_churn b_law_churn
  have h1 := pow54
  have h2 := pow58
  have h3 := pow16
  have h4 := mul112
  by_cases h : spot < ns.length
  · have ha := atI_ints h
    have hd : decide ((spot : Int) < (ns.length : Int)) = true := decide_eq_true (by omega)
    walk_at "ev"
    exact ⟨_, _, rfl⟩
  · have hd : decide ((spot : Int) < (ns.length : Int)) = false := decide_eq_false (by omega)
    walk_at "ev"
    exact ⟨_, _, rfl⟩
theorem p_ladle (c : Nat) (total : Int) (h0 : 0 < total) (h1 : total ≤ 1000) (m : Mem) (hw : Well c m) : ∃ i m', d_law_ladle [.ref c, .int total] m = .ok (.int i) m' ∧ 0 ≤ i ∧ i < total ∧ Gr c m m' := by
  unfold d_law_ladle b_law_ladle
  obtain ⟨a, b, d, hm⟩ := id hw
  have hl := (List.getElem?_eq_some_iff.mp hm).1
  have hset : ∀ x, (m.set c x)[c]? = some x := fun x => List.getElem?_set_self hl
  have hlg : total.natAbs.log2 < 9000 := Nat.lt_trans (log2_lt (k := 10) (by omega) (by decide)) (by decide)
  have hdiv : ∀ (x : Int) m, oDiv (.int x) (.int total) m = some (.int (x / total), m) := fun x m => if_pos ⟨h0, hlg⟩
  have hdv2 : ∀ (x : Int) m, oDiv (.int x) (.int 65543) m = some (.int (x / 65543), m) := fun x m => (show oDiv (.int x) (.int 65543) m = if (0 : Int) < 65543 ∧ (65543 : Int).natAbs.log2 < 9000 then some (.int (x / 65543), m) else none from rfl).trans (if_pos (by decide +kernel))
  by_cases h : 0 < a
  · have hd : decide (0 < a) = true := decide_eq_true h
    refine ⟨a % total, m.set c (.lst [.int (a / total), .int b, .int d]), ?_, Int.emod_nonneg _ (by omega), Int.emod_lt_of_pos _ h0, Gr.set _ _ _ hw⟩
    clear hl hw hlg
    walk_at "ev"
  · have hd : decide (0 < a) = false := decide_eq_false h
    obtain ⟨one, ho⟩ : ∃ one, (b + 49979693 * (d + 1)) % 2305843009213693951 = one := ⟨_, rfl⟩
    have ho0 : 0 ≤ one := by omega
    have ho1 : one < 2305843009213693951 := by omega
    refine ⟨((one * one + 107 * (d + 1)) % 2305843009213693921 * 32452843 + one) / 65543 % total, m.set c (.lst [.int a, .int b, .int (d + 1)]), ?_, Int.emod_nonneg _ (by omega), Int.emod_lt_of_pos _ h0, Gr.set _ _ _ hw⟩
    clear hl hw hlg h
    walk_at "ev"
theorem p_spoon (c k : Nat) (us : List U) (hk : k ≠ c) (hne : us ≠ []) (hl : us.length ≤ 1000) (m : Mem) (hw : Well c m) (hm : m[k]? = some (.lst us)) : ∃ u m', d_law_spoon [.ref c, .ref k] m = .ok u m' ∧ u ∈ us ∧ Gr c m m' := by
  unfold d_law_spoon b_law_spoon
  have hpos := pos_of hne
  obtain ⟨i, m', e, h0, h1, hg⟩ := p_ladle c us.length (by omega) (by omega) m hw
  have hm' := hg.get hk hm
  have hi : i.toNat < us.length := by omega
  have hat : atI us i = some us[i.toNat] := atI_at h0 (List.getElem?_eq_getElem hi)
  refine ⟨us[i.toNat], m', ?_, List.getElem_mem hi, hg⟩
  clear hw hg hpos hne hk
  walk_at "ev"
theorem p_law_cell (c : Nat) (m : Mem) (hw : Well c m) : ∃ v m', d_law_cell [.ref c] m = .ok (.int v) m' ∧ 0 ≤ v ∧ v ≤ 996 ∧ Gr c m m' := by
  unfold d_law_cell b_law_cell
  obtain ⟨i, m1, e1, h0, h1, g1⟩ := p_ladle c 997 (by decide) (by decide) m hw
  obtain ⟨j, m2, e2, h2, h3, g2⟩ := p_ladle c 997 (by decide) (by decide) m1 g1.well
  have hlt : c < m2.length := by obtain ⟨_, _, _, q⟩ := g2.well; exact (List.getElem?_eq_some_iff.mp q).1
  obtain ⟨u, m3, e3, hu, g3⟩ := p_spoon c m2.length [.int 0, .int 1, .int 2, .int 3, .int 996, .int 498, .int i, .int j] (by omega) (by simp) (by simp) (m2 ++ [.lst [.int 0, .int 1, .int 2, .int 3, .int 996, .int 498, .int i, .int j]]) (g2.well.app _) (mem_last _ _)
  have hv : ∃ v, u = .int v ∧ 0 ≤ v ∧ v ≤ 996 := by
    simp only [List.mem_cons, List.not_mem_nil, or_false] at hu
    rcases hu with h | h | h | h | h | h | h | h <;> exact ⟨_, h, by omega, by omega⟩
  obtain ⟨v, rfl, hv0, hv1⟩ := hv
  refine ⟨v, m3, ?_, hv0, hv1, (g1.trans g2).trans (g3.from _)⟩
  clear hw g1 g2 g3 hu hlt
  walk_at "ev"
theorem ints_of : ∀ ys : List U, (∀ y ∈ ys, ∃ v, y = .int v ∧ 0 ≤ v ∧ v ≤ 996) → ∃ l : List Int, ys = l.map U.int ∧ okC l
  | [], _ => ⟨[], rfl, fun _ h => by cases h⟩
  | y :: ys, h => by
    obtain ⟨l, e, hl⟩ := ints_of ys fun z hz => h z (List.mem_cons_of_mem _ hz)
    obtain ⟨v, e2, h0, h1⟩ := h y (List.mem_cons_self ..)
    refine ⟨v :: l, by rw [e, e2]; rfl, fun c hc => ?_⟩
    rcases List.mem_cons.mp hc with q | hc
    · subst q; exact ⟨h0, h1⟩
    · exact hl c hc
theorem p_law_cells (c : Nat) (n : Nat) (hn : n ≤ 1000) (m : Mem) (hw : Well c m) : ∃ l m', d_law_cells [.ref c, .int n] m = .ok (tI l) m' ∧ okC l ∧ l.length = n ∧ Gr c m m' := by
  unfold d_law_cells b_law_cells
  obtain ⟨ys, m1, e1, hlen, hq, hg⟩ := compL_gen (k := 2) (e := dCall d_law_cell (lCons (dSlot 0) lNil)) (ρ := [some (.ref c), some (.int n), none]) (I := fun m1 => Gr c m m1) (Q := fun y => ∃ v, y = .int v ∧ 0 ≤ v ∧ v ≤ 996) (runI 0 n) m (Gr.refl hw) (by
    intro u hu m1 hg
    obtain ⟨v, m2, e, h0, h1, g2⟩ := p_law_cell c m1 hg.well
    refine ⟨.int v, m2, ?_, ⟨v, rfl, h0, h1⟩, hg.trans g2⟩
    clear hg g2 hu hw
    walk_at "ev")
  obtain ⟨l, rfl, hl⟩ := ints_of ys hq
  rw [List.length_map, runI_len] at hlen
  refine ⟨l, m1 ++ [cI l], ?_, hl, hlen, hg.app _⟩
  have hnn : ((n : Nat) : Int).toNat = n := by omega
  have hol := oList_e (us := l.map U.int) (m := m1) (by simp; omega)
  clear hg hw hq hl hlen
  walk_at "ev"
theorem p_law_poly (c : Nat) (n : Nat) (hn : n ≤ 100) (m : Mem) (hw : Well c m) : ∃ l m', d_law_poly [.ref c, .int n] m = .ok (tI l) m' ∧ PM.okP l ∧ l.length ≤ n ∧ Gr c m m' := by
  unfold d_law_poly b_law_poly
  obtain ⟨i, m1, e1, h0, h1, g1⟩ := p_ladle c (n + 1) (by omega) (by omega) m hw
  obtain ⟨k, rfl⟩ : ∃ k : Nat, i = k := ⟨i.toNat, by omega⟩
  obtain ⟨l, m2, e2, hl, hlen, g2⟩ := p_law_cells c k (by omega) m1 g1.well
  obtain ⟨t, e3⟩ := p_law_trim_t l m2 (by omega)
  refine ⟨trimL l, m2 ++ t, ?_, trim_ok hl, by have := trim_len l; omega, (g1.trans g2).app t⟩
  clear hw g1 g2 hl hlen
  walk_at "ev"
end My

set_option Elab.async false
set_option linter.all false
set_option maxRecDepth 100000
set_option maxHeartbeats 2000000
namespace My
open PySem L2 Ev PM
local macro_rules | `(tactic| walk_at "ev") => `(tactic| simp (disch := first | assumption | omega | simp; done | (simp only [List.length_map, List.length_append, List.length_cons, List.length_nil, List.length_replicate]; omega)) only [runB_e, List.length_cons, List.length_nil, List.length_map, Nat.reduceAdd, Nat.reduceSub, List.reduceReplicate, List.map_cons, List.map_nil, List.cons_append, List.nil_append, List.append_nil, List.set_cons_zero, List.set_cons_succ, List.getElem?_cons_zero, List.getElem?_cons_succ, evB, evX, evS, evO, evR, evR2, evI, evJ, nums_ints, flat_rep, Option.map_some, List.getElem?_append_left, dSlot_d, oMulG_a, oMulG_b, oMod_e, oTup_e, oLst_e, oList_e, oAdd_t, oMulG_t, eqU_tI, eqU_nil, eqU_i, Bool.not_true, Bool.not_false, Bool.false_eq_true, if_true, if_false, if_pos, if_neg, mem_last, mem_setl, mem_mid, mem_setm, at3_0, at3_1, at3_2, ix3_0, ix3_2, decide_eq_true_eq, decide_true, decide_false, and_true, true_and, and_false, false_and, not_true_eq_false, not_false_eq_true, wipeU, *])
theorem getD_at {l : List Int} {i : Nat} (h : i < l.length) : l.getD i 0 = l[i] := by
  rw [List.getD_eq_getElem?_getD, List.getElem?_eq_getElem h]; rfl
theorem set_get (l : List Int) (i : Nat) (v : Int) (h : i < l.length) (j : Nat) : (l.set i v).getD j 0 = if j = i then v else l.getD j 0 := by
  rw [List.getD_eq_getElem?_getD, List.getD_eq_getElem?_getD, List.getElem?_set]
  by_cases hj : i = j
  · subst hj; rw [if_pos rfl, if_pos h, if_pos rfl]; rfl
  · rw [if_neg hj, if_neg (fun z => hj z.symm)]
theorem runB_3 (l : Nat) (b : SD) (x y z : U) (m : Mem) : runB l 3 b [x, y, z] m = finS (b ([some x, some y, some z] ++ List.replicate (l - 3) none) m) := rfl
theorem runB_2 (l : Nat) (b : SD) (x y : U) (m : Mem) : runB l 2 b [x, y] m = finS (b ([some x, some y] ++ List.replicate (l - 2) none) m) := rfl
theorem runB_1 (l : Nat) (b : SD) (x : U) (m : Mem) : runB l 1 b [x] m = finS (b ([some x] ++ List.replicate (l - 1) none) m) := rfl
theorem seq_ok {a b : SD} {ρ ρ' : Ev.Env} {m m' : Mem} (h : a ρ m = .ok .nx ρ' m') : sSeq a b ρ m = b ρ' m' := by
  show thenS (a ρ m) b = _
  rw [h]; rfl
theorem if_no {t : XT} {a : SD} {ρ : Ev.Env} {m m' : Mem} (h : t ρ m = .ok false m') : sIf t a sNext ρ m = .ok .nx ρ m' := by
  show thenE (t ρ m) ρ _ = _
  rw [h]; rfl
theorem asg_ok {f : XD} {i : Nat} {u : U} {ρ : Ev.Env} {m m' : Mem} (h : f ρ m = .ok u m') : sAsg f (gName i) ρ m = .ok .nx (ρ.set i (some u)) m' := by
  show thenE (f ρ m) ρ _ = _
  rw [h]; rfl
theorem cg_mod {v x : Int} (h : Cg v x) (h0 : 0 ≤ v) (h1 : v < 997) : v = x % 997 := by
  obtain ⟨k, hk⟩ := h; omega
theorem p_val (l : List Int) (hl : okC l) (x : Int) (m : Mem) : d_law_value [tI l, .int x] m = .ok (.int (E x l % 997)) m := by
  obtain ⟨v, h0, h1, h2, e⟩ := p_value l hl x m
  rw [e, cg_mod h2 h0 h1]
theorem p_vat (a : List Int) (c : Int) (ha : PM.okP a) (la : a.length ≤ 60) (hn0 : 0 ≤ c) (hn1 : c ≤ 996) (m : Mem) : ∃ t, d_value_at [tI a, .int c] m = .ok (.int (E c a % 997)) (m ++ t) := by
  obtain ⟨v, t, e, h0, h1, h2⟩ := p_value_at a c ha la hn0 hn1 m
  exact ⟨t, by rw [e, cg_mod h2 h0 h1]⟩
theorem one_small (n : Int) (h0 : 0 ≤ n) (h1 : n ≤ 996) : small [n] := fun c hc => by rw [List.mem_singleton.mp hc]; omega
theorem E_one (x n : Int) : E x [n] = n := by simp [E]
theorem Made.eq {r s : List Int} {n k : Nat} {v w : Int → Int} (h : Made r n v) (h2 : Made s k w) (hn : n ≤ 997) (hk : k ≤ 997) (hv : ∀ x, Cg (v x) (w x)) : r = s :=
  eq_of h.ok h2.ok (Nat.le_trans h.len hn) (Nat.le_trans h2.len hk) fun x => ((h.val x).trans (hv x)).trans (h2.val x).symm
end My

set_option Elab.async false
set_option linter.all false
set_option maxRecDepth 100000
set_option maxHeartbeats 2000000
namespace My
open PySem L2 Ev PM
local macro_rules | `(tactic| walk_at "ev") => `(tactic| simp (disch := first | assumption | omega | simp; done | (simp only [List.length_map, List.length_append, List.length_cons, List.length_nil, List.length_replicate]; omega)) only [runB_e, List.length_cons, List.length_nil, List.length_map, Nat.reduceAdd, Nat.reduceSub, List.reduceReplicate, List.map_cons, List.map_nil, List.cons_append, List.nil_append, List.append_nil, List.set_cons_zero, List.set_cons_succ, List.getElem?_cons_zero, List.getElem?_cons_succ, evB, evX, evS, evO, evR, evR2, evI, evJ, nums_ints, flat_rep, Option.map_some, List.getElem?_append_left, dSlot_d, oMulG_a, oMulG_b, oMod_e, oTup_e, oLst_e, oList_e, oAdd_t, oMulG_t, eqU_tI, eqU_nil, eqU_i, Bool.not_true, Bool.not_false, Bool.false_eq_true, if_true, if_false, if_pos, if_neg, mem_last, mem_setl, mem_mid, mem_setm, at3_0, at3_1, at3_2, ix3_0, ix3_2, decide_eq_true_eq, decide_true, decide_false, and_true, true_and, and_false, false_and, not_true_eq_false, not_false_eq_true, wipeU, *])
/-- unlike cells -/
structure Places (ps : List Int) : Prop where
  ok : okC ps
  nd : ps.Nodup
theorem p_places (ps : List Int) (h : Places ps) (hl : ps.length ≤ 60) (m : Mem) : ∃ t, d_check_places [tI ps] m = .ok .non (m ++ t) := by
  unfold d_check_places b_check_places
  obtain ⟨t, e⟩ := p_cells ps m (by omega)
  rw [decide_eq_true h.ok] at e
  refine ⟨t, ?_⟩
  have h2 : decide (60 < (ps.length : Int)) = false := decide_eq_false (by omega)
  have h3 := dcount_nodup ps h.nd
  have h4 : ps.length ≤ 1000 := by omega
  clear h
  walk_at "ev"
/-- the product of x - p -/
def rootV (x : Int) : List Int → Int
  | [] => 1
  | p :: r => (x - p) * rootV x r
theorem rootV_append (x : Int) (a b : List Int) : rootV x (a ++ b) = rootV x a * rootV x b := by
  induction a with
  | nil => simp [rootV]
  | cons p r ih => simp only [List.cons_append, rootV, ih]; grind
theorem rootV_zero {x : Int} {ps : List Int} (h : x ∈ ps) : rootV x ps = 0 := by
  induction ps with
  | nil => cases h
  | cons p r ih =>
    rcases List.mem_cons.mp h with e | h
    · subst e; simp [rootV]
    · simp [rootV, ih h]
theorem rootV_ne {x : Int} {ps : List Int} (hx : 0 ≤ x ∧ x ≤ 996) (hp : okC ps) (h : x ∉ ps) : ¬ Cg (rootV x ps) 0 := by
  induction ps with
  | nil => intro z; obtain ⟨k, hk⟩ := z; simp only [rootV] at hk; omega
  | cons p r ih =>
    intro z
    have hne : x ≠ p := fun e => h (e ▸ List.mem_cons_self ..)
    have hp0 := hp p (List.mem_cons_self ..)
    refine ih (fun c hc => hp c (List.mem_cons_of_mem _ hc)) (fun q => h (List.mem_cons_of_mem _ q)) (no_zero z fun ⟨k, hk⟩ => ?_)
    omega
/-- with the last cell 1 at n -/
structure Monic (r : List Int) (n : Nat) (v : Int → Int) : Prop where
  ok : PM.okP r
  len : r.length = n + 1
  top : r.getD n 0 = 1
  val : ∀ x, Cg (E x r) (v x)
theorem mulL_length : ∀ (a b : List Int), a ≠ [] → b ≠ [] → (mulL a b).length + 1 = a.length + b.length
  | [], b, h, _ => absurd rfl h
  | [y], b, _, hb => by
    have := pos_of hb
    simp only [mulL, addL_len, List.length_map, List.length_cons, List.length_nil]; omega
  | y :: z :: a, b, _, hb => by
    have ih := mulL_length (z :: a) b (by simp) hb
    have := pos_of hb
    simp only [List.length_cons] at ih ⊢
    rw [mulL, addL_len, List.length_map, List.length_cons]
    omega
theorem Monic.next {r s : List Int} {n k : Nat} {v : Int → Int} (p : Int) (h : Monic r n v) (h2 : Made s k fun x => E x r * E x [-p, 1]) (hk : k ≤ 900) (hn : n ≤ 100) : Monic s (n + 1) fun x => v x * (x - p) := by
  have hne : r ≠ [] := fun z => by have := h.len; rw [z] at this; simp at this
  have hlen := mulL_length r [-p, 1] hne (by simp)
  have htop := mulL_top r [-p, 1] hne (by simp)
  rw [h.len] at htop hlen
  simp only [List.length_cons, List.length_nil] at htop hlen
  rw [show n + 1 - 1 + (0 + 1 + 1 - 1) = n + 1 by omega, show n + 1 - 1 = n by omega, h.top] at htop
  have htop' : (mulL r [-p, 1]).getD (n + 1) 0 = 1 := htop
  have hL : ((mulL r [-p, 1]).map (· % 997)).length = n + 2 := by rw [List.length_map]; omega
  have hg : ((mulL r [-p, 1]).map (· % 997)).getD (n + 1) 0 = 1 := by
    rw [List.getD_eq_getElem?_getD, List.getElem?_map, List.getElem?_eq_getElem (by omega)]
    rw [getD_at (by omega)] at htop'
    simp [htop']
  have htr : trimL ((mulL r [-p, 1]).map (· % 997)) = (mulL r [-p, 1]).map (· % 997) := by
    rcases nil_or_end ((mulL r [-p, 1]).map (· % 997)) with e | ⟨s, a, e⟩
    · rw [e] at hL; simp at hL
    · have hs : s.length = n + 1 := by rw [e] at hL; simp at hL; omega
      have ha : a = 1 := by
        rw [e, List.getD_eq_getElem?_getD, List.getElem?_append_right (by omega), hs] at hg
        simpa using hg
      rw [e]; exact trim_end s (by omega)
  have hE : s = (mulL r [-p, 1]).map (· % 997) := by
    rw [← htr]
    refine eq_of h2.ok (trim_ok (mod_ok _)) (by have := h2.len; omega) (by rw [htr]; omega) fun x => ?_
    rw [E_trim]
    refine (h2.val x).trans ((E_mod x _).trans (Cg.of ?_)).symm
    rw [mulL_E]
  refine ⟨h2.ok, by rw [hE]; exact hL, by rw [hE]; exact hg, fun x => (h2.val x).trans ?_⟩
  have : E x [-p, 1] = x - p := by simp [E]; omega
  rw [this]
  exact (h.val x).mul (Cg.rfl' _)
theorem p_roots (ps : List Int) (h : okC ps) (hl : ps.length ≤ 60) (m : Mem) : ∃ r t, d_with_roots [tI ps] m = .ok (tI r) (m ++ t) ∧ Monic r ps.length fun x => rootV x ps := by
  unfold d_with_roots b_with_roots
  obtain ⟨ρ', m', e, t, r, y, h1, h2, h3⟩ := forIx (g := gName 2) (b := sAsg (dCall d_multiplied (lCons (dSlot 1) (lCons (dTup (lCons (dUn oNeg (dSlot 2)) (lCons (dC (.int 1)) lNil))) lNil))) (gName 1)) (us := ps.map U.int)
    (fun i ρ m' => ∃ t r y, ρ = [some (tI ps), some (tI r), y] ∧ m' = m ++ t ∧ Monic r i fun x => rootV x (ps.take i))
    (fun i u ρ m' hu ⟨t, r, y, h1, h2, h3⟩ => by
      subst h1; subst h2
      obtain ⟨hi, rfl⟩ := ints_at hu
      have hc := h _ (List.getElem_mem hi)
      have hs : small [-ps[i], 1] := fun c hc' => by
        simp only [List.mem_cons, List.not_mem_nil, or_false] at hc'
        rcases hc' with e | e <;> omega
      obtain ⟨s, t2, e2, M⟩ := p_multiplied r [-ps[i], 1] (okC.small h3.ok.1) hs (by have := h3.len; omega) (by simp) (m ++ t)
      have e2' : d_multiplied [tI r, .tup [.int (-ps[i]), .int 1]] (m ++ t) = .ok (tI s) (m ++ t ++ t2) := e2
      have hm := h3.next ps[i] M (by have := h3.len; simp; omega) (by omega)
      refine ⟨[some (tI ps), some (tI r), some (.int ps[i])], m ++ t, [some (tI ps), some (tI s), some (.int ps[i])], m ++ t ++ t2, rfl, ?_, t ++ t2, s, some (.int ps[i]), rfl, by simp, hm.ok, hm.len, hm.top, fun x => (hm.val x).trans (Cg.of ?_)⟩
      · clear e2 hu h h3 hm M hs hc
        generalize ps[i] = p at *
        walk_at "ev"
      · rw [List.take_succ_eq_append_getElem hi, rootV_append]; simp [rootV]) [some (tI ps), some (tI [1]), none] m ⟨[], [1], none, rfl, by simp, ⟨by decide, by decide⟩, rfl, rfl, fun x => Cg.of (by simp [E, rootV])⟩
  subst h1; subst h2
  rw [List.length_map, List.take_length] at h3
  refine ⟨r, t, ?_, h3⟩
  have e' : forL (gName 2) (sAsg (dCall d_multiplied (lCons (dSlot 1) (lCons (dTup (lCons (dUn oNeg (dSlot 2)) (lCons (dC (.int 1)) lNil))) lNil))) (gName 1)) (ps.map U.int) [some (tI ps), some (.tup [.int 1]), none] m = .ok .nx [some (tI ps), some (tI r), y] (m ++ t) := e
  clear e h h3
  walk_at "ev"
theorem p_none_at (ps : List Int) (h : Places ps) (hl : ps.length ≤ 60) (m : Mem) : ∃ r t, d_none_at [tI ps] m = .ok (tI r) (m ++ t) ∧ Monic r ps.length fun x => rootV x ps := by
  unfold d_none_at b_none_at
  obtain ⟨t, e⟩ := p_places ps h hl m
  obtain ⟨r, t2, e2, M⟩ := p_roots ps h.ok hl (m ++ t)
  refine ⟨r, t ++ t2, ?_, M⟩
  clear h M
  walk_at "ev"
  simp only [List.append_assoc]
end My

set_option Elab.async false
set_option linter.all false
set_option maxRecDepth 100000
set_option maxHeartbeats 2000000
namespace My
open PySem L2 Ev PM
local macro_rules | `(tactic| walk_at "ev") => `(tactic| simp (disch := first | assumption | omega | simp; done | (simp only [List.length_map, List.length_append, List.length_cons, List.length_nil, List.length_replicate]; omega)) only [runB_e, List.length_cons, List.length_nil, List.length_map, Nat.reduceAdd, Nat.reduceSub, List.reduceReplicate, List.map_cons, List.map_nil, List.cons_append, List.nil_append, List.append_nil, List.set_cons_zero, List.set_cons_succ, List.getElem?_cons_zero, List.getElem?_cons_succ, evB, evX, evS, evO, evR, evR2, evI, evJ, nums_ints, flat_rep, Option.map_some, List.getElem?_append_left, dSlot_d, oMulG_a, oMulG_b, oMod_e, oTup_e, oLst_e, oList_e, oAdd_t, oMulG_t, eqU_tI, eqU_nil, eqU_i, Bool.not_true, Bool.not_false, Bool.false_eq_true, if_true, if_false, if_pos, if_neg, mem_last, mem_setl, mem_mid, mem_setm, at3_0, at3_1, at3_2, ix3_0, ix3_2, decide_eq_true_eq, decide_true, decide_false, and_true, true_and, and_false, false_and, not_true_eq_false, not_false_eq_true, wipeU, *])
/-- pairs of cells with unlike places -/
structure Pts (pts : List (Int × Int)) : Prop where
  pl : Places (pts.map (·.1))
  vs : okC (pts.map (·.2))
abbrev tP (pts : List (Int × Int)) : U := .tup (pts.map fun p => tI [p.1, p.2])
theorem pts_at {pts : List (Int × Int)} {i : Nat} {u : U} (h : (pts.map fun p => tI [p.1, p.2])[i]? = some u) : ∃ hi : i < pts.length, u = .tup [.int pts[i].1, .int pts[i].2] := by
  rw [List.getElem?_map] at h
  by_cases hi : i < pts.length
  · rw [List.getElem?_eq_getElem hi] at h
    exact ⟨hi, (Option.some.inj h).symm⟩
  · rw [List.getElem?_eq_none (by omega)] at h; cases h
theorem Pts.cell {pts : List (Int × Int)} (h : Pts pts) {p : Int × Int} (hp : p ∈ pts) : (0 ≤ p.1 ∧ p.1 ≤ 996) ∧ 0 ≤ p.2 ∧ p.2 ≤ 996 := ⟨h.pl.ok _ (List.mem_map_of_mem hp), h.vs _ (List.mem_map_of_mem hp)⟩
def fstU : U → U
  | .tup [x, _] => x
  | _ => .non
theorem fst_map : ∀ pts : List (Int × Int), (pts.map fun p => tI [p.1, p.2]).map fstU = (pts.map (·.1)).map U.int
  | [] => rfl
  | p :: r => by
    rw [List.map_cons, List.map_cons, fst_map r]; rfl
theorem p_checkpoints (pts : List (Int × Int)) (h : Pts pts) (hl : pts.length ≤ 60) (m : Mem) : ∃ t, d_check_points [tP pts] m = .ok .non (m ++ t) := by
  unfold d_check_points b_check_points
  obtain ⟨t1, e1⟩ := compL_map (g := gName 3) (e := dAnd (dCall d_is_cells (lCons (dSlot 3) lNil)) (dOp oEq (dB oLen (lCons (dSlot 3) lNil)) (dC (.int 2)))) (ρ := [some (tP pts), none, none, none]) (P := fun _ => True) (F := fun _ => .bl true) (fun _ _ _ => trivial) (pts.map fun p => tI [p.1, p.2]) m trivial (by
    intro u hu m _
    obtain ⟨p, hp, rfl⟩ := List.mem_map.mp hu
    have hc := h.cell hp
    obtain ⟨t, e⟩ := p_cells [p.1, p.2] m (by simp)
    have hok : okC [p.1, p.2] := fun c hc' => by
      simp only [List.mem_cons, List.not_mem_nil, or_false] at hc'
      rcases hc' with e | e <;> rw [e] <;> omega
    rw [decide_eq_true hok] at e
    refine ⟨[some (tP pts), none, none, some (tI [p.1, p.2])], t, rfl, ?_⟩
    clear h hu hp hc hok
    have h2 : decide ((2 : Int) = 2) = true := rfl
    walk_at "ev"
    rfl)
  obtain ⟨t2, e2⟩ := compL_map (g := gTup 2 (gCons (gName 1) (gCons (gName 2) gNil))) (e := dSlot 1) (ρ := [some (tP pts), none, none, none]) (P := fun _ => True) (F := fstU) (fun _ _ _ => trivial) (pts.map fun p => tI [p.1, p.2]) (m ++ t1 ++ [.lst ((pts.map fun p => tI [p.1, p.2]).map fun _ => .bl true)]) trivial (by
    intro u hu m _
    obtain ⟨p, hp, rfl⟩ := List.mem_map.mp hu
    exact ⟨[some (tP pts), some (.int p.1), some (.int p.2), none], [], rfl, by rw [List.append_nil]; rfl⟩)
  have e2' : compL (gTup 2 (gCons (gName 1) (gCons (gName 2) gNil))) tYesU (dSlot 1) [some (tP pts), none, none, none] (pts.map fun p => tI [p.1, p.2]) (m ++ t1 ++ [.lst ((pts.map fun p => tI [p.1, p.2]).map fun _ => .bl true)]) = some ((pts.map (·.1)).map U.int, m ++ t1 ++ [.lst ((pts.map fun p => tI [p.1, p.2]).map fun _ => .bl true)] ++ t2) := by
    rw [e2, fst_map]
  clear e2
  obtain ⟨t3, e3⟩ := p_places (pts.map (·.1)) h.pl (by simpa using hl) (m ++ t1 ++ [.lst ((pts.map fun p => tI [p.1, p.2]).map fun _ => .bl true)] ++ t2 ++ [cI (pts.map (·.1))])
  refine ⟨t1 ++ [.lst ((pts.map fun p => tI [p.1, p.2]).map fun _ => .bl true)] ++ t2 ++ [cI (pts.map (·.1))] ++ t3, ?_⟩
  have hb : bools ((pts.map fun p => tI [p.1, p.2]).map fun _ => .bl true) = some (pts.map fun _ => true) := by
    rw [List.map_map]
    exact bools_map (fun _ => true) pts
  have ha : (pts.map fun _ => true).all id = true := by simp
  have ho1 := oList_e (us := (pts.map fun p => tI [p.1, p.2]).map fun _ => U.bl true) (m := m ++ t1) (by simp; omega)
  have ho2 := oList_e (us := (pts.map (·.1)).map U.int) (m := m ++ t1 ++ [.lst ((pts.map fun p => tI [p.1, p.2]).map fun _ => .bl true)] ++ t2) (by simp; omega)
  clear h
  generalize ((pts.map fun p => tI [p.1, p.2]).map fun _ => U.bl true) = bs at *
  generalize (pts.map fun _ => true) = bb at hb ha
  generalize (pts.map (·.1)) = ps at *
  clear hl
  walk_at "ev"
  simp only [List.append_assoc]
/-- polys that agree at as many places as they have cells -/
theorem eq_at {a b zs : List Int} (ha : PM.okP a) (hb : PM.okP b) (hz : zs.Nodup) (hr : okC zs) (la : a.length ≤ zs.length) (lb : b.length ≤ zs.length) (lz : zs.length ≤ 900) (h : ∀ z ∈ zs, Cg (E z a) (E z b)) : a = b := by
  have hroot := roots (addL (-1) a b) zs (by rw [addL_len]; omega) hz fun z hzm => ⟨(hr z hzm).1, by have := (hr z hzm).2; omega, by
    rw [addL_E]
    obtain ⟨k, hk⟩ := h z hzm
    exact ⟨k, by omega⟩⟩
  refine eq_of ha hb (by omega) (by omega) fun x => ?_
  have hE : ∀ l : List Int, (∀ c ∈ l, Cg c 0) → Cg (E x l) 0 := fun l => by
    induction l with
    | nil => intro _; exact Cg.rfl' _
    | cons a s ih =>
      intro hh
      have h1 := (hh a (List.mem_cons_self ..)).add ((Cg.rfl' x).mul (ih fun c hc => hh c (List.mem_cons_of_mem _ hc)))
      simpa [E] using h1
  have := hE _ hroot
  rw [addL_E] at this
  obtain ⟨k, hk⟩ := this
  exact ⟨k, by omega⟩
theorem pl_take {pts : List (Int × Int)} (h : Pts pts) {i : Nat} (hi : i < pts.length) : pts[i].1 ∉ (pts.take i).map (·.1) := by
  have := h.pl.nd
  intro hm
  obtain ⟨p, hp, e⟩ := List.mem_map.mp hm
  obtain ⟨j, hj, rfl⟩ := List.mem_iff_getElem.mp hp
  rw [List.length_take] at hj
  rw [List.getElem_take] at e
  have h2 := List.pairwise_iff_getElem.mp this j i (by simp; omega) (by simp; omega) (by omega)
  rw [List.getElem_map, List.getElem_map] at h2
  exact h2 e
theorem p_interp (pts : List (Int × Int)) (h : Pts pts) (hl : pts.length ≤ 60) (m : Mem) : ∃ r t, d_interpolated [tP pts] m = .ok (tI r) (m ++ t) ∧ PM.okP r ∧ r.length ≤ pts.length ∧ ∀ p ∈ pts, Cg (E p.1 r) p.2 := by
  unfold d_interpolated b_interpolated
  obtain ⟨ρ', m', e, t, r, s, a, b, c, h1, h2, h3, h4, h5, h6⟩ := forIx (g := gTup 2 (gCons (gName 3) (gCons (gName 4) gNil))) (b := (sSeq (sAsg (dOp oMulG (dOp oSub (dSlot 4) (dCall d_evaluated (lCons (dSlot 1) (lCons (dSlot 3) lNil)))) (dCall d_inverse (lCons (dCall d_evaluated (lCons (dSlot 2) (lCons (dSlot 3) lNil))) lNil))) (gName 5))
  (sSeq (sAsg (dCall d_combined (lCons (dSlot 1) (lCons (dSlot 2) (lCons (dSlot 5) lNil)))) (gName 1))
  (sAsg (dCall d_multiplied (lCons (dSlot 2) (lCons (dTup (lCons (dUn oNeg (dSlot 3)) (lCons (dC (.int 1)) lNil))) lNil))) (gName 2))))) (us := pts.map fun p => tI [p.1, p.2])
    (fun i ρ m' => ∃ t r s a b c, ρ = [some (tP pts), some (tI r), some (tI s), a, b, c] ∧ m' = m ++ t ∧ PM.okP r ∧ r.length ≤ i ∧ (Monic s i fun x => rootV x ((pts.take i).map (·.1))) ∧ ∀ p ∈ pts.take i, Cg (E p.1 r) p.2)
    (fun i u ρ m' hu ⟨t, r, s, a, b, c, h1, h2, h3, h4, h5, h6⟩ => by
      subst h1; subst h2
      obtain ⟨hi, rfl⟩ := pts_at hu
      have hc := h.cell (List.getElem_mem hi)
      have hno := pl_take h hi
      have hokt : okC ((pts.take i).map (·.1)) := fun c hc' => by
        obtain ⟨p, hp, rfl⟩ := List.mem_map.mp hc'
        exact (h.cell (List.mem_of_mem_take hp)).1
      obtain ⟨v, hv0, hv1, hv2, e1⟩ := p_evaluated r pts[i].1 (m ++ t)
      obtain ⟨w, hw0, hw1, hw2, e2⟩ := p_evaluated s pts[i].1 (m ++ t)
      have hwz : ¬ Cg w 0 := fun z => rootV_ne hc.1 hokt hno (((h5.val pts[i].1).symm.trans hw2.symm).trans z)
      obtain ⟨y, e3, hy0, hy1, hy2⟩ := p_inverse w hwz (m ++ t)
      have hlen := h5.len
      generalize hpe : pts[i].1 = p at *
      generalize hve : pts[i].2 = q at *
      have hbd : -1000000000 < (q - v) * y ∧ (q - v) * y < 1000000000 := by
        have h1 : (q - v) * y ≤ 996 * y := Int.mul_le_mul_of_nonneg_right (by omega) hy0
        have h2 : -996 * y ≤ (q - v) * y := Int.mul_le_mul_of_nonneg_right (by omega) hy0
        omega
      generalize hfe : (q - v) * y = f at *
      obtain ⟨r2, t2, e4, M⟩ := p_combined r s f hbd.1 hbd.2 h5.ok.1 (by omega) (by omega) (m ++ t)
      have hs : small [-p, 1] := fun c hc' => by
        simp only [List.mem_cons, List.not_mem_nil, or_false] at hc'
        rcases hc' with e | e <;> omega
      obtain ⟨s2, t3, e5, M2⟩ := p_multiplied s [-p, 1] (okC.small h5.ok.1) hs (by omega) (by simp) (m ++ t ++ t2)
      have e5' : d_multiplied [tI s, .tup [.int (-p), .int 1]] (m ++ t ++ t2) = .ok (tI s2) (m ++ t ++ t2 ++ t3) := e5
      have hm := h5.next p M2 (by simp; omega) (by omega)
      have hMl := M.len
      refine ⟨[some (tP pts), some (tI r), some (tI s), some (.int p), some (.int q), c], m ++ t, [some (tP pts), some (tI r2), some (tI s2), some (.int p), some (.int q), some (.int f)], m ++ t ++ t2 ++ t3, rfl, ?_, t ++ t2 ++ t3, r2, s2, some (.int p), some (.int q), some (.int f), rfl, by simp, M.ok, by omega, ⟨hm.ok, hm.len, hm.top, fun x => (hm.val x).trans (Cg.of ?_)⟩, fun p' hp' => ?_⟩
      · clear e5 hu h h3 h4 h5 h6 hm M M2 hs hwz hv2 hw2 hy2 hokt hno hpe hve hlen hMl
        walk_at "ev"
      · rw [List.take_succ_eq_append_getElem hi, List.map_append, rootV_append]; simp [rootV, hpe]
      · rw [List.take_succ_eq_append_getElem hi] at hp'
        obtain ⟨k, hk⟩ := M.val p'.1
        rcases List.mem_append.mp hp' with hp' | hp'
        · obtain ⟨k2, hk2⟩ := h6 p' hp'
          obtain ⟨k3, hk3⟩ := h5.val p'.1
          have hz : rootV p'.1 ((pts.take i).map (·.1)) = 0 := rootV_zero (List.mem_map_of_mem hp')
          rw [hz] at hk3
          exact ⟨k + k2 + f * k3, by rw [hk, hk2, hk3]; grind⟩
        · have hpp := List.mem_singleton.mp hp'
          rw [hpp, hpe, hve]
          rw [hpp, hpe] at hk
          obtain ⟨k2, hk2⟩ := hv2
          obtain ⟨k3, hk3⟩ := hw2
          obtain ⟨k4, hk4⟩ := hy2
          have e6 : E p s = w - 997 * k3 := by omega
          have e7 : E p r = v - 997 * k2 := by omega
          have e8 : f * w = (q - v) * (1 + 997 * k4) := by rw [← hfe, ← hk4 ]; grind
          refine ⟨k - k2 + (q - v) * k4 - f * k3, ?_⟩
          rw [hk, e6, e7]; grind) [some (tP pts), some (tI []), some (tI [1]), none, none, none] m ⟨[], [], [1], none, none, none, rfl, by simp, ⟨by simp, by simp⟩, by simp, ⟨⟨by decide, by decide⟩, rfl, rfl, fun x => Cg.of (by simp [E, rootV])⟩, by simp⟩
  subst h1; subst h2
  rw [List.length_map, List.take_length] at h6
  rw [List.length_map] at h4
  refine ⟨r, t, ?_, h3, h4, h6⟩
  rw [show (some (tI []) : Option U) = some (.tup []) from rfl, show (some (tI [1]) : Option U) = some (.tup [.int 1]) from rfl] at e
  clear h h3 h4 h5 h6
  walk_at "ev"
theorem p_through (pts : List (Int × Int)) (h : Pts pts) (hl : pts.length ≤ 60) (m : Mem) : ∃ r t, d_through [tP pts] m = .ok (tI r) (m ++ t) ∧ PM.okP r ∧ r.length ≤ pts.length ∧ ∀ p ∈ pts, Cg (E p.1 r) p.2 := by
  unfold d_through b_through
  obtain ⟨t, e⟩ := p_checkpoints pts h hl m
  obtain ⟨r, t2, e2, h1, h2, h3⟩ := p_interp pts h hl (m ++ t)
  refine ⟨r, t ++ t2, ?_, h1, h2, h3⟩
  clear h h1 h2 h3
  walk_at "ev"
  simp only [List.append_assoc]
end My

set_option Elab.async false
set_option linter.all false
set_option maxRecDepth 100000
set_option maxHeartbeats 2000000
namespace My
open PySem L2 Ev PM
local macro_rules | `(tactic| walk_at "ev") => `(tactic| simp (disch := first | assumption | omega | simp; done | (simp only [List.length_map, List.length_append, List.length_cons, List.length_nil, List.length_replicate]; omega)) only [runB_e, List.length_cons, List.length_nil, List.length_map, Nat.reduceAdd, Nat.reduceSub, List.reduceReplicate, List.map_cons, List.map_nil, List.cons_append, List.nil_append, List.append_nil, List.set_cons_zero, List.set_cons_succ, List.getElem?_cons_zero, List.getElem?_cons_succ, evB, evX, evS, evO, evR, evR2, evI, evJ, nums_ints, flat_rep, Option.map_some, List.getElem?_append_left, dSlot_d, oMulG_a, oMulG_b, oMod_e, oTup_e, oLst_e, oList_e, oAdd_t, oMulG_t, eqU_tI, eqU_nil, eqU_i, Bool.not_true, Bool.not_false, Bool.false_eq_true, if_true, if_false, if_pos, if_neg, mem_last, mem_setl, mem_mid, mem_setm, at3_0, at3_1, at3_2, ix3_0, ix3_2, decide_eq_true_eq, decide_true, decide_false, and_true, true_and, and_false, false_and, not_true_eq_false, not_false_eq_true, wipeU, *])
theorem mulL_le : ∀ (a b : List Int), b ≠ [] → (mulL a b).length + 1 ≤ a.length + b.length
  | [], b, hb => by have := pos_of hb; simp [mulL]; omega
  | y :: a, b, hb => by
    have := mulL_length (y :: a) b (by simp) hb
    omega
/-- as long as some list of these values -/
theorem Made.le {r L : List Int} {k n : Nat} {v : Int → Int} (h : Made r k v) (hL : ∀ x, Cg (E x L) (v x)) (hn : L.length ≤ n) (hk : k ≤ 900) (hn2 : n ≤ 900) : r.length ≤ n := by
  have e : r = trimL (L.map (· % 997)) := by
    have hl := trim_len (L.map (· % 997))
    rw [List.length_map] at hl
    refine eq_of h.ok (trim_ok (mod_ok L)) (by have := h.len; omega) (by omega) fun x => ?_
    rw [E_trim]
    exact (h.val x).trans ((E_mod x L).trans (hL x)).symm
  have hl := trim_len (L.map (· % 997))
  rw [List.length_map] at hl
  rw [e]; omega
/-- the product of x - q over all q but p -/
def prodNe (p x : Int) : List Int → Int
  | [] => 1
  | q :: r => if q ≠ p then (x - q) * prodNe p x r else prodNe p x r
def cntNe (p : Int) : List Int → Nat
  | [] => 0
  | q :: r => if q ≠ p then cntNe p r + 1 else cntNe p r
theorem prodNe_append (p x : Int) (a b : List Int) : prodNe p x (a ++ b) = prodNe p x a * prodNe p x b := by
  induction a with
  | nil => simp [prodNe]
  | cons q r ih => simp only [List.cons_append, prodNe, ih]; split <;> grind
theorem cntNe_append (p : Int) (a b : List Int) : cntNe p (a ++ b) = cntNe p a + cntNe p b := by
  induction a with
  | nil => simp [cntNe]
  | cons q r ih => simp only [List.cons_append, cntNe, ih]; split <;> omega
theorem cntNe_le (p : Int) (a : List Int) : cntNe p a ≤ a.length := by
  induction a with
  | nil => simp [cntNe]
  | cons q r ih => simp only [cntNe, List.length_cons]; split <;> omega
theorem cntNe_lt {p : Int} {a : List Int} (h : p ∈ a) : cntNe p a < a.length := by
  induction a with
  | nil => cases h
  | cons q r ih =>
    simp only [cntNe, List.length_cons]
    by_cases hq : q = p
    · rw [if_neg (fun z => z hq)]
      have := cntNe_le p r; omega
    · rw [if_pos hq]
      have := ih ((List.mem_cons.mp h).resolve_left fun z => hq z.symm)
      omega
theorem prodNe_zero {p x : Int} {ps : List Int} (h : x ∈ ps) (hx : x ≠ p) : prodNe p x ps = 0 := by
  induction ps with
  | nil => cases h
  | cons q r ih =>
    simp only [prodNe]
    rcases List.mem_cons.mp h with e | h
    · subst e; rw [if_pos hx]; simp
    · rw [ih h]; split <;> simp
theorem prodNe_ne {p : Int} {ps : List Int} (hp : 0 ≤ p ∧ p ≤ 996) (h : okC ps) : ¬ Cg (prodNe p p ps) 0 := by
  induction ps with
  | nil => intro ⟨k, hk⟩; simp only [prodNe] at hk; omega
  | cons q r ih =>
    have ih := ih fun c hc => h c (List.mem_cons_of_mem _ hc)
    have hq := h q (List.mem_cons_self ..)
    simp only [prodNe]
    split
    · rename_i hne
      intro z
      refine ih (no_zero z fun ⟨k, hk⟩ => hne ?_)
      omega
    · exact ih
theorem inv_uniq {a b c : Int} (h : Cg (a * c) 1) (h2 : Cg (b * c) 1) : Cg a b := by
  obtain ⟨k, hk⟩ := h
  obtain ⟨l, hl⟩ := h2
  exact ⟨b * k - a * l, by grind⟩
/-- the values of Lagrange's sum -/
def lagr (ps : List Int) (W : Int → Int) (x : Int) : List (Int × Int) → Int
  | [] => 0
  | p :: r => p.2 * prodNe p.1 x ps * W p.1 + lagr ps W x r
theorem lagr_append (ps : List Int) (W : Int → Int) (x : Int) (a b : List (Int × Int)) : lagr ps W x (a ++ b) = lagr ps W x a + lagr ps W x b := by
  induction a with
  | nil => simp [lagr]
  | cons p r ih => simp only [List.cons_append, lagr, ih]; omega
theorem lagr_zero {ps : List Int} {W : Int → Int} {x : Int} (hx : x ∈ ps) : ∀ {r : List (Int × Int)}, (∀ p ∈ r, p.1 ≠ x) → lagr ps W x r = 0
  | [], _ => rfl
  | p :: r, h => by
    rw [lagr, lagr_zero hx fun q hq => h q (List.mem_cons_of_mem _ hq), prodNe_zero hx fun z => h p (List.mem_cons_self ..) z.symm]
    simp
theorem lagr_at {ps : List Int} {W : Int → Int} (hW : ∀ p ∈ ps, Cg (W p * prodNe p p ps) 1) : ∀ {r : List (Int × Int)}, (r.map (·.1)).Nodup → (∀ p ∈ r, p.1 ∈ ps) → ∀ p ∈ r, Cg (lagr ps W p.1 r) p.2
  | [], _, _, p, hp => by cases hp
  | q :: r, hn, hm, p, hp => by
    have hn' := List.nodup_cons.mp (show (q.1 :: r.map (·.1)).Nodup from hn)
    rw [lagr]
    rcases List.mem_cons.mp hp with e | hp
    · subst e
      rw [lagr_zero (hm p (List.mem_cons_self ..)) fun s hs z => hn'.1 (z ▸ List.mem_map_of_mem hs)]
      obtain ⟨k, hk⟩ := hW p.1 (hm p (List.mem_cons_self ..))
      refine ⟨p.2 * k, ?_⟩
      have : p.2 * prodNe p.1 p.1 ps * W p.1 = p.2 * (W p.1 * prodNe p.1 p.1 ps) := by grind
      rw [this, hk]; grind
    · have hne : q.1 ≠ p.1 := fun z => hn'.1 (z ▸ List.mem_map_of_mem hp)
      rw [prodNe_zero (hm p (List.mem_cons_of_mem _ hp)) fun z => hne z.symm]
      have ih := lagr_at hW hn'.2 (fun s hs => hm s (List.mem_cons_of_mem _ hs)) p hp
      simpa using ih
/-- a part of the law's sum -/
theorem p_part (u0 u1 : Option U) (place value : Int) (hp : 0 ≤ place ∧ place ≤ 996) (hv : 0 ≤ value ∧ value ≤ 996) (pts : List (Int × Int)) (h : Pts pts) (hl : pts.length ≤ 60) (s6 s7 : Option U) (m : Mem) :
    ∃ part bottom a b t, forL (gTup 2 (gCons (gName 6) (gCons (gName 7) gNil))) (sIf (tBl (dOp oNe (dSlot 6) (dSlot 2))) (sSeq (sAsg (dCall d_law_times (lCons (dSlot 4) (lCons (dTup (lCons (dOp oMod (dB oInt (lCons (dOp oSub (dC (.int 0)) (dSlot 6)) lNil)) (dC (.int 997))) (lCons (dC (.int 1)) lNil))) lNil))) (gName 4))
  (sAsg (dOp oMod (dB oInt (lCons (dOp oMulG (dSlot 5) (dOp oSub (dSlot 2) (dSlot 6))) lNil)) (dC (.int 997))) (gName 5))) sNext) (pts.map fun p => tI [p.1, p.2]) [u0, u1, some (.int place), some (.int value), some (tI [value]), some (.int 1), s6, s7] m = .ok .nx [u0, u1, some (.int place), some (.int value), some (tI part), some (.int bottom), a, b] (m ++ t) ∧
      okC part ∧ part.length ≤ cntNe place (pts.map (·.1)) + 1 ∧ 0 ≤ bottom ∧ bottom < 997 ∧ Cg bottom (prodNe place place (pts.map (·.1))) ∧ ∀ x, Cg (E x part) (value * prodNe place x (pts.map (·.1))) := by
  obtain ⟨ρ', m', e, t, part, bottom, a, b, h1, h2, h3, h4, h5, h6, h7, h8⟩ := forIx (g := gTup 2 (gCons (gName 6) (gCons (gName 7) gNil))) (b := (sIf (tBl (dOp oNe (dSlot 6) (dSlot 2))) (sSeq (sAsg (dCall d_law_times (lCons (dSlot 4) (lCons (dTup (lCons (dOp oMod (dB oInt (lCons (dOp oSub (dC (.int 0)) (dSlot 6)) lNil)) (dC (.int 997))) (lCons (dC (.int 1)) lNil))) lNil))) (gName 4))
  (sAsg (dOp oMod (dB oInt (lCons (dOp oMulG (dSlot 5) (dOp oSub (dSlot 2) (dSlot 6))) lNil)) (dC (.int 997))) (gName 5))) sNext)) (us := pts.map fun p => tI [p.1, p.2])
    (fun i ρ m' => ∃ t part bottom a b, ρ = [u0, u1, some (.int place), some (.int value), some (tI part), some (.int bottom), a, b] ∧ m' = m ++ t ∧ okC part ∧ part.length ≤ cntNe place ((pts.take i).map (·.1)) + 1 ∧ 0 ≤ bottom ∧ bottom < 997 ∧ Cg bottom (prodNe place place ((pts.take i).map (·.1))) ∧ ∀ x, Cg (E x part) (value * prodNe place x ((pts.take i).map (·.1))))
    (fun i u ρ m' hu ⟨t, part, bottom, a, b, h1, h2, h3, h4, h5, h6, h7, h8⟩ => by
      subst h1; subst h2
      obtain ⟨hi, rfl⟩ := pts_at hu
      have hc := h.cell (List.getElem_mem hi)
      have htk : (pts.take (i + 1)).map (·.1) = (pts.take i).map (·.1) ++ [pts[i].1] := by
        rw [List.take_succ_eq_append_getElem hi, List.map_append]; rfl
      rw [htk]
      have hcl := cntNe_le place ((pts.take i).map (·.1))
      rw [List.length_map, List.length_take] at hcl
      generalize pts[i].1 = q at *
      generalize pts[i].2 = w at *
      generalize hps : (pts.take i).map (·.1) = ps at *
      by_cases hq : q = place
      · refine ⟨[u0, u1, some (.int place), some (.int value), some (tI part), some (.int bottom), some (.int q), some (.int w)], m ++ t, [u0, u1, some (.int place), some (.int value), some (tI part), some (.int bottom), some (.int q), some (.int w)], m ++ t, rfl, ?_, t, part, bottom, some (.int q), some (.int w), rfl, rfl, h3, ?_, h5, h6, ?_, fun x => ?_⟩
        · have hd : decide (q = place) = true := decide_eq_true hq
          clear hq hu h h3 h4 h7 h8 htk hps
          walk_at "ev"
        · rw [cntNe_append]; simp [cntNe, hq]; omega
        · rw [prodNe_append]; simp [prodNe, hq]; exact h7
        · rw [prodNe_append]; simp [prodNe, hq]; exact h8 x
      · have hs2 : small [(0 - q) % 997, 1] := fun c hc' => by
          simp only [List.mem_cons, List.not_mem_nil, or_false] at hc'
          rcases hc' with e | e <;> omega
        obtain ⟨r, t2, e2, M⟩ := p_law_times part [(0 - q) % 997, 1] (okC.small h3) hs2 (by omega) (by simp) (m ++ t)
        have e2' : d_law_times [tI part, .tup [.int ((0 - q) % 997), .int 1]] (m ++ t) = .ok (tI r) (m ++ t ++ t2) := e2
        have hrl : r.length ≤ part.length + 1 := M.le (L := mulL part [(0 - q) % 997, 1]) (fun x => Cg.of (mulL_E x _ _)) (by have := mulL_le part [(0 - q) % 997, 1] (by simp); simp only [List.length_cons, List.length_nil] at this; omega) (by simp; omega) (by omega)
        refine ⟨[u0, u1, some (.int place), some (.int value), some (tI part), some (.int bottom), some (.int q), some (.int w)], m ++ t, [u0, u1, some (.int place), some (.int value), some (tI r), some (.int (bottom * (place - q) % 997)), some (.int q), some (.int w)], m ++ t ++ t2, rfl, ?_, t ++ t2, r, bottom * (place - q) % 997, some (.int q), some (.int w), rfl, by simp, M.ok.1, ?_, by omega, by omega, ?_, fun x => ?_⟩
        · have hd : decide (q = place) = false := decide_eq_false hq
          clear hq hu h h3 h4 h7 h8 htk hps e2 M hs2 hrl
          walk_at "ev"
        · rw [cntNe_append]; simp [cntNe, hq]; omega
        · rw [prodNe_append]; simp [prodNe, hq]
          exact (Cg.mod _).trans (h7.mul (Cg.rfl' _))
        · rw [prodNe_append]; simp [prodNe, hq]
          obtain ⟨k, hk⟩ := M.val x
          obtain ⟨l, hl'⟩ := h8 x
          have hE : E x [(0 - q) % 997, 1] = x - q - 997 * ((0 - q) / 997) := by simp only [E]; omega
          refine ⟨k + l * (x - q) - E x part * ((0 - q) / 997), ?_⟩
          rw [hk, hE, Int.mul_sub, ← Int.mul_assoc value]
          rw [show E x part * (x - q) = (value * prodNe place x ps + 997 * l) * (x - q) by rw [← hl']]
          grind) [u0, u1, some (.int place), some (.int value), some (tI [value]), some (.int 1), s6, s7] m ⟨[], [value], 1, s6, s7, rfl, by simp, fun c hc => by rw [List.mem_singleton.mp hc]; exact hv, by simp [cntNe], by omega, by omega, Cg.of (by simp [prodNe]), fun x => Cg.of (by simp [E, prodNe])⟩
  subst h1; subst h2
  rw [List.length_map, List.take_length] at h4 h7 h8
  exact ⟨part, bottom, a, b, t, e, h3, h4, h5, h6, h7, h8⟩
end My

set_option Elab.async false
set_option linter.all false
set_option maxRecDepth 100000
set_option maxHeartbeats 2000000
namespace My
open PySem L2 Ev PM
local macro_rules | `(tactic| walk_at "ev") => `(tactic| simp (disch := first | assumption | omega | simp; done | (simp only [List.length_map, List.length_append, List.length_cons, List.length_nil, List.length_replicate]; omega)) only [runB_e, List.length_cons, List.length_nil, List.length_map, Nat.reduceAdd, Nat.reduceSub, List.reduceReplicate, List.map_cons, List.map_nil, List.cons_append, List.nil_append, List.append_nil, List.set_cons_zero, List.set_cons_succ, List.getElem?_cons_zero, List.getElem?_cons_succ, evB, evX, evS, evO, evR, evR2, evI, evJ, nums_ints, flat_rep, Option.map_some, List.getElem?_append_left, dSlot_d, oMulG_a, oMulG_b, oMod_e, oTup_e, oLst_e, oList_e, oAdd_t, oMulG_t, eqU_tI, eqU_nil, eqU_i, Bool.not_true, Bool.not_false, Bool.false_eq_true, if_true, if_false, if_pos, if_neg, mem_last, mem_setl, mem_mid, mem_setm, at3_0, at3_1, at3_2, ix3_0, ix3_2, decide_eq_true_eq, decide_true, decide_false, and_true, true_and, and_false, false_and, not_true_eq_false, not_false_eq_true, wipeU, *])
theorem p_law_through (pts : List (Int × Int)) (h : Pts pts) (hl : pts.length ≤ 60) (m : Mem) : ∃ r t, d_law_through [tP pts] m = .ok (tI r) (m ++ t) ∧ Made r pts.length fun x => lagr (pts.map (·.1)) (fun p => inv (prodNe p p (pts.map (·.1)))) x pts := by
  unfold d_law_through b_law_through
  obtain ⟨ρ', m', e, t, r, s2, s3, s4, s5, s6, s7, h1, h2, h3⟩ := forIx (g := gTup 2 (gCons (gName 2) (gCons (gName 3) gNil))) (b := (sSeq (sPar 4 5 (lCons (dTup (lCons (dSlot 3) lNil)) (lCons (dC (.int 1)) lNil)))
  (sSeq (sFor (iAny (dSlot 0)) (gTup 2 (gCons (gName 6) (gCons (gName 7) gNil))) (sIf (tBl (dOp oNe (dSlot 6) (dSlot 2))) (sSeq (sAsg (dCall d_law_times (lCons (dSlot 4) (lCons (dTup (lCons (dOp oMod (dB oInt (lCons (dOp oSub (dC (.int 0)) (dSlot 6)) lNil)) (dC (.int 997))) (lCons (dC (.int 1)) lNil))) lNil))) (gName 4))
  (sAsg (dOp oMod (dB oInt (lCons (dOp oMulG (dSlot 5) (dOp oSub (dSlot 2) (dSlot 6))) lNil)) (dC (.int 997))) (gName 5))) sNext))
  (sAsg (dCall d_law_plus (lCons (dSlot 1) (lCons (dCall d_law_times (lCons (dSlot 4) (lCons (dTup (lCons (dCall d_law_back (lCons (dSlot 5) lNil)) lNil)) lNil))) lNil))) (gName 1))))) (us := pts.map fun p => tI [p.1, p.2])
    (fun i ρ m' => ∃ t r s2 s3 s4 s5 s6 s7, ρ = [some (tP pts), some (tI r), s2, s3, s4, s5, s6, s7] ∧ m' = m ++ t ∧ Made r pts.length fun x => lagr (pts.map (·.1)) (fun p => inv (prodNe p p (pts.map (·.1)))) x (pts.take i))
    (fun i u ρ m' hu ⟨t, r, s2, s3, s4, s5, s6, s7, h1, h2, h3⟩ => by
      subst h1; subst h2
      obtain ⟨hi, rfl⟩ := pts_at hu
      have hc := h.cell (List.getElem_mem hi)
      have htk : pts.take (i + 1) = pts.take i ++ [pts[i]] := List.take_succ_eq_append_getElem hi
      rw [htk]
      have hmem : pts[i].1 ∈ pts.map (·.1) := List.mem_map_of_mem (List.getElem_mem hi)
      have hcl := cntNe_lt hmem
      rw [List.length_map] at hcl
      obtain ⟨part, bottom, a, b, t2, e1, hk, hpl, hb0, hb1, hb2, hpv⟩ := p_part (some (tP pts)) (some (tI r)) pts[i].1 pts[i].2 hc.1 hc.2 pts h hl s6 s7 (m ++ t)
      have hbz : ¬ Cg bottom 0 := fun z => prodNe_ne hc.1 h.pl.ok (hb2.symm.trans z)
      obtain ⟨y, e2, hy0, hy1, hy2⟩ := p_back bottom hbz (m ++ t ++ t2)
      have hys : small [y] := fun c hc' => by rw [List.mem_singleton.mp hc']; omega
      obtain ⟨w, t3, e3, M⟩ := p_law_times part [y] (okC.small hk) hys (by omega) (by simp) (m ++ t ++ t2)
      have e3' : d_law_times [tI part, .tup [.int y]] (m ++ t ++ t2) = .ok (tI w) (m ++ t ++ t2 ++ t3) := e3
      have hwl : w.length ≤ pts.length := M.le (L := part.map (y * ·)) (fun x => Cg.of (by rw [E_mul]; simp only [E]; grind)) (by rw [List.length_map]; omega) (by simp; omega) (by omega)
      obtain ⟨r2, t4, e4, M2⟩ := p_law_plus r w (by have := h3.len; omega) (by omega) (m ++ t ++ t2 ++ t3)
      have hW : Cg y (inv (prodNe pts[i].1 pts[i].1 (pts.map (·.1)))) := inv_uniq (((Cg.rfl' y).mul hb2.symm).trans hy2) (inv_mul (prodNe_ne hc.1 h.pl.ok))
      have hr2l : r2.length ≤ pts.length := by have := M2.len; have := h3.len; omega
      have hval : ∀ x, Cg (E x r2) (lagr (pts.map (·.1)) (fun p => inv (prodNe p p (pts.map (·.1)))) x (pts.take i ++ [pts[i]])) := fun x => by
        rw [lagr_append]
        refine (M2.val x).trans ((h3.val x).add ?_)
        refine (M.val x).trans ?_
        have hE : E x [y] = y := by simp [E]
        rw [hE]
        refine ((hpv x).mul hW).trans (Cg.of ?_)
        simp [lagr]
      refine ⟨[some (tP pts), some (tI r), some (.int pts[i].1), some (.int pts[i].2), s4, s5, s6, s7], m ++ t, [some (tP pts), some (tI r2), some (.int pts[i].1), some (.int pts[i].2), some (tI part), some (.int bottom), a, b], m ++ t ++ t2 ++ t3 ++ t4, rfl, ?_, t ++ t2 ++ t3 ++ t4, r2, _, _, _, _, _, _, rfl, by simp, M2.ok, hr2l, hval⟩
      have e1' : forL (gTup 2 (gCons (gName 6) (gCons (gName 7) gNil))) (sIf (tBl (dOp oNe (dSlot 6) (dSlot 2))) (sSeq (sAsg (dCall d_law_times (lCons (dSlot 4) (lCons (dTup (lCons (dOp oMod (dB oInt (lCons (dOp oSub (dC (.int 0)) (dSlot 6)) lNil)) (dC (.int 997))) (lCons (dC (.int 1)) lNil))) lNil))) (gName 4))
  (sAsg (dOp oMod (dB oInt (lCons (dOp oMulG (dSlot 5) (dOp oSub (dSlot 2) (dSlot 6))) lNil)) (dC (.int 997))) (gName 5))) sNext) (pts.map fun p => tI [p.1, p.2]) [some (tP pts), some (tI r), some (.int pts[i].1), some (.int pts[i].2), some (.tup [.int pts[i].2]), some (.int 1), s6, s7] (m ++ t) = .ok .nx [some (tP pts), some (tI r), some (.int pts[i].1), some (.int pts[i].2), some (tI part), some (.int bottom), a, b] (m ++ t ++ t2) := e1
      clear e1 e3 hu h h3 hk hpl hb2 hpv hbz hy2 hys M hwl M2 hW hr2l hval htk hmem hcl hc
      generalize pts[i].1 = p at *
      generalize pts[i].2 = v at *
      walk_at "ev") [some (tP pts), some (tI []), none, none, none, none, none, none] m ⟨[], [], none, none, none, none, none, none, rfl, by simp, ⟨by simp, by simp⟩, by simp, fun x => Cg.of (by simp [E, lagr])⟩
  subst h1; subst h2
  rw [List.length_map, List.take_length] at h3
  refine ⟨r, t, ?_, h3⟩
  rw [show (some (tI []) : Option U) = some (.tup []) from rfl] at e
  clear h h3
  walk_at "ev"
theorem lagr_pts {pts : List (Int × Int)} (h : Pts pts) : ∀ p ∈ pts, Cg (lagr (pts.map (·.1)) (fun p => inv (prodNe p p (pts.map (·.1)))) p.1 pts) p.2 :=
  lagr_at (fun p hp => inv_mul (prodNe_ne (h.pl.ok p hp) h.pl.ok)) h.pl.nd fun p hp => List.mem_map_of_mem hp
/-- a poly of few cells is told by its values -/
theorem lagr_all {pts : List (Int × Int)} (h : Pts pts) (hl : pts.length ≤ 60) {s : List Int} (hs : PM.okP s) (hsl : s.length ≤ pts.length) (hv : ∀ p ∈ pts, Cg (E p.1 s) p.2) (x : Int) : Cg (lagr (pts.map (·.1)) (fun p => inv (prodNe p p (pts.map (·.1)))) x pts) (E x s) := by
  obtain ⟨r, t, _, M⟩ := p_law_through pts h hl []
  have : r = s := eq_at M.ok hs h.pl.nd h.pl.ok (by rw [List.length_map]; exact M.len) (by rw [List.length_map]; exact hsl) (by rw [List.length_map]; omega) fun z hz => by
    obtain ⟨p, hp, rfl⟩ := List.mem_map.mp hz
    exact ((M.val p.1).trans (lagr_pts h p hp)).trans (hv p hp).symm
  subst this
  exact (M.val x).symm
end My

set_option Elab.async false
set_option linter.all false
set_option maxRecDepth 100000
set_option maxHeartbeats 2000000
namespace My
open PySem L2 Ev PM
local macro_rules | `(tactic| walk_at "ev") => `(tactic| simp (disch := first | assumption | omega | simp; done | (simp only [List.length_map, List.length_append, List.length_cons, List.length_nil, List.length_replicate]; omega)) only [runB_e, List.length_cons, List.length_nil, List.length_map, Nat.reduceAdd, Nat.reduceSub, List.reduceReplicate, List.map_cons, List.map_nil, List.cons_append, List.nil_append, List.append_nil, List.set_cons_zero, List.set_cons_succ, List.getElem?_cons_zero, List.getElem?_cons_succ, evB, evX, evS, evO, evR, evR2, evI, evJ, nums_ints, flat_rep, Option.map_some, List.getElem?_append_left, dSlot_d, oMulG_a, oMulG_b, oMod_e, oTup_e, oLst_e, oList_e, oAdd_t, oMulG_t, eqU_tI, eqU_nil, eqU_i, Bool.not_true, Bool.not_false, Bool.false_eq_true, if_true, if_false, if_pos, if_neg, mem_last, mem_setl, mem_mid, mem_setm, at3_0, at3_1, at3_2, ix3_0, ix3_2, decide_eq_true_eq, decide_true, decide_false, and_true, true_and, and_false, false_and, not_true_eq_false, not_false_eq_true, wipeU, *])
theorem forN_ix {nx : Nat → Mem → Option (Option U)} {g : GD} {b : SD} {us : List U} (I : Nat → Ev.Env → Mem → Prop) (hn : ∀ i ρ m, I i ρ m → nx i m = some us[i]?) (h : ∀ i u ρ m, us[i]? = some u → I i ρ m → ∃ ρ1 m1 ρ2 m2, g u ρ m = some (ρ1, m1) ∧ b ρ1 m1 = .ok .nx ρ2 m2 ∧ I (i + 1) ρ2 m2) : ∀ (k i : Nat) (ρ : Ev.Env) (m : Mem), us.length < i + (k + 1) → i ≤ us.length → I i ρ m → ∃ ρ' m', forN nx g b (k + 1) i ρ m = .ok .nx ρ' m' ∧ I us.length ρ' m'
  | k, i, ρ, m, hk, hi, hI => by
    by_cases hlt : i < us.length
    · cases k with
      | zero => omega
      | succ k =>
        have hu : us[i]? = some us[i] := List.getElem?_eq_getElem hlt
        obtain ⟨ρ1, m1, ρ2, m2, e1, e2, h2⟩ := h i us[i] ρ m hu hI
        obtain ⟨ρ', m', e3, h3⟩ := forN_ix I hn h k (i + 1) ρ2 m2 (by omega) (by omega) h2
        refine ⟨ρ', m', ?_, h3⟩
        rw [forN]
        simp only [hn i ρ m hI, hu, e1, thenO, e2, loopS, e3]
    · have : i = us.length := by omega
      subst this
      refine ⟨ρ, m, ?_, hI⟩
      rw [forN]
      simp only [hn _ ρ m hI, List.getElem?_eq_none (Nat.le_refl _)]
def nxR (n l : Nat) : Nat → Mem → Option (Option U) := fun i m => if i < l then (match cellAt m n with | some ws => (ws[l - 1 - i]?).map some | none => none) else some none
def nxZ (n k : Nat) : Nat → Mem → Option (Option U) := fun i m => match cellAt m n, cellAt m k with
  | some us, some ws => some (match us[i]?, ws[i]? with | some a, some b => some (.tup [a, b]) | _, _ => none)
  | _, _ => none
theorem cellAt_e {m : Mem} {n : Nat} {us : List U} (h : m[n]? = some (.lst us)) : cellAt m n = some us := by unfold cellAt; rw [h]
theorem nxR_e {m : Mem} {n : Nat} {us : List U} (h : m[n]? = some (.lst us)) (i : Nat) : nxR n us.length i m = some us.reverse[i]? := by
  unfold nxR
  rw [cellAt_e h]
  by_cases hi : i < us.length
  · rw [if_pos hi, List.getElem?_reverse hi]
    show (us[us.length - 1 - i]?).map some = some us[us.length - 1 - i]?
    rw [List.getElem?_eq_getElem (by omega)]; rfl
  · rw [if_neg hi, List.getElem?_eq_none (by simp; omega)]
theorem nxZ_e {m : Mem} {n k : Nat} {us ws : List U} (h : m[n]? = some (.lst us)) (h2 : m[k]? = some (.lst ws)) (i : Nat) : nxZ n k i m = some (zipU us ws)[i]? := by
  unfold nxZ
  rw [cellAt_e h, cellAt_e h2, zipU_get]
  try rfl
theorem srcR_e {m : Mem} {n : Nat} {us : List U} (h : m[n]? = some (.lst us)) : srcR m (.ref n) = some (.dyn (us.length + 1) (nxR n us.length)) := by
  show (match cellAt m n with | some us => some (Src.dyn (us.length + 1) (nxR n us.length)) | none => none) = _
  rw [cellAt_e h]
theorem srcZ_e {m : Mem} {n k : Nat} {us ws : List U} (h : m[n]? = some (.lst us)) (h2 : m[k]? = some (.lst ws)) : srcZ m (.ref n) (.ref k) = some (.dyn (us.length + 1) (nxZ n k)) := by
  show (match cellAt m n, cellAt m k with | some us, some ws => some (Src.dyn (us.length + 1) (nxZ n k)) | _, _ => none) = _
  rw [cellAt_e h, cellAt_e h2]
def prodL : List Int → Int
  | [] => 1
  | x :: r => x * prodL r
theorem prodL_append (a b : List Int) : prodL (a ++ b) = prodL a * prodL b := by
  induction a with
  | nil => simp [prodL]
  | cons x r ih => simp only [List.cons_append, prodL, ih]; grind
theorem getD_app {l : List Int} {v : Int} {k : Nat} : (l ++ [v]).getD k 0 = if k < l.length then l.getD k 0 else if k = l.length then v else 0 := by
  rw [List.getD_eq_getElem?_getD, List.getD_eq_getElem?_getD]
  by_cases h : k < l.length
  · rw [if_pos h, List.getElem?_append_left h]
  · rw [if_neg h, List.getElem?_append_right (by omega)]
    by_cases h2 : k = l.length
    · rw [if_pos h2, h2]; simp
    · rw [if_neg h2, List.getElem?_eq_none (by simp; omega)]; rfl
theorem mem2_0 (m : Mem) (a b : Cell) : (m ++ [a, b])[m.length]? = some a := by simp
theorem mem2_1 (m : Mem) (a b : Cell) : (m ++ [a, b])[m.length + 1]? = some b := by simp
theorem mem2_s0 (m : Mem) (a b d : Cell) : (m ++ [a, b]).set m.length d = m ++ [d, b] := by simp
theorem mem2_s1 (m : Mem) (a b d : Cell) : (m ++ [a, b]).set (m.length + 1) d = m ++ [a, d] := by
  rw [List.set_append_right _ _ (by omega)]; simp
/-- products from the front, from the back -/
structure Acc (A : List Int) (i : Nat) (P : Nat → Int) : Prop where
  len : A.length = i + 1
  bd : ∀ k, 0 ≤ A.getD k 0 ∧ A.getD k 0 < 997
  val : ∀ k, k ≤ i → Cg (A.getD k 0) (P k)
theorem Acc.next {A : List Int} {i : Nat} {P : Nat → Int} (h : Acc A i P) {f : Int} (hf : Cg (P (i + 1)) (P i * f)) : Acc (A ++ [A.getD i 0 * f % 997]) (i + 1) P := by
  refine ⟨by rw [List.length_append, h.len]; rfl, fun k => ?_, fun k hk => ?_⟩
  · rw [getD_app, h.len]
    split
    · exact h.bd k
    · split <;> omega
  · rw [getD_app, h.len]
    split
    · exact h.val k (by omega)
    · have : k = i + 1 := by omega
      rw [if_pos this, this]
      exact (Cg.mod _).trans (((h.val i (Nat.le_refl _)).mul (Cg.rfl' f)).trans hf.symm)
theorem Acc.start (P : Nat → Int) (h : P 0 = 1) : Acc [1] 0 P := ⟨rfl, fun k => by
  cases k with
  | zero => simp
  | succ k => simp, fun k hk => by
    have : k = 0 := by omega
    subst this; rw [h]; exact Cg.rfl' 1⟩
theorem last_of {A : List Int} {i : Nat} {P : Nat → Int} (h : Acc A i P) : atI (A.map U.int) (-1) = some (.int (A.getD i 0)) := by
  have hn : A ≠ [] := fun z => by have := h.len; rw [z] at this; simp at this
  have := last_at hn
  rwa [h.len, show i + 1 - 1 = i by omega] at this
theorem p_without (n : Nat) (fs : List Int) (hf : okC fs) (hl : fs.length ≤ 60) (m : Mem) (hm : m[n]? = some (cI fs)) : ∃ r t R, d_products_without [.ref n] m = .ok (.ref r) (m ++ t) ∧ (m ++ t)[r]? = some (cI R) ∧ R.length = fs.length ∧ okC R ∧ ∀ i, i < fs.length → Cg (R.getD i 0) (prodL (fs.take i) * prodL (fs.drop (i + 1))) := by
  unfold d_products_without b_products_without
  have hml : n < m.length := (List.getElem?_eq_some_iff.mp hm).1
  have hold : ∀ A B : Cell, (m ++ [A, B])[n]? = some (cI fs) := fun A B => mem_old hm
  obtain ⟨ρ', m', e1, A, a, h1, h2, hA⟩ := forN_ix (nx := nxL n) (g := gName 3) (b := sExpr (dM .list oAppend (dSlot 1) (lCons (dOp oMod (dOp oMulG (dOp oIx (dSlot 1) (dUn oNeg (dC (.int 1)))) (dSlot 3)) (dC (.int 997))) lNil))) (us := fs.map .int)
    (fun i ρ m' => ∃ A a, ρ = [some (.ref n), some (.ref m.length), some (.ref (m.length + 1)), a, none, none] ∧ m' = m ++ [cI A, cI [1]] ∧ Acc A i fun k => prodL (fs.take k))
    (fun i ρ m' ⟨A, a, h1, h2, h3⟩ => by subst h2; exact nxL_e (hold _ _) i)
    (fun i u ρ m' hu ⟨A, a, h1, h2, h3⟩ => by
      subst h1; subst h2
      obtain ⟨hi, rfl⟩ := ints_at hu
      have hlast := last_of h3
      have hb := h3.bd i
      have hx := h3.next (f := fs[i]) (Cg.of (by rw [List.take_succ_eq_append_getElem hi, prodL_append]; simp [prodL]))
      have g0 := mem2_0 m (cI A) (cI [1])
      have s0 := mem2_s0 m (cI A) (cI [1]) (cI (A ++ [A.getD i 0 * fs[i] % 997]))
      have hap : A.map U.int ++ [.int (A.getD i 0 * fs[i] % 997)] = (A ++ [A.getD i 0 * fs[i] % 997]).map U.int := by rw [List.map_append]; rfl
      have hAl := h3.len
      generalize hve : A.getD i 0 = v at *
      generalize fs[i] = f at *
      refine ⟨[some (.ref n), some (.ref m.length), some (.ref (m.length + 1)), some (.int f), none, none], m ++ [cI A, cI [1]], [some (.ref n), some (.ref m.length), some (.ref (m.length + 1)), some (.int f), none, none], m ++ [cI (A ++ [v * f % 997]), cI [1]], rfl, ?_, A ++ [v * f % 997], some (.int f), rfl, rfl, hx⟩
      have hlt : A.length < 16777216 := by omega
      clear h3 hx hu hm hold hml
      clear hAl hve
      walk_at "ev") fs.length 0 [some (.ref n), some (.ref m.length), some (.ref (m.length + 1)), none, none, none] (m ++ [cI [1], cI [1]]) (by rw [List.length_map]; omega) (by omega) ⟨[1], none, rfl, rfl, Acc.start _ rfl⟩
  subst h1; subst h2
  rw [List.length_map] at hA
  obtain ⟨ρ', m', e2, B, a2, h1, h2, hB⟩ := forN_ix (nx := nxR n (fs.map U.int).length) (g := gName 3) (b := sExpr (dM .list oAppend (dSlot 2) (lCons (dOp oMod (dOp oMulG (dOp oIx (dSlot 2) (dUn oNeg (dC (.int 1)))) (dSlot 3)) (dC (.int 997))) lNil))) (us := (fs.map U.int).reverse)
    (fun i ρ m' => ∃ B a, ρ = [some (.ref n), some (.ref m.length), some (.ref (m.length + 1)), a, none, none] ∧ m' = m ++ [cI A, cI B] ∧ Acc B i fun k => prodL (fs.drop (fs.length - k)))
    (fun i ρ m' ⟨B, a, h1, h2, h3⟩ => by subst h2; exact nxR_e (hold _ _) i)
    (fun i u ρ m' hu ⟨B, a, h1, h2, h3⟩ => by
      subst h1; subst h2
      rw [← List.map_reverse] at hu
      obtain ⟨hi, rfl⟩ := ints_at hu
      rw [List.length_reverse] at hi
      have hlast := last_of h3
      have hb := h3.bd i
      have hfe : fs.reverse[i]'(by rw [List.length_reverse]; exact hi) = fs[fs.length - 1 - i]'(by omega) := List.getElem_reverse _
      rw [hfe]
      have hx := h3.next (f := fs[fs.length - 1 - i]'(by omega)) (Cg.of (by
        rw [show fs.length - (i + 1) = fs.length - 1 - i by omega, List.drop_eq_getElem_cons (by omega), show fs.length - 1 - i + 1 = fs.length - i by omega, prodL]
        rw [Int.mul_comm]))
      have g0 := mem2_1 m (cI A) (cI B)
      have s0 := mem2_s1 m (cI A) (cI B) (cI (B ++ [B.getD i 0 * fs[fs.length - 1 - i]'(by omega) % 997]))
      have hap : B.map U.int ++ [.int (B.getD i 0 * fs[fs.length - 1 - i]'(by omega) % 997)] = (B ++ [B.getD i 0 * fs[fs.length - 1 - i]'(by omega) % 997]).map U.int := by rw [List.map_append]; rfl
      have hBl := h3.len
      clear hfe
      generalize hve : B.getD i 0 = v at *
      generalize fs[fs.length - 1 - i]'(by omega) = f at *
      refine ⟨[some (.ref n), some (.ref m.length), some (.ref (m.length + 1)), some (.int f), none, none], m ++ [cI A, cI B], [some (.ref n), some (.ref m.length), some (.ref (m.length + 1)), some (.int f), none, none], m ++ [cI A, cI (B ++ [v * f % 997])], rfl, ?_, B ++ [v * f % 997], some (.int f), rfl, rfl, hx⟩
      have hlt : B.length < 16777216 := by omega
      clear h3 hx hu hm hold hml hA e1
      clear hBl hve
      walk_at "ev") (fs.map U.int).length 0 [some (.ref n), some (.ref m.length), some (.ref (m.length + 1)), a, none, none] (m ++ [cI A, cI [1]]) (by simp) (by omega) ⟨[1], a, rfl, rfl, Acc.start _ (by simp [prodL])⟩
  subst h1; subst h2
  rw [List.length_reverse, List.length_map] at hB
  have gA := mem2_0 m (cI A) (cI B)
  have gB := mem2_1 m (cI A) (cI B)
  obtain ⟨t, e3⟩ := compL_ints (k := 5) (e := dOp oMod (dOp oMulG (dOp oIx (dSlot 1) (dSlot 5)) (dOp oIx (dSlot 2) (dOp oSub (dSlot 4) (dSlot 5)))) (dC (.int 997))) (ρ := [some (.ref n), some (.ref m.length), some (.ref (m.length + 1)), a2, some (.int (fs.length - 1)), none]) (P := fun m' => m'[m.length]? = some (cI A) ∧ m'[m.length + 1]? = some (cI B)) (f := fun i => .int (A.getD i.toNat 0 * B.getD (fs.length - 1 - i.toNat) 0 % 997)) (fun m t h => ⟨mem_old h.1, mem_old h.2⟩) (upto fs.length) (m ++ [cI A, cI B]) ⟨gA, gB⟩ (by
    intro i hi m' hP
    obtain ⟨k, hk, rfl⟩ := upto_mem hi
    refine ⟨[], ?_⟩
    have hAl := hA.len
    have hBl := hB.len
    have h1 := atI_ints (l := A) (i := k) (by omega)
    have h2 := atI_ints (l := B) (i := fs.length - 1 - k) (by omega)
    rw [← getD_at] at h1 h2
    have hb := hA.bd k
    obtain ⟨P1, P2⟩ := hP
    rw [show ((k : Int)).toNat = k by omega]
    have hix : (fs.length : Int) - 1 - (k : Int) = ((fs.length - 1 - k : Nat) : Int) := by omega
    generalize A.getD k 0 = x at *
    generalize B.getD (fs.length - 1 - k) 0 = y at *
    clear hAl hBl hA hB e1 e2 hi hk gA gB hm hold hml hf hl
    walk_at "ev")
  rw [← runI_ints] at e3
  refine ⟨(m ++ [cI A, cI B] ++ t).length, [cI A, cI B] ++ t ++ [cI ((upto fs.length).map fun i => A.getD i.toNat 0 * B.getD (fs.length - 1 - i.toNat) 0 % 997)], (upto fs.length).map fun i => A.getD i.toNat 0 * B.getD (fs.length - 1 - i.toNat) 0 % 997, ?_, ?_, by rw [List.length_map, upto_len], fun c hc => ?_, fun i hi => ?_⟩
  · rw [show (upto fs.length).map (fun i => U.int (A.getD i.toNat 0 * B.getD (fs.length - 1 - i.toNat) 0 % 997)) = (((upto fs.length).map fun i => A.getD i.toNat 0 * B.getD (fs.length - 1 - i.toNat) 0 % 997).map U.int) by rw [List.map_map]; rfl] at e3
    have hR : ((upto fs.length).map fun i => A.getD i.toNat 0 * B.getD (fs.length - 1 - i.toNat) 0 % 997).length ≤ 16777216 := by rw [List.length_map, upto_len]; omega
    generalize ((upto fs.length).map fun i => A.getD i.toNat 0 * B.getD (fs.length - 1 - i.toNat) 0 % 997) = R at *
    have hR2 : (R.map U.int).length ≤ 16777216 := by rw [List.length_map]; exact hR
    have hol := oList_e (m := m ++ [cI A, cI B] ++ t) hR2
    have hnn : ((fs.length : Nat) : Int).toNat = fs.length := by omega
    have hm1 := hold (cI A) (cI B)
    have hm2 := hold (cI [1]) (cI [1])
    have hm3 := hold (cI A) (cI [1])
    have hsr := srcR_e hm3
    have e1' : forN (nxL n) (gName 3) (sExpr (dM .list oAppend (dSlot 1) (lCons (dOp oMod (dOp oMulG (dOp oIx (dSlot 1) (dUn oNeg (dC (.int 1)))) (dSlot 3)) (dC (.int 997))) lNil))) (fs.length + 1) 0 [some (.ref n), some (.ref m.length), some (.ref (m.length + 1)), none, none, none] (m ++ [cI [1], cI [1]]) = .ok .nx [some (.ref n), some (.ref m.length), some (.ref (m.length + 1)), a, none, none] (m ++ [cI A, cI [1]]) := e1
    have i1 : m ++ [Cell.lst [U.int 1]] ++ [Cell.lst [U.int 1]] = m ++ [cI [1], cI [1]] := by simp
    have i2 : (m ++ [Cell.lst [U.int 1]]).length = m.length + 1 := by simp
    rw [List.length_map] at e2 hsr
    clear e1 hA hB hR hR2 hf hold hml gA gB
    walk_at "ev"
    simp only [List.append_assoc, List.cons_append, List.nil_append]
  · have := mem_last (m ++ [cI A, cI B] ++ t) (cI ((upto fs.length).map fun i => A.getD i.toNat 0 * B.getD (fs.length - 1 - i.toNat) 0 % 997))
    simpa using this
  · obtain ⟨i, hi, rfl⟩ := List.mem_map.mp hc
    omega
  · have hu : i < ((upto fs.length).map fun i => A.getD i.toNat 0 * B.getD (fs.length - 1 - i.toNat) 0 % 997).length := by rw [List.length_map, upto_len]; exact hi
    rw [getD_at hu, List.getElem_map, upto_at]
    rw [show ((i : Int)).toNat = i by omega]
    refine (Cg.mod _).trans (((hA.val i (by omega)).mul (hB.val (fs.length - 1 - i) (by omega))).trans (Cg.of ?_))
    rw [show fs.length - (fs.length - 1 - i) = i + 1 by omega]
end My

set_option Elab.async false
set_option linter.all false
set_option maxRecDepth 100000
set_option maxHeartbeats 2000000
namespace My
open PySem L2 Ev PM
local macro_rules | `(tactic| walk_at "ev") => `(tactic| simp (disch := first | assumption | omega | simp; done | (simp only [List.length_map, List.length_append, List.length_cons, List.length_nil, List.length_replicate]; omega)) only [runB_e, List.length_cons, List.length_nil, List.length_map, Nat.reduceAdd, Nat.reduceSub, List.reduceReplicate, List.map_cons, List.map_nil, List.cons_append, List.nil_append, List.append_nil, List.set_cons_zero, List.set_cons_succ, List.getElem?_cons_zero, List.getElem?_cons_succ, evB, evX, evS, evO, evR, evR2, evI, evJ, nums_ints, flat_rep, Option.map_some, List.getElem?_append_left, dSlot_d, oMulG_a, oMulG_b, oMod_e, oTup_e, oLst_e, oList_e, oAdd_t, oMulG_t, eqU_tI, eqU_nil, eqU_i, Bool.not_true, Bool.not_false, Bool.false_eq_true, if_true, if_false, if_pos, if_neg, mem_last, mem_setl, mem_mid, mem_setm, at3_0, at3_1, at3_2, ix3_0, ix3_2, decide_eq_true_eq, decide_true, decide_false, and_true, true_and, and_false, false_and, not_true_eq_false, not_false_eq_true, wipeU, *])
theorem p_pw_inner (u0 u1 : Option U) (place : Int) (ps : List Int) (m : Mem) (s4 : Option U) : ∃ v a, forL (gName 4) (sIf (tBl (dOp oNe (dSlot 4) (dSlot 2))) (sAsg (dOp oMod (dOp oMulG (dSlot 3) (dOp oSub (dSlot 2) (dSlot 4))) (dC (.int 997))) (gName 3)) sNext) (ps.map .int) [u0, u1, some (.int place), some (.int 1), s4] m = .ok .nx [u0, u1, some (.int place), some (.int v), a] m ∧ 0 ≤ v ∧ v < 997 ∧ Cg v (prodNe place place ps) := by
  obtain ⟨ρ', m', e, v, a, h1, h2, h3, h4, h5⟩ := forIx (g := gName 4) (b := sIf (tBl (dOp oNe (dSlot 4) (dSlot 2))) (sAsg (dOp oMod (dOp oMulG (dSlot 3) (dOp oSub (dSlot 2) (dSlot 4))) (dC (.int 997))) (gName 3)) sNext) (us := ps.map .int)
    (fun i ρ m' => ∃ v a, ρ = [u0, u1, some (.int place), some (.int v), a] ∧ m' = m ∧ 0 ≤ v ∧ v < 997 ∧ Cg v (prodNe place place (ps.take i)))
    (fun i u ρ m' hu ⟨v, a, h1, h2, h3, h4, h5⟩ => by
      subst h1; subst h2
      obtain ⟨hi, rfl⟩ := ints_at hu
      rw [List.take_succ_eq_append_getElem hi, prodNe_append]
      generalize ps[i] = q at *
      by_cases hq : q = place
      · refine ⟨[u0, u1, some (.int place), some (.int v), some (.int q)], m', [u0, u1, some (.int place), some (.int v), some (.int q)], m', rfl, ?_, v, some (.int q), rfl, rfl, h3, h4, ?_⟩
        · have hd : decide (q = place) = true := decide_eq_true hq
          clear hq hu h5
          walk_at "ev"
        · simp [prodNe, hq]; exact h5
      · refine ⟨[u0, u1, some (.int place), some (.int v), some (.int q)], m', [u0, u1, some (.int place), some (.int (v * (place - q) % 997)), some (.int q)], m', rfl, ?_, v * (place - q) % 997, some (.int q), rfl, rfl, by omega, by omega, ?_⟩
        · have hd : decide (q = place) = false := decide_eq_false hq
          clear hq hu h5
          walk_at "ev"
        · simp [prodNe, hq]
          exact (Cg.mod _).trans (h5.mul (Cg.rfl' _))) [u0, u1, some (.int place), some (.int 1), s4] m ⟨1, s4, rfl, rfl, by omega, by omega, Cg.of (by simp [prodNe])⟩
  subst h1; subst h2
  rw [List.length_map, List.take_length] at h5
  exact ⟨v, a, e, h3, h4, h5⟩
theorem p_weights (ps : List Int) (h : okC ps) (hl : ps.length ≤ 60) (m : Mem) : ∃ W, d_place_weights [tI ps] m = .ok (.ref m.length) (m ++ [cI W]) ∧ W.length = ps.length ∧ okC W ∧ ∀ i, i < ps.length → Cg (W.getD i 0 * prodNe (ps.getD i 0) (ps.getD i 0) ps) 1 := by
  unfold d_place_weights b_place_weights
  obtain ⟨ρ', m', e, W, a, b, c, h1, h2, h3, h4, h5⟩ := forIx (g := gName 2) (b := (sSeq (sAsg (dC (.int 1)) (gName 3))
  (sSeq (sFor (iAny (dSlot 0)) (gName 4) (sIf (tBl (dOp oNe (dSlot 4) (dSlot 2))) (sAsg (dOp oMod (dOp oMulG (dSlot 3) (dOp oSub (dSlot 2) (dSlot 4))) (dC (.int 997))) (gName 3)) sNext))
  (sExpr (dM .list oAppend (dSlot 1) (lCons (dCall d_inverse (lCons (dSlot 3) lNil)) lNil)))))) (us := ps.map .int)
    (fun i ρ m' => ∃ W a b c, ρ = [some (tI ps), some (.ref m.length), a, b, c] ∧ m' = m ++ [cI W] ∧ W.length = i ∧ okC W ∧ ∀ k, k < i → Cg (W.getD k 0 * prodNe (ps.getD k 0) (ps.getD k 0) ps) 1)
    (fun i u ρ m' hu ⟨W, a, b, c, h1, h2, h3, h4, h5⟩ => by
      subst h1; subst h2
      obtain ⟨hi, rfl⟩ := ints_at hu
      have hp := h _ (List.getElem_mem hi)
      have hgi : ps.getD i 0 = ps[i] := getD_at hi
      generalize ps[i] = p at *
      obtain ⟨v, d, e1, hv0, hv1, hv2⟩ := p_pw_inner (some (tI ps)) (some (.ref m.length)) p ps (m ++ [cI W]) c
      have hvz : ¬ Cg v 0 := fun z => prodNe_ne hp h (hv2.symm.trans z)
      obtain ⟨y, e2, hy0, hy1, hy2⟩ := p_inverse v hvz (m ++ [cI W])
      have hap : W.map U.int ++ [.int y] = (W ++ [y]).map U.int := by rw [List.map_append]; rfl
      refine ⟨[some (tI ps), some (.ref m.length), some (.int p), b, c], m ++ [cI W], [some (tI ps), some (.ref m.length), some (.int p), some (.int v), d], m ++ [cI (W ++ [y])], rfl, ?_, W ++ [y], some (.int p), some (.int v), d, rfl, rfl, by simp [h3], fun z hz => ?_, fun k hk => ?_⟩
      · have hlt : W.length < 16777216 := by omega
        clear hu h h3 h4 h5 hvz hy2 hv2 hp hgi hi
        walk_at "ev"
      · rcases List.mem_append.mp hz with hz | hz
        · exact h4 z hz
        · rw [List.mem_singleton.mp hz]; omega
      · rw [getD_app]
        by_cases hki : k < W.length
        · rw [if_pos hki]; exact h5 k (by omega)
        · have : k = i := by omega
          subst this
          rw [if_neg hki, if_pos (by omega), hgi]
          exact ((Cg.rfl' y).mul hv2.symm).trans hy2) [some (tI ps), some (.ref m.length), none, none, none] (m ++ [cI []]) ⟨[], none, none, none, rfl, rfl, rfl, (fun c hc => by cases hc), fun k hk => by omega⟩
  subst h1; subst h2
  rw [List.length_map] at h3 h5
  refine ⟨W, ?_, h3, h4, h5⟩
  have e' : forL (gName 2) (sSeq (sAsg (dC (.int 1)) (gName 3))
  (sSeq (sFor (iAny (dSlot 0)) (gName 4) (sIf (tBl (dOp oNe (dSlot 4) (dSlot 2))) (sAsg (dOp oMod (dOp oMulG (dSlot 3) (dOp oSub (dSlot 2) (dSlot 4))) (dC (.int 997))) (gName 3)) sNext))
  (sExpr (dM .list oAppend (dSlot 1) (lCons (dCall d_inverse (lCons (dSlot 3) lNil)) lNil))))) (ps.map U.int) [some (tI ps), some (.ref m.length), none, none, none] (m ++ [Cell.lst []]) = .ok .nx [some (tI ps), some (.ref m.length), a, b, c] (m ++ [cI W]) := e
  clear e h h3 h4 h5
  walk_at "ev"
theorem prodNe_split {ps : List Int} (hn : ps.Nodup) {i : Nat} (hi : i < ps.length) (x : Int) : prodNe ps[i] x ps = rootV x (ps.take i) * rootV x (ps.drop (i + 1)) := by
  have key : ∀ (l : List Int) (p : Int), p ∉ l → prodNe p x l = rootV x l := fun l p => by
    induction l with
    | nil => intro _; rfl
    | cons q r ih =>
      intro h
      have h1 : q ≠ p := fun z => h (z ▸ List.mem_cons_self ..)
      rw [prodNe, if_pos h1, rootV, ih fun z => h (List.mem_cons_of_mem _ z)]
  have e : ps = ps.take i ++ ps[i] :: ps.drop (i + 1) := by rw [← List.drop_eq_getElem_cons hi, List.take_append_drop]
  have hn2 : (ps.take i ++ ps[i] :: ps.drop (i + 1)).Nodup := e ▸ hn
  rw [List.nodup_append] at hn2
  obtain ⟨_, h2, h3⟩ := hn2
  have h4 := List.nodup_cons.mp h2
  have h5 : ps[i] ∉ ps.take i := fun z => h3 _ z _ (List.mem_cons_self ..) rfl
  have h6 := h4.1
  clear h2 h3 h4
  generalize ps[i] = p at *
  have e1 : prodNe p x ps = prodNe p x (ps.take i ++ p :: ps.drop (i + 1)) := congrArg (prodNe p x) e
  rw [e1, prodNe_append, key _ _ h5, prodNe, if_neg (fun z => z rfl), key _ _ h6]
theorem rootV_prod (x : Int) (l : List Int) : rootV x l = prodL (l.map fun p => x - p) := by
  induction l with
  | nil => rfl
  | cons p r ih => simp only [List.map_cons, rootV, prodL, ih]
theorem prodL_mod (l : List Int) : Cg (prodL (l.map (· % 997))) (prodL l) := by
  induction l with
  | nil => exact Cg.rfl' _
  | cons p r ih => simp only [List.map_cons, prodL]; exact (Cg.mod p).mul ih
def mulU : U → U
  | .tup [.int a, .int b] => .int (a * b % 997)
  | _ => .non
theorem zip_mul : ∀ (W R : List Int), (zipU (W.map .int) (R.map .int)).map mulU = (List.zipWith (fun a b => a * b % 997) W R).map U.int
  | [], _ => by simp [zipU]
  | _ :: _, [] => by simp [zipU]
  | a :: W, b :: R => by
    have ih := zip_mul W R
    show mulU (.tup [.int a, .int b]) :: (zipU (W.map .int) (R.map .int)).map mulU = _
    rw [ih]; rfl
theorem zip_len : ∀ (W R : List U), W.length = R.length → (zipU W R).length = W.length
  | [], _, _ => rfl
  | _ :: _, [], h => by simp at h
  | a :: W, b :: R, h => by
    have := zip_len W R (by simpa using h)
    simp [zipU, this]
theorem zip_mem : ∀ (W R : List Int) (u : U), u ∈ zipU (W.map .int) (R.map .int) → ∃ a b, u = .tup [.int a, .int b] ∧ a ∈ W ∧ b ∈ R
  | [], _, u, h => by simp [zipU] at h
  | _ :: _, [], u, h => by simp [zipU] at h
  | a :: W, b :: R, u, h => by
    rcases List.mem_cons.mp (show u ∈ (U.tup [.int a, .int b]) :: zipU (W.map .int) (R.map .int) from h) with e | h
    · exact ⟨a, b, e, List.mem_cons_self .., List.mem_cons_self ..⟩
    · obtain ⟨c, d, e, h1, h2⟩ := zip_mem W R u h
      exact ⟨c, d, e, List.mem_cons_of_mem _ h1, List.mem_cons_of_mem _ h2⟩
/-- the numbers that tell a value -/
structure Nums (ps : List Int) (g : Int) (N : List Int) : Prop where
  len : N.length = ps.length
  ok : okC N
  val : ∀ i, i < ps.length → Cg (N.getD i 0) (prodNe (ps.getD i 0) g ps * inv (prodNe (ps.getD i 0) (ps.getD i 0) ps))
theorem p_numbers_by (ps : List Int) (h : Places ps) (hl : ps.length ≤ 60) (g : Int) (w : Nat) (W : List Int) (hWl : W.length = ps.length) (hWk : okC W) (hW : ∀ i, i < ps.length → Cg (W.getD i 0 * prodNe (ps.getD i 0) (ps.getD i 0) ps) 1) (m : Mem) (hm : m[w]? = some (cI W)) : ∃ N t, d_numbers_by [tI ps, .ref w, .int g] m = .ok (tI N) (m ++ t) ∧ Nums ps g N := by
  unfold d_numbers_by b_numbers_by
  obtain ⟨t1, e1⟩ := compL_ints (k := 4) (e := dOp oMod (dOp oSub (dSlot 2) (dSlot 4)) (dC (.int 997))) (ρ := [some (tI ps), some (.ref w), some (.int g), none, none, none, none]) (P := fun _ => True) (f := fun i => .int ((g - i) % 997)) (fun _ _ _ => trivial) ps m trivial (by
    intro i hi m _
    refine ⟨[], ?_⟩
    clear h hWk hW hm
    walk_at "ev")
  rw [show ps.map (fun i => U.int ((g - i) % 997)) = ((ps.map fun p => (g - p) % 997)).map U.int by rw [List.map_map]; rfl] at e1
  have hfl : (ps.map fun p => (g - p) % 997).length = ps.length := List.length_map _
  have hfk : okC (ps.map fun p => (g - p) % 997) := fun c hc => by
    obtain ⟨p, _, rfl⟩ := List.mem_map.mp hc
    omega
  obtain ⟨r, t2, R, e2, hr, hRl, hRk, hRv⟩ := p_without (m ++ t1).length (ps.map fun p => (g - p) % 997) hfk (by omega) (m ++ t1 ++ [cI (ps.map fun p => (g - p) % 997)]) (mem_last _ _)
  rw [hfl] at hRl hRv
  have hmw : (m ++ t1 ++ [cI (ps.map fun p => (g - p) % 997)] ++ t2)[w]? = some (cI W) := mem_old (mem_old (mem_old hm))
  obtain ⟨t3, e3⟩ := compN_map (nx := nxZ w r) (g := gTup 2 (gCons (gName 5) (gCons (gName 6) gNil))) (e := dOp oMod (dOp oMulG (dSlot 5) (dSlot 6)) (dC (.int 997))) (ρ := [some (tI ps), some (.ref w), some (.int g), some (.ref r), none, none, none]) (F := mulU) (P := fun m' => m'[w]? = some (cI W) ∧ m'[r]? = some (cI R)) (us := zipU (W.map .int) (R.map .int)) (fun m t h => ⟨mem_old h.1, mem_old h.2⟩) (fun i m h => nxZ_e h.1 h.2 i) W.length 0 (m ++ t1 ++ [cI (ps.map fun p => (g - p) % 997)] ++ t2) ⟨hmw, hr⟩ (by rw [zip_len _ _ (by simp [hWl, hRl])]; simp) (by
    intro u hu m' _
    obtain ⟨a, b, rfl, ha, hb⟩ := zip_mem W R u hu
    refine ⟨[some (tI ps), some (.ref w), some (.int g), some (.ref r), none, some (.int a), some (.int b)], [], rfl, ?_⟩
    have ha0 := hWk a ha
    clear hW hWk hRk hRv hm hmw hr hu h e1 e2 hfk
    walk_at "ev"
    rfl)
  rw [List.drop_zero, zip_mul] at e3
  have hzl : (List.zipWith (fun a b => a * b % 997) W R).length = ps.length := by simp [hWl, hRl]
  refine ⟨List.zipWith (fun a b => a * b % 997) W R, t1 ++ [cI (ps.map fun p => (g - p) % 997)] ++ t2 ++ t3 ++ [cI (List.zipWith (fun a b => a * b % 997) W R)], ?_, hzl, fun c hc => ?_, fun i hi => ?_⟩
  · have hZ := srcZ_e hmw hr
    rw [List.length_map] at hZ
    have hi2 : ∀ (f : XL) ρ m, Ev.iZip f ρ m = (f ρ m).bind fun us m1 => match us with | [u, v] => ofB (srcZ m1 u v) m1 | _ => .bad := fun _ _ _ => rfl
    have hc2 : ∀ k nx g t e ρ m, compR g t e ρ (.dyn k nx) m = compN nx g t e ρ k 0 m := fun _ _ _ _ _ _ _ => rfl
    have o1 := oList_e (us := (ps.map fun p => (g - p) % 997).map U.int) (m := m ++ t1) (by rw [List.length_map, hfl]; omega)
    have o2 := oList_e (us := (List.zipWith (fun a b => a * b % 997) W R).map U.int) (m := m ++ t1 ++ [cI (ps.map fun p => (g - p) % 997)] ++ t2 ++ t3) (by rw [List.length_map, hzl]; omega)
    clear hfl hfk hRk hRv hW hWk h hzl hm
    generalize (ps.map fun p => (g - p) % 997) = fs at *
    generalize List.zipWith (fun a b => a * b % 997) W R = N at *
    clear hRl hWl
    walk_at "ev"
    simp only [List.append_assoc]
  · obtain ⟨i, hi, rfl⟩ := List.mem_iff_getElem.mp hc
    rw [List.getElem_zipWith]; omega
  · rw [getD_at (by omega), List.getElem_zipWith]
    have h1 := hW i hi
    have h2 := hRv i hi
    rw [getD_at (by omega)] at h1 h2
    rw [getD_at hi] at h1 ⊢
    have hp := h.ok _ (List.getElem_mem hi)
    have h3 : Cg W[i] (inv (prodNe ps[i] ps[i] ps)) := inv_uniq h1 (inv_mul (prodNe_ne hp h.ok))
    rw [prodNe_split h.nd hi g]
    have h4 : Cg (prodL ((ps.map fun p => (g - p) % 997).take i) * prodL ((ps.map fun p => (g - p) % 997).drop (i + 1))) (rootV g (ps.take i) * rootV g (ps.drop (i + 1))) := by
      rw [← List.map_take, ← List.map_drop, rootV_prod, rootV_prod]
      have hk : ∀ l : List Int, Cg (prodL (l.map fun p => (g - p) % 997)) (prodL (l.map fun p => g - p)) := fun l => by
        have := prodL_mod (l.map fun p => g - p)
        rwa [List.map_map] at this
      exact (hk _).mul (hk _)
    refine (Cg.mod _).trans ((h3.mul (h2.trans h4)).trans (Cg.of ?_))
    rw [← prodNe_split h.nd hi g, Int.mul_comm]
end My

set_option Elab.async false
set_option linter.all false
set_option maxRecDepth 100000
set_option maxHeartbeats 2000000
namespace My
open PySem L2 Ev PM
local macro_rules | `(tactic| walk_at "ev") => `(tactic| simp (disch := first | assumption | omega | simp; done | (simp only [List.length_map, List.length_append, List.length_cons, List.length_nil, List.length_replicate]; omega)) only [runB_e, List.length_cons, List.length_nil, List.length_map, Nat.reduceAdd, Nat.reduceSub, List.reduceReplicate, List.map_cons, List.map_nil, List.cons_append, List.nil_append, List.append_nil, List.set_cons_zero, List.set_cons_succ, List.getElem?_cons_zero, List.getElem?_cons_succ, evB, evX, evS, evO, evR, evR2, evI, evJ, nums_ints, flat_rep, Option.map_some, List.getElem?_append_left, dSlot_d, oMulG_a, oMulG_b, oMod_e, oTup_e, oLst_e, oList_e, oAdd_t, oMulG_t, eqU_tI, eqU_nil, eqU_i, Bool.not_true, Bool.not_false, Bool.false_eq_true, if_true, if_false, if_pos, if_neg, mem_last, mem_setl, mem_mid, mem_setm, at3_0, at3_1, at3_2, ix3_0, ix3_2, decide_eq_true_eq, decide_true, decide_false, and_true, true_and, and_false, false_and, not_true_eq_false, not_false_eq_true, wipeU, *])
theorem p_numbers_at (ps : List Int) (h : Places ps) (hl : ps.length ≤ 60) (g : Int) (hg0 : 0 ≤ g) (hg1 : g ≤ 996) (m : Mem) : ∃ N t, d_numbers_at [tI ps, .int g] m = .ok (tI N) (m ++ t) ∧ Nums ps g N := by
  unfold d_numbers_at b_numbers_at
  obtain ⟨t, e⟩ := p_places ps h hl m
  have e2 := p_checknum g 0 996 (m ++ t) (by decide) (by decide) hg0 hg1
  obtain ⟨W, e3, h1, h2, h3⟩ := p_weights ps h.ok hl (m ++ t)
  obtain ⟨N, t2, e4, hN⟩ := p_numbers_by ps h hl g (m ++ t).length W h1 h2 h3 (m ++ t ++ [cI W]) (mem_last _ _)
  refine ⟨N, t ++ [cI W] ++ t2, ?_, hN⟩
  clear h h2 h3 hN
  walk_at "ev"
  simp only [List.append_assoc]
theorem oPop_i {n : Nat} {us : List U} {i : Int} {m : Mem} (hm : m[n]? = some (.lst us)) (h0 : 0 ≤ i) (h1 : i < us.length) (h2 : us.length ≤ 100000) : oPop (.ref n) [.int i] m = some (us[i.toNat]'(by omega), m.set n (.lst (us.eraseIdx i.toNat))) := by
  have hs : seqIndex? i us.length = some i.toNat := (ixN_seq (ixN_at h0 h1)).1
  show (match m[n]? with | some (.lst us) => if -(2 ^ 63) ≤ i ∧ i < 2 ^ 63 then (match seqIndex? i us.length with | some k => (us[k]?).map fun u => (u, m.set n (.lst (us.eraseIdx k))) | none => none) else none | _ => none) = _
  simp only [hm]
  rw [if_pos (by omega)]
  simp only [hs]
  rw [List.getElem?_eq_getElem (by omega)]; rfl
theorem erase_map : ∀ (l : List Int) (k : Nat), (l.map U.int).eraseIdx k = (l.eraseIdx k).map U.int
  | [], _ => rfl
  | _ :: _, 0 => rfl
  | a :: l, k + 1 => by
    show U.int a :: (l.map U.int).eraseIdx k = _
    rw [erase_map l k]; rfl
theorem erase_no : ∀ (l : List Int) (k : Nat) (h : k < l.length), l.Nodup → l[k] ∉ l.eraseIdx k
  | [], _, h, _ => by simp at h
  | a :: l, 0, _, hn => (List.nodup_cons.mp hn).1
  | a :: l, k + 1, h, hn => by
    have hn' := List.nodup_cons.mp hn
    have hk : k < l.length := by simpa using h
    show l[k] ∉ a :: l.eraseIdx k
    intro z
    rcases List.mem_cons.mp z with e | z
    · exact hn'.1 (e ▸ List.getElem_mem hk)
    · exact erase_no l k hk hn'.2 z
theorem _root_.Ev.Gr.setN {c l : Nat} {m0 m : Mem} (h : Gr c m0 m) (hl : m0.length ≤ l) (hw : Well c m0) (x : Cell) : Gr c m0 (m.set l x) := by
  obtain ⟨_, _, _, e⟩ := hw
  have hc := (List.getElem?_eq_some_iff.mp e).1
  obtain ⟨a, b, d, e2⟩ := h.well
  refine ⟨by have := h.len; simpa using this, ⟨a, b, d, by rw [List.getElem?_set_ne (by omega)]; exact e2⟩, fun n hn hnl => ?_⟩
  rw [List.getElem?_set_ne (by omega)]; exact h.old n hn hnl
theorem p_unlike (c : Nat) (k n : Nat) (hk : k ≤ n) (hn : n ≤ 997) (m : Mem) (hw : Well c m) : ∃ ps m', d_law_unlike [.ref c, .int k, .int n] m = .ok (tI ps) m' ∧ Places ps ∧ ps.length = k ∧ Gr c m m' := by
  unfold d_law_unlike b_law_unlike
  have hcl : c < m.length := by obtain ⟨_, _, _, q⟩ := hw; exact (List.getElem?_eq_some_iff.mp q).1
  obtain ⟨ρ', m', e, F, L, a, h1, hg, hL, hF, hFl, hLl, hFn, hLn, hdis, hFk, hLk⟩ := forIx (g := gName 5) (b := sExpr (dM .list oAppend (dSlot 4) (lCons (dM .list oPop (dSlot 3) (lCons (dCall d_law_ladle (lCons (dSlot 0) (lCons (dB oLen (lCons (dSlot 3) lNil)) lNil))) lNil)) lNil))) (us := runI 0 k)
    (fun i ρ m' => ∃ F L a, ρ = [some (.ref c), some (.int k), some (.int n), some (.ref m.length), some (.ref (m.length + 1)), a] ∧ Gr c m m' ∧ m'[m.length]? = some (cI L) ∧ m'[m.length + 1]? = some (cI F) ∧ F.length = i ∧ L.length = n - i ∧ F.Nodup ∧ L.Nodup ∧ (∀ x ∈ F, x ∉ L) ∧ okC F ∧ okC L)
    (fun i u ρ m' hu ⟨F, L, a, h1, hg, hL, hF, hFl, hLl, hFn, hLn, hdis, hFk, hLk⟩ => by
      subst h1
      obtain ⟨hi, rfl⟩ := run_at hu
      have hLp : 0 < L.length := by omega
      obtain ⟨j, m1, e1, hj0, hj1, g1⟩ := p_ladle c L.length (by omega) (by omega) m' hg.well
      have hL1 := g1.get (by omega) hL
      have hF1 := g1.get (by omega) hF
      obtain ⟨jn, rfl⟩ : ∃ jn : Nat, j = jn := ⟨j.toNat, by omega⟩
      have hjn : jn < L.length := by omega
      have hp := oPop_i (i := (jn : Int)) hL1 (by omega) (by simp; omega) (by simp; omega)
      have hxe : (L.map U.int)[((jn : Int)).toNat]'(by simp; omega) = .int (L[jn]) := by
        simp
      rw [hxe, show ((jn : Int)).toNat = jn by omega, erase_map] at hp
      have hno := erase_no L jn hjn hLn
      have hxm : L[jn] ∈ L := List.getElem_mem hjn
      have hxF : L[jn] ∉ F := fun z => hdis _ z hxm
      have hlen1 : m.length < m1.length := (List.getElem?_eq_some_iff.mp hL1).1
      have hlen2 : m.length + 1 < m1.length := (List.getElem?_eq_some_iff.mp hF1).1
      have hEl : (L.eraseIdx jn).length = n - (i + 1) := by rw [List.length_eraseIdx_of_lt hjn]; omega
      have hF2 : (m1.set m.length (cI (L.eraseIdx jn)))[m.length + 1]? = some (cI F) := by rw [List.getElem?_set_ne (by omega)]; exact hF1
      have hap : F.map U.int ++ [.int L[jn]] = (F ++ [L[jn]]).map U.int := by rw [List.map_append]; rfl
      have hFlt : F.length < 16777216 := by omega
      refine ⟨[some (.ref c), some (.int k), some (.int n), some (.ref m.length), some (.ref (m.length + 1)), some (.int i)], m', [some (.ref c), some (.int k), some (.int n), some (.ref m.length), some (.ref (m.length + 1)), some (.int i)], (m1.set m.length (cI (L.eraseIdx jn))).set (m.length + 1) (cI (F ++ [L[jn]])), rfl, ?_, F ++ [L[jn]], L.eraseIdx jn, some (.int i), rfl, ((hg.trans g1).setN (Nat.le_refl _) hw _).setN (by omega) hw _, ?_, ?_, by simp [hFl], hEl, ?_, hLn.sublist (List.eraseIdx_sublist ..), ?_, ?_, fun z hz => hLk z (List.mem_of_mem_eraseIdx hz)⟩
      · generalize L[jn] = x at *
        generalize L.eraseIdx jn = L2 at *
        clear hu hi hg hFn hLn hdis hFk hLk g1 hxe hno hxm hxF hEl hFl hLl hLp hj0 hj1 hjn hlen1 hlen2 hw
        walk_at "ev"
      · rw [List.getElem?_set_ne (by omega), List.getElem?_set_self hlen1]
      · rw [List.getElem?_set_self (by simpa using hlen2)]
      · rw [List.nodup_append]
        exact ⟨hFn, by simp, fun x hx y hy z => hxF (by rw [← List.mem_singleton.mp hy, ← z]; exact hx)⟩
      · intro x hx
        rcases List.mem_append.mp hx with hx | hx
        · exact fun z => hdis x hx (List.mem_of_mem_eraseIdx z)
        · rw [List.mem_singleton.mp hx]; exact hno
      · intro x hx
        rcases List.mem_append.mp hx with hx | hx
        · exact hFk x hx
        · rw [List.mem_singleton.mp hx]; exact hLk _ hxm) [some (.ref c), some (.int k), some (.int n), some (.ref m.length), some (.ref (m.length + 1)), none] (m ++ [cI (upto n), cI []]) ⟨[], upto n, none, rfl, (Gr.refl hw).app _, mem2_0 _ _ _, mem2_1 _ _ _, rfl, by rw [upto_len]; rfl, by simp, (by
      rw [upto, List.nodup_iff_pairwise_ne, List.pairwise_map]
      exact List.nodup_range.imp fun h => by omega), by simp, (fun z hz => by cases hz), fun z hz => by
      obtain ⟨q, hq, rfl⟩ := upto_mem hz
      omega⟩
  subst h1
  rw [runI_len] at hFl
  refine ⟨F, m', ?_, ⟨hFk, hFn⟩, hFl, hg⟩
  have hkk : ((k : Nat) : Int).toNat = k := by omega
  have hnn : ((n : Nat) : Int) - 0 = n := by omega
  have hnn2 : ((n : Nat) : Int).toNat = n := by omega
  have hru := runI_ints n
  have i1 : m ++ [Cell.lst ((upto n).map U.int)] ++ [Cell.lst []] = m ++ [cI (upto n), cI []] := by simp
  have i2 : (m ++ [Cell.lst ((upto n).map U.int)]).length = m.length + 1 := by simp
  clear hg hw hcl hLl hFn hLn hdis hFk hLk hL
  walk_at "ev"
end My

set_option Elab.async false
set_option linter.all false
set_option maxRecDepth 100000
set_option maxHeartbeats 2000000
namespace My
open PySem L2 Ev PM
local macro_rules | `(tactic| walk_at "ev") => `(tactic| simp (disch := first | assumption | omega | simp; done | (simp only [List.length_map, List.length_append, List.length_cons, List.length_nil, List.length_replicate]; omega)) only [runB_e, List.length_cons, List.length_nil, List.length_map, Nat.reduceAdd, Nat.reduceSub, List.reduceReplicate, List.map_cons, List.map_nil, List.cons_append, List.nil_append, List.append_nil, List.set_cons_zero, List.set_cons_succ, List.getElem?_cons_zero, List.getElem?_cons_succ, evB, evX, evS, evO, evR, evR2, evI, evJ, nums_ints, flat_rep, Option.map_some, List.getElem?_append_left, dSlot_d, oMulG_a, oMulG_b, oMod_e, oTup_e, oLst_e, oList_e, oAdd_t, oMulG_t, eqU_tI, eqU_nil, eqU_i, Bool.not_true, Bool.not_false, Bool.false_eq_true, if_true, if_false, if_pos, if_neg, mem_last, mem_setl, mem_mid, mem_setm, at3_0, at3_1, at3_2, ix3_0, ix3_2, decide_eq_true_eq, decide_true, decide_false, and_true, true_and, and_false, false_and, not_true_eq_false, not_false_eq_true, wipeU, *])
theorem any_ints (x : Int) (l : List Int) : (l.map PyData.int).any (fun z => PyData.eqv z (.int x)) = decide (x ∈ l) := by
  induction l with
  | nil => rfl
  | cons a r ih =>
    rw [List.map_cons, List.any_cons, ih]
    show ((a == x) || _) = _
    by_cases h : a = x
    · subst h; simp
    · have h2 : (a == x) = false := by simpa using h
      rw [h2]
      have h3 : x ≠ a := fun z => h z.symm
      simp [h3]
theorem in_of {m : Mem} {y : U} {x : Int} {l : List Int} (hy : ∀ z, y ≠ .str z) (h : datsOf m y = some (l.map .int)) : oIn (.int x) y m = some (.bl (decide (x ∈ l)), m) := by
  have e : inU m (.int x) y = some (decide (x ∈ l)) := by
    unfold inU
    split
    · rename_i z; exact absurd rfl (hy z)
    · rw [h]
      show (if SeqAt.shaped (.int x) && SeqAt.shaped (.list (l.map .int)) then some _ else none) = _
      rw [shaped_lI, any_ints]; rfl
  show (inU m (.int x) y).map _ = _
  rw [e]; rfl
theorem in_t (m : Mem) (x : Int) (l : List Int) : oIn (.int x) (tI l) m = some (.bl (decide (x ∈ l)), m) := in_of (fun z h => by cases h) (by show datRL (resM m 5) (l.map .int) = _; exact datRL_ints _ l)
theorem in_r {m : Mem} {n : Nat} (x : Int) {l : List Int} (h : m[n]? = some (cI l)) : oIn (.int x) (.ref n) m = some (.bl (decide (x ∈ l)), m) := in_of (fun z h => by cases h) (by
  unfold datsOf
  rw [show itemsOf m (.ref n) = some (l.map .int) from by show (match m[n]? with | some (.lst us) => some us | _ => none) = _; rw [h]]
  exact datRL_ints _ l)
theorem sum_r {m : Mem} {n : Nat} {l : List Int} (h : m[n]? = some (cI l)) : oSum [.ref n] m = some (.int l.sum, m) := by
  show (match itemsOf m (.ref n) with | some us => if isT (.ref n) then none else (nums us).map fun ns : List Int => (U.int ns.sum, m) | none => none) = _
  rw [show itemsOf m (.ref n) = some (l.map .int) from by show (match m[n]? with | some (.lst us) => some us | _ => none) = _; rw [h]]
  show (nums (l.map U.int)).map _ = _
  rw [nums_ints]; rfl
/-- what the numbers tell of a poly -/
theorem nums_tell {ps : List Int} (h : Places ps) (hl : ps.length ≤ 60) {g : Int} {N : List Int} (hN : Nums ps g N) {s : List Int} (hs : PM.okP s) (hsl : s.length ≤ ps.length) : Cg (List.zipWith (fun a b => a * (E b s % 997)) N ps).sum (E g s) := by
  have hP : Pts (ps.map fun p => (p, E p s % 997)) := by
    have e : (ps.map fun p => (p, E p s % 997)).map (·.1) = ps := by rw [List.map_map]; exact List.map_id _
    refine ⟨by rw [e]; exact h, fun c hc => ?_⟩
    obtain ⟨q, hq, rfl⟩ := List.mem_map.mp hc
    obtain ⟨p, _, rfl⟩ := List.mem_map.mp hq
    show 0 ≤ E p s % 997 ∧ E p s % 997 ≤ 996
    omega
  have hl2 := lagr_all hP (by rw [List.length_map]; exact hl) hs (by rw [List.length_map]; exact hsl) (fun q hq => by
    obtain ⟨p, _, rfl⟩ := List.mem_map.mp hq
    exact (Cg.mod _).symm) g
  refine Cg.trans ?_ hl2
  rw [show (ps.map fun p => (p, E p s % 997)).map (·.1) = ps by rw [List.map_map]; exact List.map_id _]
  have key : ∀ (a b : List Int), a.length = b.length → (∀ i, i < b.length → Cg (a.getD i 0) (prodNe (b.getD i 0) g ps * inv (prodNe (b.getD i 0) (b.getD i 0) ps))) → Cg (List.zipWith (fun a b => a * (E b s % 997)) a b).sum (lagr ps (fun p => inv (prodNe p p ps)) g (b.map fun p => (p, E p s % 997))) := fun a => by
    induction a with
    | nil => intro b hb _; cases b with
      | nil => exact Cg.rfl' _
      | cons _ _ => simp at hb
    | cons x a ih =>
      intro b hb hv
      cases b with
      | nil => simp at hb
      | cons y b =>
        have h0 := hv 0 (by simp)
        have ih2 := ih b (by simpa using hb) fun i hi => by
          have := hv (i + 1) (by simpa using hi)
          simpa using this
        rw [List.zipWith_cons_cons, List.sum_cons, List.map_cons, lagr]
        refine Cg.add ?_ ih2
        have h1 : Cg x (prodNe y g ps * inv (prodNe y y ps)) := by simpa using h0
        refine (h1.mul (Cg.rfl' (E y s % 997))).trans (Cg.of ?_)
        show prodNe y g ps * inv (prodNe y y ps) * (E y s % 997) = (E y s % 997) * prodNe y g ps * inv (prodNe y y ps)
        grind
  exact key N ps hN.len hN.val
theorem nums_at {ps : List Int} (h : Places ps) {g : Int} {N : List Int} (hN : Nums ps g N) (hg : g ∈ ps) : N = ps.map fun p => if p = g then 1 else 0 := by
  refine List.ext_getElem (by rw [hN.len, List.length_map]) fun i h1 h2 => ?_
  rw [List.length_map] at h2
  have hv := hN.val i h2
  rw [getD_at h1, getD_at h2] at hv
  rw [List.getElem_map]
  have hb := hN.ok _ (List.getElem_mem h1)
  have hp := h.ok _ (List.getElem_mem h2)
  by_cases he : ps[i] = g
  · rw [if_pos he]
    rw [← he] at hv
    have hi := inv_mul (prodNe_ne hp h.ok)
    rw [Int.mul_comm] at hi
    exact (hv.trans hi).eq hb.1 (by omega) (by omega) (by omega)
  · rw [if_neg he]
    rw [prodNe_zero hg (fun z => he z.symm), Int.zero_mul] at hv
    exact hv.eq hb.1 (by omega) (by omega) (by omega)
end My

set_option Elab.async false
set_option linter.all false
set_option maxRecDepth 100000
set_option maxHeartbeats 2000000
namespace My
open PySem L2 Ev PM
local macro_rules | `(tactic| walk_at "ev") => `(tactic| simp (disch := first | assumption | omega | simp; done | (simp only [List.length_map, List.length_append, List.length_cons, List.length_nil, List.length_replicate]; omega)) only [runB_e, List.length_cons, List.length_nil, List.length_map, Nat.reduceAdd, Nat.reduceSub, List.reduceReplicate, List.map_cons, List.map_nil, List.cons_append, List.nil_append, List.append_nil, List.set_cons_zero, List.set_cons_succ, List.getElem?_cons_zero, List.getElem?_cons_succ, evB, evX, evS, evO, evR, evR2, evI, evJ, nums_ints, flat_rep, Option.map_some, List.getElem?_append_left, dSlot_d, oMulG_a, oMulG_b, oMod_e, oTup_e, oLst_e, oList_e, oAdd_t, oMulG_t, eqU_tI, eqU_nil, eqU_i, Bool.not_true, Bool.not_false, Bool.false_eq_true, if_true, if_false, if_pos, if_neg, mem_last, mem_setl, mem_mid, mem_setm, at3_0, at3_1, at3_2, ix3_0, ix3_2, decide_eq_true_eq, decide_true, decide_false, and_true, true_and, and_false, false_and, not_true_eq_false, not_false_eq_true, wipeU, *])
def mulE (s : List Int) : U → U
  | .tup [.int a, .int b] => .int (a * (E b s % 997))
  | _ => .non
theorem zip_mulE (s : List Int) : ∀ (W R : List Int), (zipU (W.map .int) (R.map .int)).map (mulE s) = (List.zipWith (fun a b => a * (E b s % 997)) W R).map U.int
  | [], _ => by simp [zipU]
  | _ :: _, [] => by simp [zipU]
  | a :: W, b :: R => by
    have ih := zip_mulE s W R
    show mulE s (.tup [.int a, .int b]) :: (zipU (W.map .int) (R.map .int)).map (mulE s) = _
    rw [ih]; rfl
theorem cut_ints (ps : List Int) : ∃ cs : List Int, cutU (ps.map U.int) none (some 2) = cs.map U.int ∧ ∀ c ∈ cs, c ∈ ps := by
  refine ⟨(ps.drop (HT.sIx ps.length 0 none)).take (HT.sIx ps.length ps.length (some 2) - HT.sIx ps.length 0 none), ?_, fun c hc => List.mem_of_mem_drop (List.mem_of_mem_take hc)⟩
  unfold cutU
  rw [List.length_map, List.map_take, List.map_drop]
theorem p_nturn (c : Nat) (ps : List Int) (h : Places ps) (hl : ps.length ≤ 60) (g : Int) (N : List Int) (hN : Nums ps g N) (s4 s5 s6 : Option U) (m : Mem) (hw : Well c m) :
    ∃ t5 t6 m', (sSeq (sAsg (dCall d_law_trim (lCons (dCall d_law_cells (lCons (dSlot 0) (lCons (dB oLen (lCons (dSlot 1) lNil)) lNil))) lNil)) (gName 5))
  (sSeq (sAsg (dB oSum (lCons (dLc (iZip (lCons (dSlot 3) (lCons (dSlot 1) lNil))) (gTup 2 (gCons (gName 7) (gCons (gName 8) gNil))) tYesU (dOp oMulG (dSlot 7) (dCall d_law_value (lCons (dSlot 5) (lCons (dSlot 8) lNil)))) [7, 8]) lNil)) (gName 6))
  (sIf (tBl (dOp oNe (dOp oMod (dB oInt (lCons (dSlot 6) lNil)) (dC (.int 997))) (dCall d_law_value (lCons (dSlot 5) (lCons (dSlot 2) lNil))))) (sRet (dC (.bl false))) sNext))) [some (.ref c), some (tI ps), some (.int g), some (tI N), s4, s5, s6, none, none] m = .ok .nx [some (.ref c), some (tI ps), some (.int g), some (tI N), s4, t5, t6, none, none] m' ∧ Gr c m m' := by
  obtain ⟨l, m1, e1, hlk, hll, g1⟩ := p_law_cells c ps.length (by omega) m hw
  obtain ⟨t1, e2⟩ := p_law_trim_t l m1 (by omega)
  have hs : PM.okP (trimL l) := trim_ok hlk
  have hsl : (trimL l).length ≤ ps.length := by have := trim_len l; omega
  generalize trimL l = s at *
  obtain ⟨t2, e3⟩ := compL_map (g := gTup 2 (gCons (gName 7) (gCons (gName 8) gNil))) (e := dOp oMulG (dSlot 7) (dCall d_law_value (lCons (dSlot 5) (lCons (dSlot 8) lNil)))) (ρ := [some (.ref c), some (tI ps), some (.int g), some (tI N), s4, some (tI s), s6, none, none]) (F := mulE s) (P := fun _ => True) (fun _ _ _ => trivial) (zipU (N.map .int) (ps.map .int)) (m1 ++ t1) trivial (by
    intro u hu m' _
    obtain ⟨a, b, rfl, ha, hb⟩ := zip_mem N ps u hu
    refine ⟨[some (.ref c), some (tI ps), some (.int g), some (tI N), s4, some (tI s), s6, some (.int a), some (.int b)], [], rfl, ?_⟩
    have ha0 := hN.ok a ha
    have ev := p_val s hs.1 b m'
    clear e1 e2 hs hN h hw g1 hu hlk hb ha
    walk_at "ev"
    rfl)
  rw [zip_mulE] at e3
  have htell := nums_tell h hl hN hs hsl
  have hzl : (List.zipWith (fun a b => a * (E b s % 997)) N ps).length = ps.length := by simp [hN.len]
  have hmod : (List.zipWith (fun a b => a * (E b s % 997)) N ps).sum % 997 = E g s % 997 := Cg.iff.mp htell
  generalize List.zipWith (fun a b => a * (E b s % 997)) N ps = Z at *
  have e4 := p_val s hs.1 g (m1 ++ t1 ++ t2 ++ [cI Z])
  refine ⟨some (tI s), some (.int Z.sum), m1 ++ t1 ++ t2 ++ [cI Z], ?_, ((g1.app t1).app t2).app _⟩
  have hol := oList_e (us := Z.map U.int) (m := m1 ++ t1 ++ t2) (by rw [List.length_map]; omega)
  have hsum := sum_r (mem_last (m1 ++ t1 ++ t2) (cI Z))
  have hZ : ∀ m, srcZ m (tI N) (tI ps) = some (.fix (zipU (N.map .int) (ps.map .int))) := fun _ => rfl
  have hi2 : ∀ (f : XL) ρ m, Ev.iZip f ρ m = (f ρ m).bind fun us m1 => match us with | [u, v] => ofB (srcZ m1 u v) m1 | _ => .bad := fun _ _ _ => rfl
  have hd : ∀ x : Int, decide (x = x) = true := fun x => decide_eq_true rfl
  clear hs hsl htell hN h hw g1 hlk hzl hll
  walk_at "ev"
theorem p_numbers_right (c : Nat) (ps : List Int) (h : Places ps) (hl : ps.length ≤ 11) (m : Mem) (hw : Well c m) : ∃ m', d_law_numbers_right [.ref c, tI ps] m = .ok (.bl true) m' ∧ Gr c m m' := by
  unfold d_law_numbers_right b_law_numbers_right
  obtain ⟨i, m1, e1, hi0, hi1, g1⟩ := p_ladle c 997 (by decide) (by decide) m hw
  obtain ⟨cs, hcut, hcs⟩ := cut_ints ps
  have hclt : c < m1.length := by obtain ⟨_, _, _, q⟩ := g1.well; exact (List.getElem?_eq_some_iff.mp q).1
  have hcsl : cs.length ≤ 60 := by
    have : (cutU (ps.map U.int) none (some 2)).length ≤ 60 := by
      unfold cutU
      rw [List.length_take, List.length_drop, List.length_map]; omega
    rw [hcut, List.length_map] at this; exact this
  obtain ⟨u, m2, e2, hu, g2⟩ := p_spoon c (m1 ++ [Cell.lst [.int i]] ++ [cI cs]).length (.int i :: cs.map U.int) (by simp; omega) (by simp) (by simp; omega) (m1 ++ [Cell.lst [.int i]] ++ [cI cs] ++ [Cell.lst (.int i :: cs.map U.int)]) (((g1.well.app _).app _).app _) (mem_last _ _)
  have hg : ∃ g, u = .int g ∧ 0 ≤ g ∧ g ≤ 996 := by
    rcases List.mem_cons.mp hu with e | hu
    · exact ⟨i, e, by omega, by omega⟩
    · obtain ⟨g, hg, rfl⟩ := List.mem_map.mp hu
      have := h.ok g (hcs g hg)
      exact ⟨g, rfl, this.1, this.2⟩
  obtain ⟨g, rfl, hg0, hg1⟩ := hg
  have gr2 : Gr c m m2 := g1.trans (Gr.from [Cell.lst [.int i]] (Gr.from [cI cs] (Gr.from [Cell.lst (.int i :: cs.map U.int)] g2)))
  obtain ⟨N, t3, e3, hN⟩ := p_numbers_at ps h (by omega) g hg0 hg1 m2
  obtain ⟨ρ', m4, e4, s4, s5, s6, h1, g4⟩ := forIx (g := gName 4) (us := runI 0 4) (b := (sSeq (sAsg (dCall d_law_trim (lCons (dCall d_law_cells (lCons (dSlot 0) (lCons (dB oLen (lCons (dSlot 1) lNil)) lNil))) lNil)) (gName 5))
  (sSeq (sAsg (dB oSum (lCons (dLc (iZip (lCons (dSlot 3) (lCons (dSlot 1) lNil))) (gTup 2 (gCons (gName 7) (gCons (gName 8) gNil))) tYesU (dOp oMulG (dSlot 7) (dCall d_law_value (lCons (dSlot 5) (lCons (dSlot 8) lNil)))) [7, 8]) lNil)) (gName 6))
  (sIf (tBl (dOp oNe (dOp oMod (dB oInt (lCons (dSlot 6) lNil)) (dC (.int 997))) (dCall d_law_value (lCons (dSlot 5) (lCons (dSlot 2) lNil))))) (sRet (dC (.bl false))) sNext))))
    (fun _ ρ m' => ∃ s4 s5 s6, ρ = [some (.ref c), some (tI ps), some (.int g), some (tI N), s4, s5, s6, none, none] ∧ Gr c m m')
    (fun i u ρ m' _ ⟨s4, s5, s6, h1, h2⟩ => by
      subst h1
      obtain ⟨t5, t6, m'', e, g5⟩ := p_nturn c ps h (by omega) g N hN (some u) s5 s6 m' h2.well
      exact ⟨_, m', _, m'', rfl, e, some u, t5, t6, rfl, h2.trans g5⟩) [some (.ref c), some (tI ps), some (.int g), some (tI N), none, none, none, none, none] (m2 ++ t3) ⟨none, none, none, rfl, gr2.app t3⟩
  subst h1
  have hlenN : decide (N.length = ps.length) = true := decide_eq_true hN.len
  have hsl : (∀ (ρ : Ev.Env) (m : Mem), pNone ρ m = .ok none m) ∧ (∀ ρ m, pSome (dC (.int 2)) ρ m = .ok (some 2) m) ∧ ∀ m, oSlice (tI ps) none (some 2) m = some (.tup (cs.map U.int), m) := ⟨fun _ _ => rfl, fun _ _ => rfl, fun m => by
    rw [← hcut]; rfl⟩
  have hsrc : iRange1 (lCons (dC (.int 4)) lNil) [some (.ref c), some (tI ps), some (.int g), some (tI N), none, none, none, none, none] (m2 ++ t3) = .ok (.fix (runI 0 4)) (m2 ++ t3) := rfl
  have hin := in_t m4 g ps
  have hlast : ∃ t, sSeq (sIf (tBl (dOp oIn (dSlot 2) (dSlot 1))) (sRet (dOp oEq (dB oToLst (lCons (dSlot 3) lNil)) (dLc (iAny (dSlot 1)) (gName 8) tYesU (dB oInt (lCons (dOp oEq (dSlot 8) (dSlot 2)) lNil)) [8]))) sNext) (sRet (dOp oNe (dCall d_value_at (lCons (dCall d_none_at (lCons (dSlot 1) lNil)) (lCons (dSlot 2) lNil))) (dC (.int 0)))) [some (.ref c), some (tI ps), some (.int g), some (tI N), s4, s5, s6, none, none] m4 = .ok (.rt (.bl true)) [some (.ref c), some (tI ps), some (.int g), some (tI N), s4, s5, s6, none, none] (m4 ++ t) := by
    by_cases hm : g ∈ ps
    · have hNe := nums_at h hN hm
      obtain ⟨t, e5⟩ := compL_ints (k := 8) (e := dB oInt (lCons (dOp oEq (dSlot 8) (dSlot 2)) lNil)) (ρ := [some (.ref c), some (tI ps), some (.int g), some (tI N), s4, s5, s6, none, none]) (P := fun _ => True) (f := fun p => .int (if p = g then 1 else 0)) (fun _ _ _ => trivial) ps (m4 ++ [cI N]) trivial (by
        intro p _ m' _
        refine ⟨[], ?_⟩
        by_cases hp : p = g
        · have hd : decide (p = g) = true := decide_eq_true hp
          rw [if_pos hp]
          clear hp e1 e2 e3 e4 g1 g2 hN hNe h hw gr2 g4 hsl hsrc hin hcut hu hm
          walk_at "ev"
        · have hd : decide (p = g) = false := decide_eq_false hp
          rw [if_neg hp]
          clear hp e1 e2 e3 e4 g1 g2 hN hNe h hw gr2 g4 hsl hsrc hin hcut hu hm
          walk_at "ev")
      rw [show ps.map (fun p => U.int (if p = g then 1 else 0)) = N.map U.int by rw [hNe, List.map_map]; rfl] at e5
      have hd : decide (g ∈ ps) = true := decide_eq_true hm
      have hol := oList_e (us := N.map U.int) (m := m4 ++ [cI N] ++ t) (by rw [List.length_map, hN.len]; omega)
      have hq := eqU_rr (m := m4 ++ [cI N] ++ t ++ [cI N]) (mem_old (mem_old (mem_last m4 (cI N)))) (mem_last (m4 ++ [cI N] ++ t) (cI N))
      rw [decide_eq_true rfl] at hq
      refine ⟨[cI N] ++ t ++ [cI N], ?_⟩
      clear e1 e2 e3 e4 g1 g2 hN hNe h hw gr2 g4 hsl hsrc hcut hu hm hlenN hcs
      walk_at "ev"
      simp only [List.append_assoc, List.cons_append, List.nil_append]
    · obtain ⟨r, t, e5, hM⟩ := p_none_at ps h (by omega) m4
      obtain ⟨t2, e6⟩ := p_vat r g hM.ok (by have := hM.len; omega) hg0 hg1 (m4 ++ t)
      have hd : decide (g ∈ ps) = false := decide_eq_false hm
      have hz : decide (E g r % 997 = 0) = false := decide_eq_false fun z => rootV_ne ⟨hg0, hg1⟩ h.ok hm ((hM.val g).symm.trans (Cg.iff.mpr (by rw [z]; rfl)))
      refine ⟨t ++ t2, ?_⟩
      clear e1 e2 e3 e4 g1 g2 hN hM h hw gr2 g4 hsl hsrc hcut hu hm hlenN hcs
      walk_at "ev"
      simp only [List.append_assoc]
  obtain ⟨t5, e5⟩ := hlast
  refine ⟨m4 ++ t5, ?_, g4.app t5⟩
  rw [runB_2]
  simp only [Nat.reduceSub, List.reduceReplicate, List.cons_append, List.nil_append]
  rw [seq_ok (asg_ok (u := .int g) (m' := m2) (by
    clear e3 e4 e5 g1 g2 hN h hw gr2 g4 hsrc hin hcut hu hlenN hcs
    walk_at "ev"))]
  simp only [List.set_cons_zero, List.set_cons_succ]
  rw [seq_ok (asg_ok (u := tI N) (m' := m2 ++ t3) (by
    clear e1 e2 e4 e5 g1 g2 hN h hw gr2 g4 hsrc hin hcut hu hlenN hcs hsl
    walk_at "ev"))]
  simp only [List.set_cons_zero, List.set_cons_succ]
  rw [seq_ok (if_no (m' := m2 ++ t3) (by
    clear e1 e2 e3 e4 e5 g1 g2 h hw gr2 g4 hsrc hin hcut hu hcs hsl
    have hd2 : decide ((N.length : Int) = (ps.length : Int)) = true := decide_eq_true (by rw [hN.len])
    clear hN hlenN
    walk_at "ev"))]
  rw [seq_ok (ρ' := [some (.ref c), some (tI ps), some (.int g), some (tI N), s4, s5, s6, none, none]) (m' := m4) (by
    rw [show ∀ f g b ρ m, sFor f g b ρ m = thenE (f ρ m) ρ fun s m1 => forR g b s ρ m1 from fun _ _ _ _ _ => rfl, hsrc]
    rw [evB.2.2.1]
    exact e4)]
  rw [e5]
  rfl
end My

set_option Elab.async false
set_option linter.all false
set_option maxRecDepth 100000
set_option maxHeartbeats 2000000
namespace My
open PySem L2 Ev PM
local macro_rules | `(tactic| walk_at "ev") => `(tactic| simp (disch := first | assumption | omega | simp; done | (simp only [List.length_map, List.length_append, List.length_cons, List.length_nil, List.length_replicate]; omega)) only [runB_e, List.length_cons, List.length_nil, List.length_map, Nat.reduceAdd, Nat.reduceSub, List.reduceReplicate, List.map_cons, List.map_nil, List.cons_append, List.nil_append, List.append_nil, List.set_cons_zero, List.set_cons_succ, List.getElem?_cons_zero, List.getElem?_cons_succ, evB, evX, evS, evO, evR, evR2, evI, evJ, nums_ints, flat_rep, Option.map_some, List.getElem?_append_left, dSlot_d, oMulG_a, oMulG_b, oMod_e, oTup_e, oLst_e, oList_e, oAdd_t, oMulG_t, eqU_tI, eqU_nil, eqU_i, Bool.not_true, Bool.not_false, Bool.false_eq_true, if_true, if_false, if_pos, if_neg, mem_last, mem_setl, mem_mid, mem_setm, at3_0, at3_1, at3_2, ix3_0, ix3_2, decide_eq_true_eq, decide_true, decide_false, and_true, true_and, and_false, false_and, not_true_eq_false, not_false_eq_true, wipeU, *])
theorem compL_no {g : GD} {t : XT} {e : XD} {ρ : Ev.Env} {P : Mem → Prop} (hP : ∀ m t, P m → P (m ++ t)) : ∀ (us : List U) (m : Mem), P m → (∀ u ∈ us, ∀ m, P m → ∃ ρ1 x, g u ρ m = some (ρ1, m) ∧ t ρ1 m = .ok false (m ++ x)) → ∃ x, compL g t e ρ us m = some ([], m ++ x)
  | [], m, _, _ => ⟨[], by simp [compL]⟩
  | u :: us, m, hm, h => by
    obtain ⟨ρ1, x, e1, e2⟩ := h u (List.mem_cons_self ..) m hm
    obtain ⟨x2, e3⟩ := compL_no (e := e) hP us (m ++ x) (hP _ _ hm) fun v hv => h v (List.mem_cons_of_mem _ hv)
    exact ⟨x ++ x2, by simp [compL, e1, toO, e2, e3]⟩
theorem at2_0 (x y : U) : atI [x, y] 0 = some x := rfl
theorem at2_1 (x y : U) : atI [x, y] 1 = some y := rfl
/-- what is told at a further place -/
theorem further_math {pts : List (Int × Int)} (h : Pts pts) (hl : pts.length ≤ 60) {told f : List Int} (ht : PM.okP told) (htl : told.length ≤ pts.length) (htv : ∀ p ∈ pts, Cg (E p.1 told) p.2) {a v : Int} (ha : 0 ≤ a ∧ a ≤ 996) (hv : 0 ≤ v ∧ v ≤ 996) (hno : a ∉ pts.map (·.1)) (hf : PM.okP f) (hfl : f.length ≤ pts.length + 1) (hfv : ∀ p ∈ pts ++ [(a, v)], Cg (E p.1 f) p.2) : E a f % 997 = v ∧ (decide (f = told) = decide (E a told % 997 = v)) := by
  have h1 : Cg (E a f) v := hfv (a, v) (List.mem_append_right _ (List.mem_singleton.mpr rfl))
  have h2 : E a f % 997 = v := by obtain ⟨k, hk⟩ := h1; omega
  refine ⟨h2, ?_⟩
  by_cases he : f = told
  · subst he
    rw [decide_eq_true rfl, decide_eq_true h2]
  · rw [decide_eq_false he]
    refine (decide_eq_false fun z => he ?_).symm
    have hn : ((pts ++ [(a, v)]).map (·.1)).Nodup := by
      rw [List.map_append, List.nodup_append]
      exact ⟨h.pl.nd, by simp, fun x hx y hy e => hno (by rw [← (List.mem_singleton.mp hy : y = a), ← e]; exact hx)⟩
    refine eq_at hf ht hn (fun c hc => ?_) (by simp; omega) (by simp; omega) (by simp; omega) fun c hc => ?_
    · rw [List.map_append] at hc
      rcases List.mem_append.mp hc with hc | hc
      · exact h.pl.ok c hc
      · rw [List.mem_singleton.mp hc]; exact ha
    · obtain ⟨p, hp, rfl⟩ := List.mem_map.mp hc
      refine (hfv p hp).trans (Cg.symm ?_)
      rcases List.mem_append.mp hp with hp | hp
      · exact htv p hp
      · rw [List.mem_singleton.mp hp]
        exact ⟨E a told / 997, by show E a told = v + 997 * _; omega⟩
theorem Pts.snoc {pts : List (Int × Int)} (h : Pts pts) {a v : Int} (ha : 0 ≤ a ∧ a ≤ 996) (hv : 0 ≤ v ∧ v ≤ 996) (hno : a ∉ pts.map (·.1)) : Pts (pts ++ [(a, v)]) := by
  refine ⟨⟨fun c hc => ?_, ?_⟩, fun c hc => ?_⟩
  · rw [List.map_append] at hc
    rcases List.mem_append.mp hc with hc | hc
    · exact h.pl.ok c hc
    · rw [List.mem_singleton.mp hc]; exact ha
  · rw [List.map_append, List.nodup_append]
    exact ⟨h.pl.nd, by simp, fun x hx y hy e => hno (by rw [← (List.mem_singleton.mp hy : y = a), ← e]; exact hx)⟩
  · rw [List.map_append] at hc
    rcases List.mem_append.mp hc with hc | hc
    · exact h.vs c hc
    · rw [List.mem_singleton.mp hc]; exact hv
/-- [point for point in points if value(poly, point[0]) != point[1]] is empty -/
theorem p_none_off (r : List Int) (hr : okC r) (pts : List (Int × Int)) (h : Pts pts) (hv : ∀ p ∈ pts, Cg (E p.1 r) p.2) (ρ : Ev.Env) (h2 : ∀ u, (ρ.set 9 u)[2]? = some (some (tI r))) (h9 : ∀ u, (ρ.set 9 u)[9]? = some u) (m : Mem) : ∃ x, compL (gName 9) (tBl (dOp oNe (dCall d_law_value (lCons (dSlot 2) (lCons (dOp oIx (dSlot 9) (dC (.int 0))) lNil))) (dOp oIx (dSlot 9) (dC (.int 1))))) (dSlot 9) ρ (pts.map fun p => tI [p.1, p.2]) m = some ([], m ++ x) :=
  compL_no (P := fun _ => True) (fun _ _ _ => trivial) _ m trivial fun u hu m' _ => by
    obtain ⟨p, hp, rfl⟩ := List.mem_map.mp hu
    have hc := h.cell hp
    have e := p_val r hr p.1 m'
    have hval : E p.1 r % 997 = p.2 := by obtain ⟨k, hk⟩ := hv p hp; omega
    rw [hval] at e
    have hd : decide (p.2 = p.2) = true := decide_eq_true rfl
    refine ⟨_, [], rfl, ?_⟩
    have g2 := h2 (some (tI [p.1, p.2]))
    have g9 := h9 (some (tI [p.1, p.2]))
    have i0 : ∀ m, oIx (tI [p.1, p.2]) (.int 0) m = some (.int p.1, m) := fun _ => rfl
    have i1 : ∀ m, oIx (tI [p.1, p.2]) (.int 1) m = some (.int p.2, m) := fun _ => rfl
    simp only [evX, evB, dSlot_d, g2, g9, i0, i1, e, evR, eqU_i, hd, Bool.not_true, List.append_nil]
    rfl
theorem p_none_off5 (r : List Int) (hr : PM.okP r) (hl : r.length ≤ 60) (pts : List (Int × Int)) (h : Pts pts) (hv : ∀ p ∈ pts, Cg (E p.1 r) p.2) (ρ : Ev.Env) (h2 : ∀ u, (ρ.set 9 u)[5]? = some (some (tI r))) (h9 : ∀ u, (ρ.set 9 u)[9]? = some u) (m : Mem) : ∃ x, compL (gName 9) (tBl (dOp oNe (dCall d_value_at (lCons (dSlot 5) (lCons (dOp oIx (dSlot 9) (dC (.int 0))) lNil))) (dOp oIx (dSlot 9) (dC (.int 1))))) (dSlot 9) ρ (pts.map fun p => tI [p.1, p.2]) m = some ([], m ++ x) :=
  compL_no (P := fun _ => True) (fun _ _ _ => trivial) _ m trivial fun u hu m' _ => by
    obtain ⟨p, hp, rfl⟩ := List.mem_map.mp hu
    have hc := h.cell hp
    obtain ⟨t, e⟩ := p_vat r p.1 hr hl hc.1.1 hc.1.2 m'
    have hval : E p.1 r % 997 = p.2 := by obtain ⟨k, hk⟩ := hv p hp; omega
    rw [hval] at e
    have hd : decide (p.2 = p.2) = true := decide_eq_true rfl
    refine ⟨_, t, rfl, ?_⟩
    have g2 := h2 (some (tI [p.1, p.2]))
    have g9 := h9 (some (tI [p.1, p.2]))
    have i0 : ∀ m, oIx (tI [p.1, p.2]) (.int 0) m = some (.int p.1, m) := fun _ => rfl
    have i1 : ∀ m, oIx (tI [p.1, p.2]) (.int 1) m = some (.int p.2, m) := fun _ => rfl
    simp only [evX, evB, dSlot_d, g2, g9, i0, i1, e, evR, eqU_i, hd, Bool.not_true]
    rfl
/-- [point[0] for point in points] -/
theorem p_firsts (pts : List (Int × Int)) (ρ : Ev.Env) (h9 : ∀ u, (ρ.set 9 u)[9]? = some u) (m : Mem) : ∃ x, compL (gName 9) tYesU (dOp oIx (dSlot 9) (dC (.int 0))) ρ (pts.map fun p => tI [p.1, p.2]) m = some ((pts.map (·.1)).map U.int, m ++ x) := by
  obtain ⟨x, e⟩ := compL_map (g := gName 9) (e := dOp oIx (dSlot 9) (dC (.int 0))) (ρ := ρ) (F := fstU) (P := fun _ => True) (fun _ _ _ => trivial) (pts.map fun p => tI [p.1, p.2]) m trivial (by
    intro u hu m' _
    obtain ⟨p, hp, rfl⟩ := List.mem_map.mp hu
    refine ⟨_, [], rfl, ?_⟩
    have g9 := h9 (some (tI [p.1, p.2]))
    have i0 : ∀ m, oIx (tI [p.1, p.2]) (.int 0) m = some (.int p.1, m) := fun _ => rfl
    simp only [evX, evB, dSlot_d, g9, i0, List.append_nil]
    rfl)
  rw [fst_map] at e
  exact ⟨x, e⟩
end My

set_option Elab.async false
set_option linter.all false
set_option maxRecDepth 100000
set_option maxHeartbeats 2000000
namespace My
open PySem L2 Ev PM
local macro_rules | `(tactic| walk_at "ev") => `(tactic| simp (disch := first | assumption | omega | simp; done | (simp only [List.length_map, List.length_append, List.length_cons, List.length_nil, List.length_replicate]; omega)) only [runB_e, List.length_cons, List.length_nil, List.length_map, Nat.reduceAdd, Nat.reduceSub, List.reduceReplicate, List.map_cons, List.map_nil, List.cons_append, List.nil_append, List.append_nil, List.set_cons_zero, List.set_cons_succ, List.getElem?_cons_zero, List.getElem?_cons_succ, evB, evX, evS, evO, evR, evR2, evI, evJ, nums_ints, flat_rep, Option.map_some, List.getElem?_append_left, dSlot_d, oMulG_a, oMulG_b, oMod_e, oTup_e, oLst_e, oList_e, oAdd_t, oMulG_t, eqU_tI, eqU_nil, eqU_i, Bool.not_true, Bool.not_false, Bool.false_eq_true, if_true, if_false, if_pos, if_neg, mem_last, mem_setl, mem_mid, mem_setm, at3_0, at3_1, at3_2, ix3_0, ix3_2, decide_eq_true_eq, decide_true, decide_false, and_true, true_and, and_false, false_and, not_true_eq_false, not_false_eq_true, wipeU, *])
theorem eqU_b (m : Mem) (a b : Bool) : eqU m (.bl a) (.bl b) = some (a == b) := rfl
theorem p_through_right (c : Nat) (pts : List (Int × Int)) (h : Pts pts) (hl : pts.length ≤ 11) (m : Mem) (hw : Well c m) : ∃ m', d_law_through_right [.ref c, tP pts] m = .ok (.bl true) m' ∧ Gr c m m' := by
  unfold d_law_through_right b_law_through_right
  -- told, none
  obtain ⟨told, t1, e1, ht, htl, htv⟩ := p_through pts h (by omega) m
  obtain ⟨t2, e2⟩ := p_firsts pts [some (.ref c), some (tP pts), none, none, none, none, none, none, none, none] (fun _ => rfl) (m ++ t1)
  have hpsl : (pts.map (·.1)).length = pts.length := List.length_map _
  obtain ⟨non, t3, e3, hM⟩ := p_none_at (pts.map (·.1)) h.pl (by omega) (m ++ t1 ++ t2 ++ [cI (pts.map (·.1))])
  have g3 := ((((Gr.refl hw).app t1).app t2).app [cI (pts.map (·.1))]).app t3
  have ho1 := oList_e (us := (pts.map (·.1)).map U.int) (m := m ++ t1 ++ t2) (by rw [List.length_map, hpsl]; omega)
  have st1 : sAsg (dTup (lCons (dCall d_through (lCons (dSlot 1) lNil)) (lCons (dCall d_none_at (lCons (dB oToTup (lCons (dLc (iAny (dSlot 1)) (gName 9) tYesU (dOp oIx (dSlot 9) (dC (.int 0))) [9]) lNil)) lNil)) lNil))) (gTup 2 (gCons (gName 2) (gCons (gName 3) gNil))) [some (.ref c), some (tP pts), none, none, none, none, none, none, none, none] m = .ok .nx [some (.ref c), some (tP pts), some (tI told), some (tI non), none, none, none, none, none, none] (m ++ t1 ++ t2 ++ [cI (pts.map (·.1))] ++ t3) := by
    clear ht htv hM g3 hw h htl
    generalize (pts.map (·.1)) = ps at *
    clear hpsl
    walk_at "ev"
  clear e1 e2 e3 ho1
  generalize m ++ t1 ++ t2 ++ [cI (pts.map (·.1))] ++ t3 = m1 at st1 g3
  -- the points
  obtain ⟨t4, e4⟩ := p_none_off told ht.1 pts h htv [some (.ref c), some (tP pts), some (tI told), some (tI non), none, none, none, none, none, none] (fun _ => rfl) (fun _ => rfl) m1
  have ho2 := oList_e (us := []) (m := m1 ++ t4) (by simp)
  have hq2 := eqU_rr (m := m1 ++ t4 ++ [Cell.lst []] ++ [Cell.lst []]) (a := []) (b := []) (n := (m1 ++ t4).length) (k := (m1 ++ t4 ++ [Cell.lst []]).length) (mem_old (mem_last _ _)) (mem_last _ _)
  rw [decide_eq_true rfl] at hq2
  have st3 : sIf (tBl (dOp oNe (dLc (iAny (dSlot 1)) (gName 9) (tBl (dOp oNe (dCall d_law_value (lCons (dSlot 2) (lCons (dOp oIx (dSlot 9) (dC (.int 0))) lNil))) (dOp oIx (dSlot 9) (dC (.int 1))))) (dSlot 9) [9]) (dLst lNil))) (sRet (dC (.bl false))) sNext [some (.ref c), some (tP pts), some (tI told), some (tI non), none, none, none, none, none, none] m1 = .ok .nx [some (.ref c), some (tP pts), some (tI told), some (tI non), none, none, none, none, none, none] (m1 ++ t4 ++ [Cell.lst []] ++ [Cell.lst []]) := by
    refine if_no ?_
    clear st1 ht htv hM g3 hw h htl hpsl
    walk_at "ev"
  have g4 := ((g3.app t4).app [Cell.lst []]).app [Cell.lst []]
  clear e4 ho2 hq2
  generalize m1 ++ t4 ++ [Cell.lst []] ++ [Cell.lst []] = m2 at st3 g4
  -- the law's own poly
  obtain ⟨r, t5, e5, hR⟩ := p_law_through pts h (by omega) m2
  have hrt : told = r := eq_at ht hR.ok h.pl.nd h.pl.ok (by omega) (by have := hR.len; omega) (by omega) fun z hz => by
    obtain ⟨p, hp, rfl⟩ := List.mem_map.mp hz
    exact (htv p hp).trans ((hR.val p.1).trans (lagr_pts h p hp)).symm
  subst hrt
  have hnn : non ≠ [] := fun z => by have := hM.len; rw [z] at this; simp at this
  have hnl := last_at hnn
  rw [hM.len, hpsl, show pts.length + 1 - 1 = pts.length by omega] at hnl
  have htop := hM.top
  rw [hpsl] at htop
  rw [htop] at hnl
  have st4 : sIf (tO (tBl (dOp oNe (dSlot 2) (dCall d_law_through (lCons (dSlot 1) lNil)))) (tO (tBl (dOp oNe (dB oLen (lCons (dSlot 3) lNil)) (dOp oAdd (dB oLen (lCons (dSlot 1) lNil)) (dC (.int 1))))) (tBl (dOp oNe (dOp oIx (dSlot 3) (dUn oNeg (dC (.int 1)))) (dC (.int 1)))))) (sRet (dC (.bl false))) sNext [some (.ref c), some (tP pts), some (tI told), some (tI non), none, none, none, none, none, none] m2 = .ok .nx [some (.ref c), some (tP pts), some (tI told), some (tI non), none, none, none, none, none, none] (m2 ++ t5) := by
    refine if_no ?_
    have hd : decide (told = told) = true := decide_eq_true rfl
    have hd2 : decide ((non.length : Int) = (pts.length : Int) + 1) = true := decide_eq_true (by have := hM.len; omega)
    have hd3 : decide ((1 : Int) = 1) = true := rfl
    clear st1 st3 ht htv hM g3 hw h htl hpsl hR g4 htop hnn
    walk_at "ev"
  have g5 := g4.app t5
  clear e5
  generalize m2 ++ t5 = m3 at st4 g5
  -- the places
  obtain ⟨t6, e6⟩ := p_firsts pts [some (.ref c), some (tP pts), some (tI told), some (tI non), none, none, none, none, none, none] (fun _ => rfl) m3
  have ho3 := oList_e (us := (pts.map (·.1)).map U.int) (m := m3 ++ t6) (by rw [List.length_map, hpsl]; omega)
  have st5 : sAsg (dLc (iAny (dSlot 1)) (gName 9) tYesU (dOp oIx (dSlot 9) (dC (.int 0))) [9]) (gName 4) [some (.ref c), some (tP pts), some (tI told), some (tI non), none, none, none, none, none, none] m3 = .ok .nx [some (.ref c), some (tP pts), some (tI told), some (tI non), some (.ref (m3 ++ t6).length), none, none, none, none, none] (m3 ++ t6 ++ [cI (pts.map (·.1))]) := by
    clear st1 st3 st4 ht htv hM g3 hw h htl hR g4 htop hnn g5 hnl
    generalize (pts.map (·.1)) = ps at *
    clear hpsl
    walk_at "ev"
  have g6 := (g5.app t6).app [cI (pts.map (·.1))]
  have hth := mem_last (m3 ++ t6) (cI (pts.map (·.1)))
  have hclt : c < m.length := by obtain ⟨_, _, _, q⟩ := hw; exact (List.getElem?_eq_some_iff.mp q).1
  have hrne : (m3 ++ t6).length ≠ c := by have := g5.len; simp; omega
  clear e6 ho3
  generalize (m3 ++ t6).length = th at st5 hth hrne
  generalize m3 ++ t6 ++ [cI (pts.map (·.1))] = m4 at st5 hth g6
  -- just the places
  obtain ⟨t7, e7⟩ := compL_no (g := gName 6) (t := tBl (dOp oNe (dOp oEq (dCall d_law_value (lCons (dSlot 3) (lCons (dSlot 6) lNil))) (dC (.int 0))) (dOp oIn (dSlot 6) (dSlot 4)))) (e := dSlot 6) (ρ := [some (.ref c), some (tP pts), some (tI told), some (tI non), some (.ref th), none, none, none, none, none]) (P := fun m' => m'[th]? = some (cI (pts.map (·.1)))) (fun m t h => mem_old h) (runI 0 997) m4 hth (by
    intro u hu m' hm'
    obtain ⟨i, hi⟩ := List.getElem?_of_mem hu
    obtain ⟨hi2, rfl⟩ := run_at hi
    have ev := p_val non hM.ok.1 i m'
    have hin := in_r (i : Int) hm'
    have hb : decide (E i non % 997 = 0) = decide ((i : Int) ∈ pts.map (·.1)) := by
      by_cases hm : (i : Int) ∈ pts.map (·.1)
      · rw [decide_eq_true hm]
        have := hM.val i
        rw [rootV_zero hm] at this
        exact decide_eq_true (Cg.iff.mp this)
      · rw [decide_eq_false hm]
        exact decide_eq_false fun z => rootV_ne (x := (i : Int)) ⟨by omega, by omega⟩ h.pl.ok hm ((hM.val i).symm.trans (Cg.iff.mpr (by rw [z]; rfl)))
    have hbb : ∀ (m : Mem) (b : Bool), eqU m (.bl b) (.bl b) = some true := fun m b => by rw [eqU_b]; cases b <;> rfl
    refine ⟨[some (.ref c), some (tP pts), some (tI told), some (tI non), some (.ref th), none, some (.int i), none, none, none], [], rfl, ?_⟩
    generalize decide ((i : Int) ∈ pts.map (·.1)) = bb at *
    clear st1 st3 st4 st5 ht htv hM g3 hw h htl hR g4 htop hnn g5 g6 hnl hi hi2 hu hm' hth
    walk_at "ev")
  have ho4 := oList_e (us := []) (m := m4 ++ t7) (by simp)
  have hq4 := eqU_rr (m := m4 ++ t7 ++ [Cell.lst []] ++ [Cell.lst []]) (a := []) (b := []) (n := (m4 ++ t7).length) (k := (m4 ++ t7 ++ [Cell.lst []]).length) (mem_old (mem_last _ _)) (mem_last _ _)
  rw [decide_eq_true rfl] at hq4
  have st6 : sIf (tBl (dOp oNe (dLc (iRange1 (lCons (dC (.int 997)) lNil)) (gName 6) (tBl (dOp oNe (dOp oEq (dCall d_law_value (lCons (dSlot 3) (lCons (dSlot 6) lNil))) (dC (.int 0))) (dOp oIn (dSlot 6) (dSlot 4)))) (dSlot 6) [6]) (dLst lNil))) (sRet (dC (.bl false))) sNext [some (.ref c), some (tP pts), some (tI told), some (tI non), some (.ref th), none, none, none, none, none] m4 = .ok .nx [some (.ref c), some (tP pts), some (tI told), some (tI non), some (.ref th), none, none, none, none, none] (m4 ++ t7 ++ [Cell.lst []] ++ [Cell.lst []]) := by
    refine if_no ?_
    have h997 : (997 : Int).toNat = 997 := rfl
    clear st1 st3 st4 st5 ht htv hM g3 hw h htl hpsl hR g4 htop hnn g5 g6 hnl hth
    walk_at "ev"
  have gg : Gr c m4 (m4 ++ t7 ++ [Cell.lst []] ++ [Cell.lst []]) := (((Gr.refl g6.well).app t7).app _).app _
  clear e7 ho4 hq4
  generalize m4 ++ t7 ++ [Cell.lst []] ++ [Cell.lst []] = m5 at st6 gg
  -- a further poly through them
  obtain ⟨s, m6, e8, hs, hsl, g8⟩ := p_law_poly c 4 (by decide) m5 gg.well
  have e8' : d_law_poly [.ref c, .int 4] m5 = .ok (tI s) m6 := e8
  have hnl2 : non.length ≤ 12 := by have := hM.len; omega
  obtain ⟨q, t8, e9, hQ⟩ := p_product non s hM.ok (by omega) hs (by omega) m6
  have hql := hQ.len
  obtain ⟨more, t9, e10, hMo⟩ := p_sum told q ht (by omega) hQ.ok (by omega) (m6 ++ t8)
  have hml := hMo.len
  have hmv : ∀ p ∈ pts, Cg (E p.1 more) p.2 := fun p hp => by
    obtain ⟨k1, hk1⟩ := hMo.val p.1
    obtain ⟨k2, hk2⟩ := hQ.val p.1
    obtain ⟨k3, hk3⟩ := hM.val p.1
    obtain ⟨k4, hk4⟩ := htv p hp
    rw [rootV_zero (List.mem_map_of_mem hp)] at hk3
    exact ⟨k1 + k2 + k4 + k3 * E p.1 s, by rw [hk1, hk2, hk3, hk4]; grind⟩
  obtain ⟨a, m7, e11, ha0, ha1, g11⟩ := p_ladle c 997 (by decide) (by decide) (m6 ++ t8 ++ t9) ((g8.well.app t8).app t9)
  have g7 : Gr c m4 m7 := gg.trans (g8.trans (Gr.from t8 (Gr.from t9 g11)))
  have st7 : sAsg (dTup (lCons (dCall d_poly_sum (lCons (dSlot 2) (lCons (dCall d_poly_product (lCons (dSlot 3) (lCons (dCall d_law_poly (lCons (dSlot 0) (lCons (dC (.int 4)) lNil))) lNil))) lNil))) (lCons (dCall d_law_ladle (lCons (dSlot 0) (lCons (dC (.int 997)) lNil))) lNil))) (gTup 2 (gCons (gName 5) (gCons (gName 6) gNil))) [some (.ref c), some (tP pts), some (tI told), some (tI non), some (.ref th), none, none, none, none, none] m5 = .ok .nx [some (.ref c), some (tP pts), some (tI told), some (tI non), some (.ref th), some (tI more), some (.int a), none, none, none] m7 := by
    clear st1 st3 st4 st5 st6 ht htv hM g3 hw h htl hpsl hR g4 htop hnn g5 g6 hnl hth e8 hQ hMo hmv g7 g8 g11 gg hs
    walk_at "ev"
  clear e8 e8' e9 e10 e11
  obtain ⟨t10, e12⟩ := p_none_off5 more hMo.ok (by omega) pts h hmv [some (.ref c), some (tP pts), some (tI told), some (tI non), some (.ref th), some (tI more), some (.int a), none, none, none] (fun _ => rfl) (fun _ => rfl) m7
  have ho5 := oList_e (us := []) (m := m7 ++ t10) (by simp)
  have hq5 := eqU_rr (m := m7 ++ t10 ++ [Cell.lst []] ++ [Cell.lst []]) (a := []) (b := []) (n := (m7 ++ t10).length) (k := (m7 ++ t10 ++ [Cell.lst []]).length) (mem_old (mem_last _ _)) (mem_last _ _)
  rw [decide_eq_true rfl] at hq5
  have st8 : sIf (tBl (dOp oNe (dLc (iAny (dSlot 1)) (gName 9) (tBl (dOp oNe (dCall d_value_at (lCons (dSlot 5) (lCons (dOp oIx (dSlot 9) (dC (.int 0))) lNil))) (dOp oIx (dSlot 9) (dC (.int 1))))) (dSlot 9) [9]) (dLst lNil))) (sRet (dC (.bl false))) sNext [some (.ref c), some (tP pts), some (tI told), some (tI non), some (.ref th), some (tI more), some (.int a), none, none, none] m7 = .ok .nx [some (.ref c), some (tP pts), some (tI told), some (tI non), some (.ref th), some (tI more), some (.int a), none, none, none] (m7 ++ t10 ++ [Cell.lst []] ++ [Cell.lst []]) := by
    refine if_no ?_
    clear st1 st3 st4 st5 st6 st7 ht htv hM g3 hw h htl hpsl hR g4 htop hnn g5 g6 hnl hth hQ hMo hmv g7 g8 g11 gg hs
    walk_at "ev"
  have g8' : Gr c m4 (m7 ++ t10 ++ [Cell.lst []] ++ [Cell.lst []]) := ((g7.app t10).app _).app _
  clear e12 ho5 hq5
  generalize m7 ++ t10 ++ [Cell.lst []] ++ [Cell.lst []] = m8 at st8 g8'
  have hth8 := g8'.get hrne hth
  have hin := in_r a hth8
  have st2 : sIf (tBl (dOp oGt (dB oLen (lCons (dSlot 2) lNil)) (dB oLen (lCons (dSlot 1) lNil)))) (sRet (dC (.bl false))) sNext [some (.ref c), some (tP pts), some (tI told), some (tI non), none, none, none, none, none, none] m1 = .ok .nx [some (.ref c), some (tP pts), some (tI told), some (tI non), none, none, none, none, none, none] m1 := by
    refine if_no ?_
    have hd : decide ((pts.length : Int) < (told.length : Int)) = false := decide_eq_false (by omega)
    clear st1 st3 st4 st5 st6 st7 st8 ht htv hM g3 hw h htl hpsl hR g4 htop hnn g5 g6 hnl hth hQ hMo hmv g7 g8 g11 gg hs hin hth8 g8'
    walk_at "ev"
  have hall : ∃ m9, (sSeq (sIf (tBl (dOp oIn (dSlot 6) (dSlot 4))) (sRet (dC (.bl true))) sNext)
  (sSeq (sAsg (dCall d_law_cell (lCons (dSlot 0) lNil)) (gName 7))
  (sSeq (sAsg (dCall d_through (lCons (dOp oAdd (dSlot 1) (dTup (lCons (dTup (lCons (dSlot 6) (lCons (dSlot 7) lNil))) lNil))) lNil)) (gName 8))
  (sRet (dAnd (dOp oEq (dCall d_value_at (lCons (dSlot 8) (lCons (dSlot 6) lNil))) (dSlot 7)) (dOp oEq (dOp oEq (dSlot 8) (dSlot 2)) (dOp oEq (dCall d_value_at (lCons (dSlot 2) (lCons (dSlot 6) lNil))) (dSlot 7)))))))) [some (.ref c), some (tP pts), some (tI told), some (tI non), some (.ref th), some (tI more), some (.int a), none, none, none] m8 = m9 ∧ ∃ ρ m', m9 = .ok (.rt (.bl true)) ρ m' ∧ Gr c m4 m' := by
    refine ⟨_, rfl, ?_⟩
    clear st1 st2 st3 st4 st5 st6 st7 st8
    by_cases hm : a ∈ pts.map (·.1)
    · have hd : decide (a ∈ pts.map (·.1)) = true := decide_eq_true hm
      rw [hd] at hin
      refine ⟨[some (.ref c), some (tP pts), some (tI told), some (tI non), some (.ref th), some (tI more), some (.int a), none, none, none], m8, ?_, g8'⟩
      clear ht htv hM g3 hw h htl hpsl hR g4 htop hnn g5 g6 hnl hth hQ hMo hmv g7 g8 g11 gg hs hd hth8 g8'
      walk_at "ev"
    · have hd : decide (a ∈ pts.map (·.1)) = false := decide_eq_false hm
      rw [hd] at hin
      obtain ⟨v, m9, e1, hv0, hv1, g9⟩ := p_law_cell c m8 g8'.well
      have hPs := h.snoc ⟨ha0, by omega⟩ ⟨hv0, hv1⟩ hm
      obtain ⟨f, t11, e2, hf, hfl, hfv⟩ := p_through (pts ++ [(a, v)]) hPs (by simp; omega) m9
      rw [List.length_append, List.length_singleton] at hfl
      obtain ⟨k1, k2⟩ := further_math h (by omega) ht htl htv ⟨ha0, by omega⟩ ⟨hv0, hv1⟩ hm hf hfl hfv
      obtain ⟨t12, e3⟩ := p_vat f a hf (by omega) ha0 (by omega) (m9 ++ t11)
      obtain ⟨t13, e4⟩ := p_vat told a ht (by omega) ha0 (by omega) (m9 ++ t11 ++ t12)
      rw [k1] at e3
      have hsn : (pts.map fun p => tI [p.1, p.2]) ++ [U.tup [.int a, .int v]] = (pts ++ [(a, v)]).map fun p => tI [p.1, p.2] := by rw [List.map_append]; rfl
      have hdv : decide (v = v) = true := decide_eq_true rfl
      have hbb : ∀ (m : Mem) (b : Bool), eqU m (.bl b) (.bl b) = some true := fun m b => by rw [eqU_b]; cases b <;> rfl
      refine ⟨[some (.ref c), some (tP pts), some (tI told), some (tI non), some (.ref th), some (tI more), some (.int a), some (.int v), some (tI f), none], m9 ++ t11 ++ t12 ++ t13, ?_, ((((g8'.trans g9).app t11).app t12).app t13)⟩
      clear ht htv hM g3 hw h htl hpsl hR g4 htop hnn g5 g6 hnl hth hQ hMo hmv g7 g8 g11 gg hs hd hth8 g8' g9 hPs hf hfl hfv hm k1
      walk_at "ev"
  obtain ⟨m9, e13, ρ9, m10, rfl, g10⟩ := hall
  refine ⟨m10, ?_, ?_⟩
  · rw [runB_2]
    simp only [Nat.reduceSub, List.reduceReplicate, List.cons_append, List.nil_append]
    rw [seq_ok st1, seq_ok st2, seq_ok st3, seq_ok st4, seq_ok st5, seq_ok st6, seq_ok st7, seq_ok st8, e13]
    rfl
  · exact g6.trans g10
end My

set_option Elab.async false
set_option linter.all false
set_option maxRecDepth 100000
set_option maxHeartbeats 2000000
namespace My
open PySem L2 Ev PM
local macro_rules | `(tactic| walk_at "ev") => `(tactic| simp (disch := first | assumption | omega | simp; done | (simp only [List.length_map, List.length_append, List.length_cons, List.length_nil, List.length_replicate]; omega)) only [runB_e, List.length_cons, List.length_nil, List.length_map, Nat.reduceAdd, Nat.reduceSub, List.reduceReplicate, List.map_cons, List.map_nil, List.cons_append, List.nil_append, List.append_nil, List.set_cons_zero, List.set_cons_succ, List.getElem?_cons_zero, List.getElem?_cons_succ, evB, evX, evS, evO, evR, evR2, evI, evJ, nums_ints, flat_rep, Option.map_some, List.getElem?_append_left, dSlot_d, oMulG_a, oMulG_b, oMod_e, oTup_e, oLst_e, oList_e, oAdd_t, oMulG_t, eqU_tI, eqU_nil, eqU_i, Bool.not_true, Bool.not_false, Bool.false_eq_true, if_true, if_false, if_pos, if_neg, mem_last, mem_setl, mem_mid, mem_setm, at3_0, at3_1, at3_2, ix3_0, ix3_2, decide_eq_true_eq, decide_true, decide_false, and_true, true_and, and_false, false_and, not_true_eq_false, not_false_eq_true, wipeU, *])
theorem p_points (c : Nat) (u1 : Option U) : ∀ (ps : List Int) (m : Mem), Well c m → ∃ (pts : List (Int × Int)) (m' : Mem), compL (gName 3) tYesU (dTup (lCons (dSlot 3) (lCons (dCall d_law_cell (lCons (dSlot 0) lNil)) lNil))) [some (.ref c), u1, none, none] (ps.map .int) m = some (pts.map (fun p : Int × Int => tI [p.1, p.2]), m') ∧ pts.map (·.1) = ps ∧ okC (pts.map (·.2)) ∧ Gr c m m'
  | [], m, hw => ⟨[], m, rfl, rfl, (fun _ h => by cases h), Gr.refl hw⟩
  | p :: ps, m, hw => by
    obtain ⟨v, m1, e1, h0, h1, g1⟩ := p_law_cell c m hw
    obtain ⟨pts, m2, e2, h2, h3, g2⟩ := p_points c u1 ps m1 g1.well
    have e3 : dTup (lCons (dSlot 3) (lCons (dCall d_law_cell (lCons (dSlot 0) lNil)) lNil)) [some (.ref c), u1, none, some (.int p)] m = .ok (tI [p, v]) m1 := by
      clear e2 g1 g2 hw
      walk_at "ev"
      rfl
    refine ⟨(p, v) :: pts, m2, ?_, by rw [List.map_cons, h2], fun x hx => ?_, g1.trans g2⟩
    · simp only [List.map_cons, compL, Ev.gName, List.set_cons_zero, List.set_cons_succ, tYesU, toO, e3, e2, if_true]
    · rcases List.mem_cons.mp (show x ∈ v :: pts.map (·.2) from hx) with e | hx
      · rw [e]; exact ⟨h0, h1⟩
      · exact h3 x hx
theorem p_lright (c : Nat) (m : Mem) (hw : Well c m) : ∃ m', d_law_right [.ref c] m = .ok (.bl true) m' ∧ Gr c m m' := by
  unfold d_law_right b_law_right
  obtain ⟨k, m1, e1, hk0, hk1, g1⟩ := p_ladle c 11 (by decide) (by decide) m hw
  obtain ⟨kn, rfl⟩ : ∃ kn : Nat, k = kn := ⟨k.toNat, by omega⟩
  have hclt : c < m1.length := by obtain ⟨_, _, _, q⟩ := g1.well; exact (List.getElem?_eq_some_iff.mp q).1
  obtain ⟨u, m2, e2, hu, g2⟩ := p_spoon c m1.length [.int 12, .int 997] (by omega) (by simp) (by simp) (m1 ++ [Cell.lst [.int 12, .int 997]]) (g1.well.app _) (mem_last _ _)
  have hn : ∃ n : Nat, u = .int n ∧ 12 ≤ n ∧ n ≤ 997 := by
    simp only [List.mem_cons, List.not_mem_nil, or_false] at hu
    rcases hu with e | e
    · exact ⟨12, e, by omega, by omega⟩
    · exact ⟨997, e, by omega, by omega⟩
  obtain ⟨n, rfl, hn0, hn1⟩ := hn
  have gr2 := g1.trans (Gr.from [Cell.lst [.int 12, .int 997]] g2)
  obtain ⟨ps, m3, e3, hP, hpl, g3⟩ := p_unlike c kn n (by omega) hn1 m2 g2.well
  obtain ⟨pts, m4, e4, h1, h2, g4⟩ := p_points c (some (tI ps)) ps m3 g3.well
  have hPts : Pts pts := ⟨by rw [h1]; exact hP, h2⟩
  have hptl : pts.length = kn := by rw [← hpl, ← h1, List.length_map]
  have ho := oList_e (us := pts.map fun p : Int × Int => tI [p.1, p.2]) (m := m4) (by rw [List.length_map]; omega)
  obtain ⟨m5, e5, g5⟩ := p_through_right c pts hPts (by omega) (m4 ++ [Cell.lst (pts.map fun p : Int × Int => tI [p.1, p.2])]) (g4.well.app _)
  obtain ⟨m6, e6, g6⟩ := p_numbers_right c ps hP (by omega) m5 g5.well
  refine ⟨m6, ?_, ((gr2.trans g3).trans g4).trans ((Gr.from [Cell.lst (pts.map fun p : Int × Int => tI [p.1, p.2])] g5).trans g6)⟩
  clear hw g1 g2 gr2 g3 g4 g5 g6 hP hPts h1 h2 hu hptl hpl hclt hk0
  walk_at "ev"
theorem p_spots (ns : List Int) : ∃ ρ' m', forL (gName 1) (sIf (tN (tTru (dCall d_law_right (lCons (dCall d_law_churn (lCons (dSlot 0) (lCons (dSlot 1) lNil))) lNil)))) (sRet (dC (.bl false))) sNext) (runI 0 (max 1 (min 3 ns.length))) [some (.rol (ns.map .int)), none] [] = .ok .nx ρ' m' ∧ ∃ a, ρ' = [some (.rol (ns.map .int)), a] := by
  obtain ⟨ρ', m', e, h⟩ := forIx (g := gName 1) (us := runI 0 (max 1 (min 3 ns.length))) (b := sIf (tN (tTru (dCall d_law_right (lCons (dCall d_law_churn (lCons (dSlot 0) (lCons (dSlot 1) lNil))) lNil)))) (sRet (dC (.bl false))) sNext)
    (fun _ ρ _ => ∃ a, ρ = [some (.rol (ns.map .int)), a])
    (fun i u ρ m hu ⟨a, h1⟩ => by
      subst h1
      obtain ⟨hi, rfl⟩ := run_at hu
      obtain ⟨x, y, e1⟩ := p_churn ns i (by omega) m
      have hw : Well m.length (m ++ [.lst [.int x, .int y, .int 0]]) := ⟨x, y, 0, mem_last _ _⟩
      obtain ⟨m2, e2, g2⟩ := p_lright m.length _ hw
      refine ⟨[some (.rol (ns.map .int)), some (.int i)], m, [some (.rol (ns.map .int)), some (.int i)], m2, rfl, ?_, some (.int i), rfl⟩
      clear g2 hw hu hi
      walk_at "ev") [some (.rol (ns.map .int)), none] [] ⟨none, rfl⟩
  exact ⟨ρ', m', e, h⟩
end My

set_option Elab.async false
set_option linter.all false
set_option maxRecDepth 100000
set_option maxHeartbeats 2000000
namespace My
open PySem L2 Ev PM
local macro_rules | `(tactic| walk_at "ev") => `(tactic| simp (disch := first | assumption | omega | simp; done | (simp only [List.length_map, List.length_append, List.length_cons, List.length_nil, List.length_replicate]; omega)) only [runB_e, List.length_cons, List.length_nil, List.length_map, Nat.reduceAdd, Nat.reduceSub, List.reduceReplicate, List.map_cons, List.map_nil, List.cons_append, List.nil_append, List.append_nil, List.set_cons_zero, List.set_cons_succ, List.getElem?_cons_zero, List.getElem?_cons_succ, evB, evX, evS, evO, evR, evR2, evI, evJ, nums_ints, flat_rep, Option.map_some, List.getElem?_append_left, dSlot_d, oMulG_a, oMulG_b, oMod_e, oTup_e, oLst_e, oList_e, oAdd_t, oMulG_t, eqU_tI, eqU_nil, eqU_i, Bool.not_true, Bool.not_false, Bool.false_eq_true, if_true, if_false, if_pos, if_neg, mem_last, mem_setl, mem_mid, mem_setm, at3_0, at3_1, at3_2, ix3_0, ix3_2, decide_eq_true_eq, decide_true, decide_false, and_true, true_and, and_false, false_and, not_true_eq_false, not_false_eq_true, wipeU, *])
theorem c_through0 (m : Mem) : ∃ t, d_through [.tup []] m = .ok (.tup []) (m ++ t) := by
  obtain ⟨r, t, e, h1, h2, h3⟩ := p_through [] ⟨⟨by decide, by decide⟩, by decide⟩ (by simp) m
  have : r = [] := List.length_eq_zero_iff.mp (by simpa using h2)
  subst this
  exact ⟨t, e⟩
theorem c_none0 (m : Mem) : ∃ t, d_none_at [.tup []] m = .ok (.tup [.int 1]) (m ++ t) := by
  obtain ⟨r, t, e, hM⟩ := p_none_at [] ⟨by decide, by decide⟩ (by simp) m
  have : r = [1] := eq_of hM.ok (by constructor <;> decide) (by have := hM.len; simp at this; omega) (by simp) fun x => (hM.val x).trans (Cg.of (by simp [rootV, E]))
  subst this
  exact ⟨t, e⟩
theorem c_nums0 (m : Mem) : ∃ t, d_numbers_at [.tup [], .int 4] m = .ok (.tup []) (m ++ t) := by
  obtain ⟨N, t, e, hN⟩ := p_numbers_at [] ⟨by decide, by decide⟩ (by simp) 4 (by decide) (by decide) m
  have : N = [] := List.length_eq_zero_iff.mp (by simpa using hN.len)
  subst this
  exact ⟨t, e⟩
theorem c_through1 (m : Mem) : ∃ t, d_through [.tup [.tup [.int 7, .int 0], .tup [.int 9, .int 0]]] m = .ok (.tup []) (m ++ t) := by
  have hP : Pts [(7, 0), (9, 0)] := ⟨⟨by decide, by decide⟩, by decide⟩
  obtain ⟨r, t, e, h1, h2, h3⟩ := p_through [(7, 0), (9, 0)] hP (by simp) m
  have : r = [] := eq_at h1 (by constructor <;> simp) hP.pl.nd hP.pl.ok (by simpa using h2) (by simp) (by simp) fun z hz => by
    obtain ⟨p, hp, rfl⟩ := List.mem_map.mp hz
    refine (h3 p hp).trans (Cg.of ?_)
    simp only [List.mem_cons, List.not_mem_nil, or_false] at hp
    rcases hp with e | e <;> rw [e] <;> rfl
  subst this
  exact ⟨t, e⟩
theorem c_through2 (m : Mem) : ∃ t, d_through [.tup [.tup [.int 0, .int 5], .tup [.int 1, .int 7]]] m = .ok (.tup [.int 5, .int 2]) (m ++ t) := by
  have hP : Pts [(0, 5), (1, 7)] := ⟨⟨by decide, by decide⟩, by decide⟩
  obtain ⟨r, t, e, h1, h2, h3⟩ := p_through [(0, 5), (1, 7)] hP (by simp) m
  have : r = [5, 2] := eq_at h1 (by constructor <;> decide) hP.pl.nd hP.pl.ok (by simpa using h2) (by simp) (by simp) fun z hz => by
    obtain ⟨p, hp, rfl⟩ := List.mem_map.mp hz
    refine (h3 p hp).trans (Cg.of ?_)
    simp only [List.mem_cons, List.not_mem_nil, or_false] at hp
    rcases hp with e | e <;> rw [e] <;> rfl
  subst this
  exact ⟨t, e⟩
theorem c_none2 (m : Mem) : ∃ t, d_none_at [.tup [.int 1, .int 996]] m = .ok (.tup [.int 996, .int 0, .int 1]) (m ++ t) := by
  obtain ⟨r, t, e, hM⟩ := p_none_at [1, 996] ⟨by decide, by decide⟩ (by simp) m
  have : r = [996, 0, 1] := eq_of hM.ok (by constructor <;> decide) (by have := hM.len; simp at this; omega) (by simp) fun x => (hM.val x).trans ⟨-x, by simp only [rootV, E]; grind⟩
  subst this
  exact ⟨t, e⟩
theorem c_nums2 (m : Mem) : ∃ t, d_numbers_at [.tup [.int 0, .int 1], .int 2] m = .ok (.tup [.int 996, .int 2]) (m ++ t) := by
  obtain ⟨N, t, e, hN⟩ := p_numbers_at [0, 1] ⟨by decide, by decide⟩ (by simp) 2 (by decide) (by decide) m
  have hl := hN.len
  match N, hl, hN, e with
  | [x, y], _, hN, e =>
    have h0 := hN.val 0 (by simp)
    have h1 := hN.val 1 (by simp)
    have b0 := hN.ok x (by simp)
    have b1 := hN.ok y (by simp)
    have k0 : (prodNe 0 2 [0, 1] * inv (prodNe 0 0 [0, 1])) % 997 = 996 := by decide +kernel
    have k1 : (prodNe 1 2 [0, 1] * inv (prodNe 1 1 [0, 1])) % 997 = 2 := by decide +kernel
    have hx : x % 997 = 996 := (Cg.iff.mp h0).trans k0
    have hy : y % 997 = 2 := (Cg.iff.mp h1).trans k1
    have hx2 : x = 996 := by omega
    have hy2 : y = 2 := by omega
    subst hx2; subst hy2
    exact ⟨t, e⟩
def L1 : List (List Int) := [[], [1], [], []]
def L2' : List (List Int) := [[5, 2], [996, 0, 1], [996, 2]]
theorem law_true : ∀ ns : List Int, ns.length ≤ 63 → ∃ m, d_law [.rol (ns.map .int)] [] = .ok (.bl true) m := by
  intro ns hns
  unfold d_law b_law
  obtain ⟨ρ', m1, e1, a, h1⟩ := p_spots ns
  subst h1
  obtain ⟨N, hN⟩ : ∃ N : Nat, max 1 (min 3 ns.length) = N := ⟨_, rfl⟩
  rw [hN] at e1
  have hmx : (if (if (ns.length : Int) < 3 then (ns.length : Int) else 3) > 1 then (if (ns.length : Int) < 3 then (ns.length : Int) else 3) else 1) = (N : Int) := by
    split <;> split <;> omega
  have hNN : ((N : Nat) : Int).toNat = N := by omega
  obtain ⟨t2, e2⟩ := c_through0 m1
  obtain ⟨t3, e3⟩ := c_none0 (m1 ++ t2)
  obtain ⟨t4, e4⟩ := c_nums0 (m1 ++ t2 ++ t3)
  obtain ⟨t5, e5⟩ := c_through1 (m1 ++ t2 ++ t3 ++ t4)
  have hq1 : eqU (m1 ++ t2 ++ t3 ++ t4 ++ t5 ++ [Cell.lst [.tup [], .tup [.int 1], .tup [], .tup []]] ++ [Cell.lst [.tup [], .tup [.int 1], .tup [], .tup []]]) (.ref (m1 ++ t2 ++ t3 ++ t4 ++ t5).length) (.ref (m1 ++ t2 ++ t3 ++ t4 ++ t5 ++ [Cell.lst [.tup [], .tup [.int 1], .tup [], .tup []]]).length) = some true :=
    (eqU_rrT (A := L1) (B := L1) (mem_old (mem_last _ (Cell.lst (L1.map tI)))) (mem_last _ (Cell.lst (L1.map tI)))).trans (by rw [decide_eq_true rfl])
  have st2 : sIf (tBl (dOp oNe (dLst (lCons (dCall d_through (lCons (dTup lNil) lNil)) (lCons (dCall d_none_at (lCons (dTup lNil) lNil)) (lCons (dCall d_numbers_at (lCons (dTup lNil) (lCons (dC (.int 4)) lNil))) (lCons (dCall d_through (lCons (dTup (lCons (dTup (lCons (dC (.int 7)) (lCons (dC (.int 0)) lNil))) (lCons (dTup (lCons (dC (.int 9)) (lCons (dC (.int 0)) lNil))) lNil))) lNil)) lNil))))) (dLst (lCons (dTup lNil) (lCons (dTup (lCons (dC (.int 1)) lNil)) (lCons (dTup lNil) (lCons (dTup lNil) lNil))))))) (sRet (dC (.bl false))) sNext [some (.rol (ns.map .int)), a] m1 = .ok .nx [some (.rol (ns.map .int)), a] (m1 ++ t2 ++ t3 ++ t4 ++ t5 ++ [Cell.lst [.tup [], .tup [.int 1], .tup [], .tup []]] ++ [Cell.lst [.tup [], .tup [.int 1], .tup [], .tup []]]) := by
    refine if_no ?_
    clear e1 hmx hNN hN
    walk_at "ev"
  clear e2 e3 e4 e5 hq1
  generalize m1 ++ t2 ++ t3 ++ t4 ++ t5 ++ [Cell.lst [.tup [], .tup [.int 1], .tup [], .tup []]] ++ [Cell.lst [.tup [], .tup [.int 1], .tup [], .tup []]] = m2 at st2
  obtain ⟨t6, e6⟩ := c_through2 m2
  obtain ⟨t7, e7⟩ := c_none2 (m2 ++ t6)
  obtain ⟨t8, e8⟩ := c_nums2 (m2 ++ t6 ++ t7)
  have hq2 : eqU (m2 ++ t6 ++ t7 ++ t8 ++ [Cell.lst [.tup [.int 5, .int 2], .tup [.int 996, .int 0, .int 1], .tup [.int 996, .int 2]]] ++ [Cell.lst [.tup [.int 5, .int 2], .tup [.int 996, .int 0, .int 1], .tup [.int 996, .int 2]]]) (.ref (m2 ++ t6 ++ t7 ++ t8).length) (.ref (m2 ++ t6 ++ t7 ++ t8 ++ [Cell.lst [.tup [.int 5, .int 2], .tup [.int 996, .int 0, .int 1], .tup [.int 996, .int 2]]]).length) = some true :=
    (eqU_rrT (A := L2') (B := L2') (mem_old (mem_last _ (Cell.lst (L2'.map tI)))) (mem_last _ (Cell.lst (L2'.map tI)))).trans (by rw [decide_eq_true rfl])
  refine ⟨m2 ++ t6 ++ t7 ++ t8 ++ [Cell.lst [.tup [.int 5, .int 2], .tup [.int 996, .int 0, .int 1], .tup [.int 996, .int 2]]] ++ [Cell.lst [.tup [.int 5, .int 2], .tup [.int 996, .int 0, .int 1], .tup [.int 996, .int 2]]], ?_⟩
  rw [runB_1]
  simp only [Nat.reduceSub, List.reduceReplicate, List.cons_append, List.nil_append]
  have hsrc : iRange1 (lCons (dB oMax2 (lCons (dC (.int 1)) (lCons (dB oMin2 (lCons (dC (.int 3)) (lCons (dB oLen (lCons (dSlot 0) lNil)) lNil))) lNil))) lNil) [some (.rol (ns.map .int)), none] [] = .ok (.fix (runI 0 N)) [] := by
    clear e1 e6 e7 e8 st2 hq2
    walk_at "ev"
  rw [seq_ok (ρ' := [some (.rol (ns.map .int)), a]) (m' := m1) (by
    rw [show ∀ f g b ρ m, sFor f g b ρ m = thenE (f ρ m) ρ fun s m1 => forR g b s ρ m1 from fun _ _ _ _ _ => rfl, hsrc]
    rw [evB.2.2.1]
    exact e1)]
  rw [seq_ok st2]
  clear st2 e1 hsrc hmx hNN hN
  walk_at "ev"
end My

set_option Elab.async false
set_option linter.all false
set_option maxRecDepth 100000
set_option maxHeartbeats 4000000
namespace My
open PySem L2 Ev RZ RT
def top (i : Nat) : Stmt := PySem.Challenge.pw_stillread_k04_whole_polys_through_points.main.body.getD i (.Pass ⟨0, 0, 0, 0⟩)
abbrev s_is_number : Stmt := top 6
abbrev n_is_number : List Str := ["value", "least", "most"]
theorem sc_is_number : FnScope n_is_number ["value", "least", "most"] (defScope s_is_number) := ⟨rfl, rfl, rfl, by decide +kernel, rfl, by decide +kernel, by decide +kernel⟩
abbrev s_check_number : Stmt := top 7
abbrev n_check_number : List Str := ["given", "least", "most"]
theorem sc_check_number : FnScope n_check_number ["given", "least", "most"] (defScope s_check_number) := ⟨rfl, rfl, rfl, by decide +kernel, rfl, by decide +kernel, by decide +kernel⟩
abbrev s_is_cell : Stmt := top 11
abbrev n_is_cell : List Str := ["value"]
theorem sc_is_cell : FnScope n_is_cell ["value"] (defScope s_is_cell) := ⟨rfl, rfl, rfl, by decide +kernel, rfl, by decide +kernel, by decide +kernel⟩
abbrev s_is_cells : Stmt := top 12
abbrev n_is_cells : List Str := ["value", "cell"]
theorem sc_is_cells : FnScope n_is_cells ["value"] (defScope s_is_cells) := ⟨rfl, rfl, rfl, by decide +kernel, rfl, by decide +kernel, by decide +kernel⟩
abbrev s_is_poly : Stmt := top 15
abbrev n_is_poly : List Str := ["value"]
theorem sc_is_poly : FnScope n_is_poly ["value"] (defScope s_is_poly) := ⟨rfl, rfl, rfl, by decide +kernel, rfl, by decide +kernel, by decide +kernel⟩
abbrev s_check_poly : Stmt := top 16
abbrev n_check_poly : List Str := ["poly"]
theorem sc_check_poly : FnScope n_check_poly ["poly"] (defScope s_check_poly) := ⟨rfl, rfl, rfl, by decide +kernel, rfl, by decide +kernel, by decide +kernel⟩
abbrev s_check_places : Stmt := top 17
abbrev n_check_places : List Str := ["places"]
theorem sc_check_places : FnScope n_check_places ["places"] (defScope s_check_places) := ⟨rfl, rfl, rfl, by decide +kernel, rfl, by decide +kernel, by decide +kernel⟩
abbrev s_check_points : Stmt := top 18
abbrev n_check_points : List Str := ["points", "place", "number", "point"]
theorem sc_check_points : FnScope n_check_points ["points"] (defScope s_check_points) := ⟨rfl, rfl, rfl, by decide +kernel, rfl, by decide +kernel, by decide +kernel⟩
abbrev s_inverse : Stmt := top 19
abbrev n_inverse : List Str := ["cell"]
theorem sc_inverse : FnScope n_inverse ["cell"] (defScope s_inverse) := ⟨rfl, rfl, rfl, by decide +kernel, rfl, by decide +kernel, by decide +kernel⟩
abbrev s_trimmed : Stmt := top 20
abbrev n_trimmed : List Str := ["numbers", "cells", "number"]
theorem sc_trimmed : FnScope n_trimmed ["numbers"] (defScope s_trimmed) := ⟨rfl, rfl, rfl, by decide +kernel, rfl, by decide +kernel, by decide +kernel⟩
abbrev s_evaluated : Stmt := top 21
abbrev n_evaluated : List Str := ["poly", "cell", "total", "number"]
theorem sc_evaluated : FnScope n_evaluated ["poly", "cell"] (defScope s_evaluated) := ⟨rfl, rfl, rfl, by decide +kernel, rfl, by decide +kernel, by decide +kernel⟩
abbrev s_value_at : Stmt := top 22
abbrev n_value_at : List Str := ["poly", "cell"]
theorem sc_value_at : FnScope n_value_at ["poly", "cell"] (defScope s_value_at) := ⟨rfl, rfl, rfl, by decide +kernel, rfl, by decide +kernel, by decide +kernel⟩
abbrev s_check_both : Stmt := top 23
abbrev n_check_both : List Str := ["one", "other"]
theorem sc_check_both : FnScope n_check_both ["one", "other"] (defScope s_check_both) := ⟨rfl, rfl, rfl, by decide +kernel, rfl, by decide +kernel, by decide +kernel⟩
abbrev s_poly_sum : Stmt := top 24
abbrev n_poly_sum : List Str := ["one", "other"]
theorem sc_poly_sum : FnScope n_poly_sum ["one", "other"] (defScope s_poly_sum) := ⟨rfl, rfl, rfl, by decide +kernel, rfl, by decide +kernel, by decide +kernel⟩
abbrev s_combined : Stmt := top 25
abbrev n_combined : List Str := ["one", "other", "factor", "longest", "numbers", "power", "cell"]
theorem sc_combined : FnScope n_combined ["one", "other", "factor"] (defScope s_combined) := ⟨rfl, rfl, rfl, by decide +kernel, rfl, by decide +kernel, by decide +kernel⟩
abbrev s_poly_product : Stmt := top 26
abbrev n_poly_product : List Str := ["one", "other"]
theorem sc_poly_product : FnScope n_poly_product ["one", "other"] (defScope s_poly_product) := ⟨rfl, rfl, rfl, by decide +kernel, rfl, by decide +kernel, by decide +kernel⟩
abbrev s_multiplied : Stmt := top 27
abbrev n_multiplied : List Str := ["one", "other", "numbers", "power", "cell", "more", "factor"]
theorem sc_multiplied : FnScope n_multiplied ["one", "other"] (defScope s_multiplied) := ⟨rfl, rfl, rfl, by decide +kernel, rfl, by decide +kernel, by decide +kernel⟩
abbrev s_none_at : Stmt := top 28
abbrev n_none_at : List Str := ["places"]
theorem sc_none_at : FnScope n_none_at ["places"] (defScope s_none_at) := ⟨rfl, rfl, rfl, by decide +kernel, rfl, by decide +kernel, by decide +kernel⟩
abbrev s_with_roots : Stmt := top 29
abbrev n_with_roots : List Str := ["places", "poly", "place"]
theorem sc_with_roots : FnScope n_with_roots ["places"] (defScope s_with_roots) := ⟨rfl, rfl, rfl, by decide +kernel, rfl, by decide +kernel, by decide +kernel⟩
abbrev s_products_without : Stmt := top 30
abbrev n_products_without : List Str := ["factors", "ahead", "behind", "factor", "last", "at"]
theorem sc_products_without : FnScope n_products_without ["factors"] (defScope s_products_without) := ⟨rfl, rfl, rfl, by decide +kernel, rfl, by decide +kernel, by decide +kernel⟩
abbrev s_place_weights : Stmt := top 31
abbrev n_place_weights : List Str := ["places", "weights", "place", "product", "other"]
theorem sc_place_weights : FnScope n_place_weights ["places"] (defScope s_place_weights) := ⟨rfl, rfl, rfl, by decide +kernel, rfl, by decide +kernel, by decide +kernel⟩
abbrev s_numbers_by : Stmt := top 32
abbrev n_numbers_by : List Str := ["places", "weights", "cell", "others", "place", "weight", "other"]
theorem sc_numbers_by : FnScope n_numbers_by ["places", "weights", "cell"] (defScope s_numbers_by) := ⟨rfl, rfl, rfl, by decide +kernel, rfl, by decide +kernel, by decide +kernel⟩
abbrev s_numbers_at : Stmt := top 33
abbrev n_numbers_at : List Str := ["places", "cell"]
theorem sc_numbers_at : FnScope n_numbers_at ["places", "cell"] (defScope s_numbers_at) := ⟨rfl, rfl, rfl, by decide +kernel, rfl, by decide +kernel, by decide +kernel⟩
abbrev s_through : Stmt := top 34
abbrev n_through : List Str := ["points"]
theorem sc_through : FnScope n_through ["points"] (defScope s_through) := ⟨rfl, rfl, rfl, by decide +kernel, rfl, by decide +kernel, by decide +kernel⟩
abbrev s_interpolated : Stmt := top 35
abbrev n_interpolated : List Str := ["points", "poly", "factor", "place", "number", "lacking"]
theorem sc_interpolated : FnScope n_interpolated ["points"] (defScope s_interpolated) := ⟨rfl, rfl, rfl, by decide +kernel, rfl, by decide +kernel, by decide +kernel⟩
abbrev s_law_churn : Stmt := top 37
abbrev n_law_churn : List Str := ["script", "spot", "cell", "great", "mixed"]
theorem sc_law_churn : FnScope n_law_churn ["script", "spot"] (defScope s_law_churn) := ⟨rfl, rfl, rfl, by decide +kernel, rfl, by decide +kernel, by decide +kernel⟩
abbrev s_law_ladle : Stmt := top 38
abbrev n_law_ladle : List Str := ["churn", "total", "found", "one", "two"]
theorem sc_law_ladle : FnScope n_law_ladle ["churn", "total"] (defScope s_law_ladle) := ⟨rfl, rfl, rfl, by decide +kernel, rfl, by decide +kernel, by decide +kernel⟩
abbrev s_law_spoon : Stmt := top 39
abbrev n_law_spoon : List Str := ["churn", "items"]
theorem sc_law_spoon : FnScope n_law_spoon ["churn", "items"] (defScope s_law_spoon) := ⟨rfl, rfl, rfl, by decide +kernel, rfl, by decide +kernel, by decide +kernel⟩
abbrev s_law_cell : Stmt := top 40
abbrev n_law_cell : List Str := ["churn"]
theorem sc_law_cell : FnScope n_law_cell ["churn"] (defScope s_law_cell) := ⟨rfl, rfl, rfl, by decide +kernel, rfl, by decide +kernel, by decide +kernel⟩
abbrev s_law_cells : Stmt := top 41
abbrev n_law_cells : List Str := ["churn", "many", "turn"]
theorem sc_law_cells : FnScope n_law_cells ["churn", "many"] (defScope s_law_cells) := ⟨rfl, rfl, rfl, by decide +kernel, rfl, by decide +kernel, by decide +kernel⟩
abbrev s_law_trim : Stmt := top 42
abbrev n_law_trim : List Str := ["cells", "found"]
theorem sc_law_trim : FnScope n_law_trim ["cells"] (defScope s_law_trim) := ⟨rfl, rfl, rfl, by decide +kernel, rfl, by decide +kernel, by decide +kernel⟩
abbrev s_law_poly : Stmt := top 43
abbrev n_law_poly : List Str := ["churn", "most"]
theorem sc_law_poly : FnScope n_law_poly ["churn", "most"] (defScope s_law_poly) := ⟨rfl, rfl, rfl, by decide +kernel, rfl, by decide +kernel, by decide +kernel⟩
abbrev s_law_value : Stmt := top 44
abbrev n_law_value : List Str := ["poly", "cell", "found", "power", "number"]
theorem sc_law_value : FnScope n_law_value ["poly", "cell"] (defScope s_law_value) := ⟨rfl, rfl, rfl, by decide +kernel, rfl, by decide +kernel, by decide +kernel⟩
abbrev s_law_unlike : Stmt := top 45
abbrev n_law_unlike : List Str := ["churn", "many", "most", "left", "found", "turn"]
theorem sc_law_unlike : FnScope n_law_unlike ["churn", "many", "most"] (defScope s_law_unlike) := ⟨rfl, rfl, rfl, by decide +kernel, rfl, by decide +kernel, by decide +kernel⟩
abbrev s_law_back : Stmt := top 46
abbrev n_law_back : List Str := ["cell", "one", "other", "first", "last", "many"]
theorem sc_law_back : FnScope n_law_back ["cell"] (defScope s_law_back) := ⟨rfl, rfl, rfl, by decide +kernel, rfl, by decide +kernel, by decide +kernel⟩
abbrev s_law_times : Stmt := top 47
abbrev n_law_times : List Str := ["one", "other", "found", "at", "first", "to", "second"]
theorem sc_law_times : FnScope n_law_times ["one", "other"] (defScope s_law_times) := ⟨rfl, rfl, rfl, by decide +kernel, rfl, by decide +kernel, by decide +kernel⟩
abbrev s_law_plus : Stmt := top 48
abbrev n_law_plus : List Str := ["one", "other", "size", "left", "more", "at"]
theorem sc_law_plus : FnScope n_law_plus ["one", "other"] (defScope s_law_plus) := ⟨rfl, rfl, rfl, by decide +kernel, rfl, by decide +kernel, by decide +kernel⟩
abbrev s_law_through : Stmt := top 49
abbrev n_law_through : List Str := ["points", "found", "place", "value", "part", "bottom", "other", "more"]
theorem sc_law_through : FnScope n_law_through ["points"] (defScope s_law_through) := ⟨rfl, rfl, rfl, by decide +kernel, rfl, by decide +kernel, by decide +kernel⟩
abbrev s_law_through_right : Stmt := top 50
abbrev n_law_through_right : List Str := ["churn", "points", "told", "none", "there", "more", "at", "number", "further", "point"]
theorem sc_law_through_right : FnScope n_law_through_right ["churn", "points"] (defScope s_law_through_right) := ⟨rfl, rfl, rfl, by decide +kernel, rfl, by decide +kernel, by decide +kernel⟩
abbrev s_law_numbers_right : Stmt := top 51
abbrev n_law_numbers_right : List Str := ["churn", "there", "goal", "numbers", "turn", "some", "told", "number", "at"]
theorem sc_law_numbers_right : FnScope n_law_numbers_right ["churn", "there"] (defScope s_law_numbers_right) := ⟨rfl, rfl, rfl, by decide +kernel, rfl, by decide +kernel, by decide +kernel⟩
abbrev s_law_right : Stmt := top 52
abbrev n_law_right : List Str := ["churn", "there", "points", "at"]
theorem sc_law_right : FnScope n_law_right ["churn"] (defScope s_law_right) := ⟨rfl, rfl, rfl, by decide +kernel, rfl, by decide +kernel, by decide +kernel⟩
abbrev s_law : Stmt := top 53
abbrev n_law : List Str := ["script", "spot"]
theorem sc_law : FnScope n_law ["script"] (defScope s_law) := ⟨rfl, rfl, rfl, by decide +kernel, rfl, by decide +kernel, by decide +kernel⟩
structure Ad where
  is_number : Addr
  check_number : Addr
  is_cell : Addr
  is_cells : Addr
  is_poly : Addr
  check_poly : Addr
  check_places : Addr
  check_points : Addr
  inverse : Addr
  trimmed : Addr
  evaluated : Addr
  value_at : Addr
  check_both : Addr
  poly_sum : Addr
  combined : Addr
  poly_product : Addr
  multiplied : Addr
  none_at : Addr
  with_roots : Addr
  products_without : Addr
  place_weights : Addr
  numbers_by : Addr
  numbers_at : Addr
  through : Addr
  interpolated : Addr
  law_churn : Addr
  law_ladle : Addr
  law_spoon : Addr
  law_cell : Addr
  law_cells : Addr
  law_trim : Addr
  law_poly : Addr
  law_value : Addr
  law_unlike : Addr
  law_back : Addr
  law_times : Addr
  law_plus : Addr
  law_through : Addr
  law_through_right : Addr
  law_numbers_right : Addr
  law_right : Addr
  law : Addr
structure Fd where
  is_number : FuncData
  check_number : FuncData
  is_cell : FuncData
  is_cells : FuncData
  is_poly : FuncData
  check_poly : FuncData
  check_places : FuncData
  check_points : FuncData
  inverse : FuncData
  trimmed : FuncData
  evaluated : FuncData
  value_at : FuncData
  check_both : FuncData
  poly_sum : FuncData
  combined : FuncData
  poly_product : FuncData
  multiplied : FuncData
  none_at : FuncData
  with_roots : FuncData
  products_without : FuncData
  place_weights : FuncData
  numbers_by : FuncData
  numbers_at : FuncData
  through : FuncData
  interpolated : FuncData
  law_churn : FuncData
  law_ladle : FuncData
  law_spoon : FuncData
  law_cell : FuncData
  law_cells : FuncData
  law_trim : FuncData
  law_poly : FuncData
  law_value : FuncData
  law_unlike : FuncData
  law_back : FuncData
  law_times : FuncData
  law_plus : FuncData
  law_through : FuncData
  law_through_right : FuncData
  law_numbers_right : FuncData
  law_right : FuncData
  law : FuncData
structure Txt (K : PySem.W.Frag) (c : Nat → Addr) (mg : Str → Option Value) (a : Ad) (d : Fd) : Prop where
  b_abs : mg "abs" = none
  b_all : mg "all" = none
  b_bool : mg "bool" = none
  b_enumerate : mg "enumerate" = none
  b_int : mg "int" = none
  b_isinstance : mg "isinstance" = none
  b_len : mg "len" = none
  b_list : mg "list" = none
  b_max : mg "max" = none
  b_min : mg "min" = none
  b_pow : mg "pow" = none
  b_range : mg "range" = none
  b_reversed : mg "reversed" = none
  b_set : mg "set" = none
  b_sum : mg "sum" = none
  b_tuple : mg "tuple" = none
  b_zip : mg "zip" = none
  c_LONGEST : ∃ t, mg "LONGEST" = some (.int 999999999999999999999999999999999999999999999999999999999999 t)
  c_MAX_CELL : ∃ t, mg "MAX_CELL" = some (.int 996 t)
  c_MOST_CELLS : ∃ t, mg "MOST_CELLS" = some (.int 60 t)
  c_PRIME : ∃ t, mg "PRIME" = some (.int 997 t)
  g_is_number : mg "is_number" = some (.ref a.is_number)
  k_is_number : PySem.W.keepIn K (.ref a.is_number) = true
  B_is_number : Binds K d.is_number ["value", "least", "most"] []
  F_is_number : Fun K "is_number" "is_number" s_is_number a.is_number d.is_number
  g_check_number : mg "check_number" = some (.ref a.check_number)
  k_check_number : PySem.W.keepIn K (.ref a.check_number) = true
  B_check_number : Binds K d.check_number ["given", "least", "most"] []
  F_check_number : Fun K "check_number" "check_number" s_check_number a.check_number d.check_number
  g_is_cell : mg "is_cell" = some (.ref a.is_cell)
  k_is_cell : PySem.W.keepIn K (.ref a.is_cell) = true
  B_is_cell : Binds K d.is_cell ["value"] []
  F_is_cell : Fun K "is_cell" "is_cell" s_is_cell a.is_cell d.is_cell
  g_is_cells : mg "is_cells" = some (.ref a.is_cells)
  k_is_cells : PySem.W.keepIn K (.ref a.is_cells) = true
  B_is_cells : Binds K d.is_cells ["value"] []
  F_is_cells : Fun K "is_cells" "is_cells" s_is_cells a.is_cells d.is_cells
  g_is_poly : mg "is_poly" = some (.ref a.is_poly)
  k_is_poly : PySem.W.keepIn K (.ref a.is_poly) = true
  B_is_poly : Binds K d.is_poly ["value"] []
  F_is_poly : Fun K "is_poly" "is_poly" s_is_poly a.is_poly d.is_poly
  g_check_poly : mg "check_poly" = some (.ref a.check_poly)
  k_check_poly : PySem.W.keepIn K (.ref a.check_poly) = true
  B_check_poly : Binds K d.check_poly ["poly"] []
  F_check_poly : Fun K "check_poly" "check_poly" s_check_poly a.check_poly d.check_poly
  g_check_places : mg "check_places" = some (.ref a.check_places)
  k_check_places : PySem.W.keepIn K (.ref a.check_places) = true
  B_check_places : Binds K d.check_places ["places"] []
  F_check_places : Fun K "check_places" "check_places" s_check_places a.check_places d.check_places
  g_check_points : mg "check_points" = some (.ref a.check_points)
  k_check_points : PySem.W.keepIn K (.ref a.check_points) = true
  B_check_points : Binds K d.check_points ["points"] []
  F_check_points : Fun K "check_points" "check_points" s_check_points a.check_points d.check_points
  g_inverse : mg "inverse" = some (.ref a.inverse)
  k_inverse : PySem.W.keepIn K (.ref a.inverse) = true
  B_inverse : Binds K d.inverse ["cell"] []
  F_inverse : Fun K "inverse" "inverse" s_inverse a.inverse d.inverse
  g_trimmed : mg "trimmed" = some (.ref a.trimmed)
  k_trimmed : PySem.W.keepIn K (.ref a.trimmed) = true
  B_trimmed : Binds K d.trimmed ["numbers"] []
  F_trimmed : Fun K "trimmed" "trimmed" s_trimmed a.trimmed d.trimmed
  g_evaluated : mg "evaluated" = some (.ref a.evaluated)
  k_evaluated : PySem.W.keepIn K (.ref a.evaluated) = true
  B_evaluated : Binds K d.evaluated ["poly", "cell"] []
  F_evaluated : Fun K "evaluated" "evaluated" s_evaluated a.evaluated d.evaluated
  g_value_at : mg "value_at" = some (.ref a.value_at)
  k_value_at : PySem.W.keepIn K (.ref a.value_at) = true
  B_value_at : Binds K d.value_at ["poly", "cell"] []
  F_value_at : Fun K "value_at" "value_at" s_value_at a.value_at d.value_at
  g_check_both : mg "check_both" = some (.ref a.check_both)
  k_check_both : PySem.W.keepIn K (.ref a.check_both) = true
  B_check_both : Binds K d.check_both ["one", "other"] []
  F_check_both : Fun K "check_both" "check_both" s_check_both a.check_both d.check_both
  g_poly_sum : mg "poly_sum" = some (.ref a.poly_sum)
  k_poly_sum : PySem.W.keepIn K (.ref a.poly_sum) = true
  B_poly_sum : Binds K d.poly_sum ["one", "other"] []
  F_poly_sum : Fun K "poly_sum" "poly_sum" s_poly_sum a.poly_sum d.poly_sum
  g_combined : mg "combined" = some (.ref a.combined)
  k_combined : PySem.W.keepIn K (.ref a.combined) = true
  B_combined : Binds K d.combined ["one", "other", "factor"] []
  F_combined : Fun K "combined" "combined" s_combined a.combined d.combined
  g_poly_product : mg "poly_product" = some (.ref a.poly_product)
  k_poly_product : PySem.W.keepIn K (.ref a.poly_product) = true
  B_poly_product : Binds K d.poly_product ["one", "other"] []
  F_poly_product : Fun K "poly_product" "poly_product" s_poly_product a.poly_product d.poly_product
  g_multiplied : mg "multiplied" = some (.ref a.multiplied)
  k_multiplied : PySem.W.keepIn K (.ref a.multiplied) = true
  B_multiplied : Binds K d.multiplied ["one", "other"] []
  F_multiplied : Fun K "multiplied" "multiplied" s_multiplied a.multiplied d.multiplied
  g_none_at : mg "none_at" = some (.ref a.none_at)
  k_none_at : PySem.W.keepIn K (.ref a.none_at) = true
  B_none_at : Binds K d.none_at ["places"] []
  F_none_at : Fun K "none_at" "none_at" s_none_at a.none_at d.none_at
  g_with_roots : mg "with_roots" = some (.ref a.with_roots)
  k_with_roots : PySem.W.keepIn K (.ref a.with_roots) = true
  B_with_roots : Binds K d.with_roots ["places"] []
  F_with_roots : Fun K "with_roots" "with_roots" s_with_roots a.with_roots d.with_roots
  g_products_without : mg "products_without" = some (.ref a.products_without)
  k_products_without : PySem.W.keepIn K (.ref a.products_without) = true
  B_products_without : Binds K d.products_without ["factors"] []
  F_products_without : Fun K "products_without" "products_without" s_products_without a.products_without d.products_without
  g_place_weights : mg "place_weights" = some (.ref a.place_weights)
  k_place_weights : PySem.W.keepIn K (.ref a.place_weights) = true
  B_place_weights : Binds K d.place_weights ["places"] []
  F_place_weights : Fun K "place_weights" "place_weights" s_place_weights a.place_weights d.place_weights
  g_numbers_by : mg "numbers_by" = some (.ref a.numbers_by)
  k_numbers_by : PySem.W.keepIn K (.ref a.numbers_by) = true
  B_numbers_by : Binds K d.numbers_by ["places", "weights", "cell"] []
  F_numbers_by : Fun K "numbers_by" "numbers_by" s_numbers_by a.numbers_by d.numbers_by
  g_numbers_at : mg "numbers_at" = some (.ref a.numbers_at)
  k_numbers_at : PySem.W.keepIn K (.ref a.numbers_at) = true
  B_numbers_at : Binds K d.numbers_at ["places", "cell"] []
  F_numbers_at : Fun K "numbers_at" "numbers_at" s_numbers_at a.numbers_at d.numbers_at
  g_through : mg "through" = some (.ref a.through)
  k_through : PySem.W.keepIn K (.ref a.through) = true
  B_through : Binds K d.through ["points"] []
  F_through : Fun K "through" "through" s_through a.through d.through
  g_interpolated : mg "interpolated" = some (.ref a.interpolated)
  k_interpolated : PySem.W.keepIn K (.ref a.interpolated) = true
  B_interpolated : Binds K d.interpolated ["points"] []
  F_interpolated : Fun K "interpolated" "interpolated" s_interpolated a.interpolated d.interpolated
  g_law_churn : mg "_law_churn" = some (.ref a.law_churn)
  k_law_churn : PySem.W.keepIn K (.ref a.law_churn) = true
  B_law_churn : Binds K d.law_churn ["script", "spot"] []
  F_law_churn : Fun K "_law_churn" "_law_churn" s_law_churn a.law_churn d.law_churn
  g_law_ladle : mg "_law_ladle" = some (.ref a.law_ladle)
  k_law_ladle : PySem.W.keepIn K (.ref a.law_ladle) = true
  B_law_ladle : Binds K d.law_ladle ["churn", "total"] []
  F_law_ladle : Fun K "_law_ladle" "_law_ladle" s_law_ladle a.law_ladle d.law_ladle
  g_law_spoon : mg "_law_spoon" = some (.ref a.law_spoon)
  k_law_spoon : PySem.W.keepIn K (.ref a.law_spoon) = true
  B_law_spoon : Binds K d.law_spoon ["churn", "items"] []
  F_law_spoon : Fun K "_law_spoon" "_law_spoon" s_law_spoon a.law_spoon d.law_spoon
  g_law_cell : mg "_law_cell" = some (.ref a.law_cell)
  k_law_cell : PySem.W.keepIn K (.ref a.law_cell) = true
  B_law_cell : Binds K d.law_cell ["churn"] []
  F_law_cell : Fun K "_law_cell" "_law_cell" s_law_cell a.law_cell d.law_cell
  g_law_cells : mg "_law_cells" = some (.ref a.law_cells)
  k_law_cells : PySem.W.keepIn K (.ref a.law_cells) = true
  B_law_cells : Binds K d.law_cells ["churn", "many"] []
  F_law_cells : Fun K "_law_cells" "_law_cells" s_law_cells a.law_cells d.law_cells
  g_law_trim : mg "_law_trim" = some (.ref a.law_trim)
  k_law_trim : PySem.W.keepIn K (.ref a.law_trim) = true
  B_law_trim : Binds K d.law_trim ["cells"] []
  F_law_trim : Fun K "_law_trim" "_law_trim" s_law_trim a.law_trim d.law_trim
  g_law_poly : mg "_law_poly" = some (.ref a.law_poly)
  k_law_poly : PySem.W.keepIn K (.ref a.law_poly) = true
  B_law_poly : Binds K d.law_poly ["churn", "most"] []
  F_law_poly : Fun K "_law_poly" "_law_poly" s_law_poly a.law_poly d.law_poly
  g_law_value : mg "_law_value" = some (.ref a.law_value)
  k_law_value : PySem.W.keepIn K (.ref a.law_value) = true
  B_law_value : Binds K d.law_value ["poly", "cell"] []
  F_law_value : Fun K "_law_value" "_law_value" s_law_value a.law_value d.law_value
  g_law_unlike : mg "_law_unlike" = some (.ref a.law_unlike)
  k_law_unlike : PySem.W.keepIn K (.ref a.law_unlike) = true
  B_law_unlike : Binds K d.law_unlike ["churn", "many", "most"] []
  F_law_unlike : Fun K "_law_unlike" "_law_unlike" s_law_unlike a.law_unlike d.law_unlike
  g_law_back : mg "_law_back" = some (.ref a.law_back)
  k_law_back : PySem.W.keepIn K (.ref a.law_back) = true
  B_law_back : Binds K d.law_back ["cell"] []
  F_law_back : Fun K "_law_back" "_law_back" s_law_back a.law_back d.law_back
  g_law_times : mg "_law_times" = some (.ref a.law_times)
  k_law_times : PySem.W.keepIn K (.ref a.law_times) = true
  B_law_times : Binds K d.law_times ["one", "other"] []
  F_law_times : Fun K "_law_times" "_law_times" s_law_times a.law_times d.law_times
  g_law_plus : mg "_law_plus" = some (.ref a.law_plus)
  k_law_plus : PySem.W.keepIn K (.ref a.law_plus) = true
  B_law_plus : Binds K d.law_plus ["one", "other"] []
  F_law_plus : Fun K "_law_plus" "_law_plus" s_law_plus a.law_plus d.law_plus
  g_law_through : mg "_law_through" = some (.ref a.law_through)
  k_law_through : PySem.W.keepIn K (.ref a.law_through) = true
  B_law_through : Binds K d.law_through ["points"] []
  F_law_through : Fun K "_law_through" "_law_through" s_law_through a.law_through d.law_through
  g_law_through_right : mg "_law_through_right" = some (.ref a.law_through_right)
  k_law_through_right : PySem.W.keepIn K (.ref a.law_through_right) = true
  B_law_through_right : Binds K d.law_through_right ["churn", "points"] []
  F_law_through_right : Fun K "_law_through_right" "_law_through_right" s_law_through_right a.law_through_right d.law_through_right
  g_law_numbers_right : mg "_law_numbers_right" = some (.ref a.law_numbers_right)
  k_law_numbers_right : PySem.W.keepIn K (.ref a.law_numbers_right) = true
  B_law_numbers_right : Binds K d.law_numbers_right ["churn", "there"] []
  F_law_numbers_right : Fun K "_law_numbers_right" "_law_numbers_right" s_law_numbers_right a.law_numbers_right d.law_numbers_right
  g_law_right : mg "_law_right" = some (.ref a.law_right)
  k_law_right : PySem.W.keepIn K (.ref a.law_right) = true
  B_law_right : Binds K d.law_right ["churn"] []
  F_law_right : Fun K "_law_right" "_law_right" s_law_right a.law_right d.law_right
  g_law : mg "law" = some (.ref a.law)
  k_law : PySem.W.keepIn K (.ref a.law) = true
  B_law : Binds K d.law ["script"] []
  F_law : Fun K "law" "law" s_law a.law d.law
section
variable {P : Program} {w : World} {K : PySem.W.Frag} {mg : Str → Option Value} {base : Heap} {a : Ad} {d : Fd} {c : Nat → Addr}
theorem ok_is_number (T : Txt K c mg a d)  : FnOk P w K mg base (L2.CX P w) 1 a.is_number d.is_number ["value", "least", "most"] (spF K c 3 d_is_number) := by
  refine fn_ev2 (b := b_is_number) T.F_is_number sc_is_number rfl rfl rfl fun cdv A outer s H E hr => ?_
  have tk := takes_of (X := cxOf (L2.CX P w) P w K mg base n_is_number "is_number" (defScope s_is_number) a.is_number cdv A outer s H E) rfl rfl rfl rfl
  exact (sb_cons (ss_if (st_w (sw_or (st_not (st_tru (se_isi (T := .int) (pe_callB call_isi (by rfl) T.b_isinstance (by decide +kernel) (pa_cons (se_sl 0) (pa_cons (pe_bltn (v := .ty "int") (by rfl) T.b_int (by decide +kernel) rfl) pa_nil)))) (by intro _; rfl))) (sw_or1 (st_tru (se_isi (T := .bool) (pe_callB call_isi (by rfl) T.b_isinstance (by decide +kernel) (pa_cons (se_sl 0) (pa_cons (pe_bltn (v := .ty "bool") (by rfl) T.b_bool (by decide +kernel) rfl) pa_nil)))) (by intro _; rfl))))) (sb_one (ss_ret se_bl)) sb_nil)
    (sb_one (ss_ret (se_chain x_le x_le (se_b (pe_callB (b_max2 rfl) (by rfl) T.b_max (by decide +kernel) (sl_cons (se_sl 1) (sl_cons (se_un x_neg (se_c (pe_glob (v := .int 999999999999999999999999999999999999999999999999999999999999) rfl T.c_LONGEST.choose_spec ⟨_, rfl⟩) fun _ _ => .int _)) sl_nil)))) (se_sl 0) (se_b (pe_callB (b_min2 rfl) (by rfl) T.b_min (by decide +kernel) (sl_cons (se_sl 2) (sl_cons (se_c (pe_glob (v := .int 999999999999999999999999999999999999999999999999999999999999) rfl T.c_LONGEST.choose_spec ⟨_, rfl⟩) fun _ _ => .int _) sl_nil))))))))
theorem ok_inverse (T : Txt K c mg a d)  : FnOk P w K mg base (L2.CX P w) 1 a.inverse d.inverse ["cell"] (spF K c 1 d_inverse) := by
  refine fn_ev2 (b := b_inverse) T.F_inverse sc_inverse rfl rfl rfl fun cdv A outer s H E hr => ?_
  have tk := takes_of (X := cxOf (L2.CX P w) P w K mg base n_inverse "inverse" (defScope s_inverse) a.inverse cdv A outer s H E) rfl rfl rfl rfl
  exact (sb_one (ss_ret (se_b (pe_callB b_pow3 (by rfl) T.b_pow (by decide +kernel) (sl_cons (se_b (pe_callTy b_int (by rfl) T.b_int (by decide +kernel) (sl_cons (se_sl 0) sl_nil))) (sl_cons se_int (sl_cons se_int sl_nil)))))))
theorem ok_trimmed (T : Txt K c mg a d)  : FnOk P w K mg base (L2.CX P w) 1 a.trimmed d.trimmed ["numbers"] (spF K c 1 d_trimmed) := by
  refine fn_ev2 (b := b_trimmed) T.F_trimmed sc_trimmed rfl rfl rfl fun cdv A outer s H E hr => ?_
  have tk := takes_of (X := cxOf (L2.CX P w) P w K mg base n_trimmed "trimmed" (defScope s_trimmed) a.trimmed cdv A outer s H E) rfl rfl rfl rfl
  exact (sb_cons (ss_lc (gw_name (by decide)) (ps_setLc (i := 1) (own := [("number", 2)]) (g := (L2.gName 2)) rfl sc_trimmed.nd rfl rfl (sw_true rfl rfl rfl (by decide +kernel)) (si_any (se_sl 0)) (blkOk_by (N := n_trimmed) (sc := defScope s_trimmed) (by decide +kernel)) (fun _ _ _ _ _ => (pg_name (i := 2) sc_trimmed.nd rfl (Or.inl rfl) (.inr rfl))) (fun _ _ _ _ _ => sts_nil) (fun _ _ _ _ _ => (se_op x_mod (se_sl 2) (se_c (pe_glob (v := .int 997) rfl T.c_PRIME.choose_spec ⟨_, rfl⟩) fun _ _ => .int _)))))
    (sb_cons (ss_while (ps_while (passes_of rfl) (st_w (sw_and (st_tru (se_sl 1) (by intro _; rfl)) (sw_and1 (st_cmp (x_eq hr.units) (se_ix (se_sl 1) (se_un x_neg se_int) (fun _ _ => rfl)) se_int (nomark _))))) (sb_one (ss_expr (se_m0 (T := .list) (pe_bm0 PySem.F.plainAttrs_list PySem.F.slot_list_pop PySem.F.type_list_pop m_pop (se_sl 1)))))))
    (sb_one (ss_ret (se_b (pe_callTy b_tuple (by rfl) T.b_tuple (by decide +kernel) (sl_cons (se_sl 1) sl_nil)))))))
theorem ok_evaluated (T : Txt K c mg a d)  : FnOk P w K mg base (L2.CX P w) 1 a.evaluated d.evaluated ["poly", "cell"] (spF K c 2 d_evaluated) := by
  refine fn_ev2 (b := b_evaluated) T.F_evaluated sc_evaluated rfl rfl rfl fun cdv A outer s H E hr => ?_
  have tk := takes_of (X := cxOf (L2.CX P w) P w K mg base n_evaluated "evaluated" (defScope s_evaluated) a.evaluated cdv A outer s H E) rfl rfl rfl rfl
  exact (sb_cons (ss_set (i := 2) sc_evaluated.nd rfl (Or.inl rfl) se_int)
    (sb_cons (ss_for (ps_for (passes_of rfl) rfl (si_rev (pi_revA (by rfl) T.b_reversed (se_sl 0))) (sg_name (i := 3) sc_evaluated.nd rfl (Or.inl rfl)) (sb_one (ss_set (i := 2) sc_evaluated.nd rfl (Or.inl rfl) (se_op x_mod (se_op x_add (se_op x_mulG (se_sl 2) (se_sl 1)) (se_sl 3)) (se_c (pe_glob (v := .int 997) rfl T.c_PRIME.choose_spec ⟨_, rfl⟩) fun _ _ => .int _))))))
    (sb_one (ss_ret (se_sl 2)))))
theorem ok_products_without (T : Txt K c mg a d)  : FnOk P w K mg base (L2.CX P w) 1 a.products_without d.products_without ["factors"] (spF K c 1 d_products_without) := by
  refine fn_ev2 (b := b_products_without) T.F_products_without sc_products_without rfl rfl rfl fun cdv A outer s H E hr => ?_
  have tk := takes_of (X := cxOf (L2.CX P w) P w K mg base n_products_without "products_without" (defScope s_products_without) a.products_without cdv A outer s H E) rfl rfl rfl rfl
  exact (sb_cons (ss_asg (ps_asg (se_tup (sl_cons (se_lst (sl_cons se_int sl_nil)) (sl_cons (se_lst (sl_cons se_int sl_nil)) sl_nil))) (sg_tup (pg_tup rfl (sgs_cons (pgs_cons (sg_name (i := 1) sc_products_without.nd rfl (Or.inr rfl)) (sgs_cons (pgs_cons (sg_name (i := 2) sc_products_without.nd rfl (Or.inr rfl)) sgs_nil))))))))
    (sb_cons (ss_for (ps_for (passes_of rfl) rfl (si_any (se_sl 0)) (sg_name (i := 3) sc_products_without.nd rfl (Or.inl rfl)) (sb_one (ss_expr (se_m (T := .list) (pe_bm PySem.F.plainAttrs_list PySem.F.slot_list_append PySem.F.type_list_append m_append (se_sl 1) (sl_cons (se_op x_mod (se_op x_mulG (se_ix (se_sl 1) (se_un x_neg se_int) (fun _ _ => rfl)) (se_sl 3)) (se_c (pe_glob (v := .int 997) rfl T.c_PRIME.choose_spec ⟨_, rfl⟩) fun _ _ => .int _)) sl_nil)))))))
    (sb_cons (ss_for (ps_for (passes_of rfl) rfl (si_rev (pi_revA (by rfl) T.b_reversed (se_sl 0))) (sg_name (i := 3) sc_products_without.nd rfl (Or.inl rfl)) (sb_one (ss_expr (se_m (T := .list) (pe_bm PySem.F.plainAttrs_list PySem.F.slot_list_append PySem.F.type_list_append m_append (se_sl 2) (sl_cons (se_op x_mod (se_op x_mulG (se_ix (se_sl 2) (se_un x_neg se_int) (fun _ _ => rfl)) (se_sl 3)) (se_c (pe_glob (v := .int 997) rfl T.c_PRIME.choose_spec ⟨_, rfl⟩) fun _ _ => .int _)) sl_nil)))))))
    (sb_cons (ss_set (i := 4) sc_products_without.nd rfl (Or.inr rfl) (se_op x_sub (se_b (pe_callB b_len (by rfl) T.b_len (by decide +kernel) (sl_cons (se_sl 0) sl_nil))) se_int))
    (sb_one (ss_ret (se_lc (gw_name (by decide)) (pe_lc (own := [("at", 5)]) (g := (L2.gName 5)) rfl sc_products_without.nd (si_range1 (pi_range1 (by rfl) T.b_range (sl_cons (se_b (pe_callB b_len (by rfl) T.b_len (by decide +kernel) (sl_cons (se_sl 0) sl_nil))) sl_nil))) (blkOk_by (N := n_products_without) (sc := defScope s_products_without) (by decide +kernel)) (fun _ _ _ _ _ => (pg_name (i := 5) sc_products_without.nd rfl (Or.inl rfl) (.inr rfl))) (fun _ _ _ _ _ => sts_nil) (fun _ _ _ _ _ => (se_op x_mod (se_op x_mulG (se_ix (se_sl 1) (se_sl 5) (fun _ _ => rfl)) (se_ix (se_sl 2) (se_op x_sub (se_sl 4) (se_sl 5)) (fun _ _ => rfl))) (se_c (pe_glob (v := .int 997) rfl T.c_PRIME.choose_spec ⟨_, rfl⟩) fun _ _ => .int _)))))))))))
theorem ok_law_churn (T : Txt K c mg a d)  : FnOk P w K mg base (L2.CX P w) 1 a.law_churn d.law_churn ["script", "spot"] (spF K c 2 d_law_churn) := by
  refine fn_ev2 (b := b_law_churn) T.F_law_churn sc_law_churn rfl rfl rfl fun cdv A outer s H E hr => ?_
  have tk := takes_of (X := cxOf (L2.CX P w) P w K mg base n_law_churn "_law_churn" (defScope s_law_churn) a.law_churn cdv A outer s H E) rfl rfl rfl rfl
  exact (sb_cons (ss_set (i := 2) sc_law_churn.nd rfl (Or.inl rfl) (se_if (st_cmp x_lt (se_sl 1) (se_b (pe_callB b_len (by rfl) T.b_len (by decide +kernel) (sl_cons (se_sl 0) sl_nil))) (nomark _)) (se_b (pe_callTy b_int (by rfl) T.b_int (by decide +kernel) (sl_cons (se_ix (se_sl 0) (se_sl 1) (fun _ _ => rfl)) sl_nil))) (se_op x_add (se_op x_mulG se_int (se_sl 1)) se_int)))
    (sb_cons (ss_set (i := 3) sc_law_churn.nd rfl (Or.inl rfl) (se_op x_mod (se_b (pe_callTy b_int (by rfl) T.b_int (by decide +kernel) (sl_cons (se_b (pe_callB b_abs (by rfl) T.b_abs (by decide +kernel) (sl_cons (se_sl 2) sl_nil))) sl_nil))) (se_op x_mulG (se_op x_pow se_int se_int) (se_op x_pow se_int se_int))))
    (sb_cons (ss_set (i := 4) sc_law_churn.nd rfl (Or.inl rfl) (se_op x_add (se_op x_add (se_op x_add (se_op x_mulG (se_op x_mod (se_sl 3) se_int) se_int) (se_op x_mulG se_int (se_sl 1))) (se_op x_mulG se_int (se_b (pe_callTy b_int (by rfl) T.b_int (by decide +kernel) (sl_cons (se_cmp x_lt (se_sl 2) se_int (nomark _)) sl_nil))))) se_int))
    (sb_one (ss_ret (se_lst (sl_cons (se_b (pe_callB (b_max2 rfl) (by rfl) T.b_max (by decide +kernel) (sl_cons se_int (sl_cons (se_op x_sub (se_sl 3) (se_op x_pow se_int se_int)) sl_nil)))) (sl_cons (se_op x_mod (se_b (pe_callTy b_int (by rfl) T.b_int (by decide +kernel) (sl_cons (se_sl 4) sl_nil))) se_int) (sl_cons se_int sl_nil)))))))))
theorem ok_law_ladle (T : Txt K c mg a d)  : FnOk P w K mg base (L2.CX P w) 1 a.law_ladle d.law_ladle ["churn", "total"] (spF K c 2 d_law_ladle) := by
  refine fn_ev2 (b := b_law_ladle) T.F_law_ladle sc_law_ladle rfl rfl rfl fun cdv A outer s H E hr => ?_
  have tk := takes_of (X := cxOf (L2.CX P w) P w K mg base n_law_ladle "_law_ladle" (defScope s_law_ladle) a.law_ladle cdv A outer s H E) rfl rfl rfl rfl
  exact (sb_cons (ss_if (st_cmp x_gt (se_ix (se_sl 0) se_int (fun _ _ => rfl)) se_int (nomark _)) (sb_cons (ss_set (i := 2) sc_law_ladle.nd rfl (Or.inl rfl) (se_op x_mod (se_b (pe_callTy b_int (by rfl) T.b_int (by decide +kernel) (sl_cons (se_ix (se_sl 0) se_int (fun _ _ => rfl)) sl_nil))) (se_sl 1)))
    (sb_cons (ss_asg (ps_asg (se_op x_div (se_ix (se_sl 0) se_int (fun _ _ => rfl)) (se_sl 1)) (sg_sub (c := c) (W := fun cls d _ H' => E cls d H') (pg_sub (se_sl 0) se_int x_setL))))
    (sb_one (ss_ret (se_sl 2))))) sb_nil)
    (sb_cons (ss_asg (ps_asg (se_op x_add (se_ix (se_sl 0) se_int (fun _ _ => rfl)) se_int) (sg_sub (c := c) (W := fun cls d _ H' => E cls d H') (pg_sub (se_sl 0) se_int x_setL))))
    (sb_cons (ss_set (i := 3) sc_law_ladle.nd rfl (Or.inl rfl) (se_op x_mod (se_b (pe_callTy b_int (by rfl) T.b_int (by decide +kernel) (sl_cons (se_op x_add (se_ix (se_sl 0) se_int (fun _ _ => rfl)) (se_op x_mulG se_int (se_ix (se_sl 0) se_int (fun _ _ => rfl)))) sl_nil))) se_int))
    (sb_cons (ss_set (i := 4) sc_law_ladle.nd rfl (Or.inl rfl) (se_op x_add (se_op x_mulG (se_op x_mod (se_b (pe_callTy b_int (by rfl) T.b_int (by decide +kernel) (sl_cons (se_op x_add (se_op x_mulG (se_sl 3) (se_sl 3)) (se_op x_mulG se_int (se_ix (se_sl 0) se_int (fun _ _ => rfl)))) sl_nil))) se_int) se_int) (se_sl 3)))
    (sb_one (ss_ret (se_op x_mod (se_b (pe_callTy b_int (by rfl) T.b_int (by decide +kernel) (sl_cons (se_op x_div (se_sl 4) se_int) sl_nil))) (se_sl 1))))))))
theorem ok_law_trim (T : Txt K c mg a d)  : FnOk P w K mg base (L2.CX P w) 1 a.law_trim d.law_trim ["cells"] (spF K c 1 d_law_trim) := by
  refine fn_ev2 (b := b_law_trim) T.F_law_trim sc_law_trim rfl rfl rfl fun cdv A outer s H E hr => ?_
  have tk := takes_of (X := cxOf (L2.CX P w) P w K mg base n_law_trim "_law_trim" (defScope s_law_trim) a.law_trim cdv A outer s H E) rfl rfl rfl rfl
  exact (sb_cons (ss_set (i := 1) sc_law_trim.nd rfl (Or.inl rfl) (se_b (pe_callTy b_list (by rfl) T.b_list (by decide +kernel) (sl_cons (se_sl 0) sl_nil))))
    (sb_cons (ss_while (ps_while (passes_of rfl) (st_w (sw_and (st_cmp (x_ne hr.units) (se_sl 1) (se_lst sl_nil) (nomark _)) (sw_and1 (st_cmp (x_eq hr.units) (se_ix (se_sl 1) (se_un x_neg se_int) (fun _ _ => rfl)) se_int (nomark _))))) (sb_one (ss_expr (se_m0 (T := .list) (pe_bm0 PySem.F.plainAttrs_list PySem.F.slot_list_pop PySem.F.type_list_pop m_pop (se_sl 1)))))))
    (sb_one (ss_ret (se_b (pe_callTy b_tuple (by rfl) T.b_tuple (by decide +kernel) (sl_cons (se_sl 1) sl_nil)))))))
theorem ok_law_value (T : Txt K c mg a d)  : FnOk P w K mg base (L2.CX P w) 1 a.law_value d.law_value ["poly", "cell"] (spF K c 2 d_law_value) := by
  refine fn_ev2 (b := b_law_value) T.F_law_value sc_law_value rfl rfl rfl fun cdv A outer s H E hr => ?_
  have tk := takes_of (X := cxOf (L2.CX P w) P w K mg base n_law_value "_law_value" (defScope s_law_value) a.law_value cdv A outer s H E) rfl rfl rfl rfl
  exact (sb_cons (ss_asg (ps_asg (se_tup (sl_cons se_int (sl_cons se_int sl_nil))) (sg_tup (pg_tup rfl (sgs_cons (pgs_cons (sg_name (i := 2) sc_law_value.nd rfl (Or.inl rfl)) (sgs_cons (pgs_cons (sg_name (i := 3) sc_law_value.nd rfl (Or.inl rfl)) sgs_nil))))))))
    (sb_cons (ss_for (ps_for (passes_of rfl) rfl (si_any (se_sl 0)) (sg_name (i := 4) sc_law_value.nd rfl (Or.inl rfl)) (sb_one (ss_par (ps_par (i := 2) (j := 3) (by rfl) sc_law_value.nd rfl rfl (by decide) rfl rfl (sl_cons (se_op x_add (se_sl 2) (se_op x_mulG (se_sl 4) (se_sl 3))) (sl_cons (se_op x_mod (se_b (pe_callTy b_int (by rfl) T.b_int (by decide +kernel) (sl_cons (se_op x_mulG (se_sl 3) (se_sl 1)) sl_nil))) se_int) sl_nil)) (by rfl))))))
    (sb_one (ss_ret (se_op x_mod (se_b (pe_callTy b_int (by rfl) T.b_int (by decide +kernel) (sl_cons (se_sl 2) sl_nil))) se_int)))))
theorem ok_law_back (T : Txt K c mg a d)  : FnOk P w K mg base (L2.CX P w) 1 a.law_back d.law_back ["cell"] (spF K c 1 d_law_back) := by
  refine fn_ev2 (b := b_law_back) T.F_law_back sc_law_back rfl rfl rfl fun cdv A outer s H E hr => ?_
  have tk := takes_of (X := cxOf (L2.CX P w) P w K mg base n_law_back "_law_back" (defScope s_law_back) a.law_back cdv A outer s H E) rfl rfl rfl rfl
  exact (sb_cons (ss_asg (ps_asg (se_tup (sl_cons se_int (sl_cons (se_op x_mod (se_b (pe_callTy b_int (by rfl) T.b_int (by decide +kernel) (sl_cons (se_sl 0) sl_nil))) se_int) (sl_cons se_int (sl_cons se_int sl_nil))))) (sg_tup (pg_tup rfl (sgs_cons (pgs_cons (sg_name (i := 1) sc_law_back.nd rfl (Or.inl rfl)) (sgs_cons (pgs_cons (sg_name (i := 2) sc_law_back.nd rfl (Or.inl rfl)) (sgs_cons (pgs_cons (sg_name (i := 3) sc_law_back.nd rfl (Or.inl rfl)) (sgs_cons (pgs_cons (sg_name (i := 4) sc_law_back.nd rfl (Or.inl rfl)) sgs_nil))))))))))))
    (sb_cons (ss_while (ps_while (passes_of rfl) (st_cmp (x_ne hr.units) (se_sl 2) se_int (nomark _)) (sb_cons (ss_set (i := 5) sc_law_back.nd rfl (Or.inl rfl) (se_op x_div (se_sl 1) (se_sl 2)))
    (sb_cons (ss_par (ps_par (i := 1) (j := 2) (by rfl) sc_law_back.nd rfl rfl (by decide) rfl rfl (sl_cons (se_sl 2) (sl_cons (se_op x_sub (se_sl 1) (se_op x_mulG (se_sl 5) (se_sl 2))) sl_nil)) (by rfl)))
    (sb_one (ss_par (ps_par (i := 3) (j := 4) (by rfl) sc_law_back.nd rfl rfl (by decide) rfl rfl (sl_cons (se_sl 4) (sl_cons (se_op x_sub (se_sl 3) (se_op x_mulG (se_sl 5) (se_sl 4))) sl_nil)) (by rfl))))))))
    (sb_one (ss_ret (se_op x_mod (se_b (pe_callTy b_int (by rfl) T.b_int (by decide +kernel) (sl_cons (se_sl 4) sl_nil))) se_int)))))
theorem ok_check_number (T : Txt K c mg a d) (G_is_number : FnOk P w K mg base (L2.CX P w) 1 a.is_number d.is_number ["value", "least", "most"] (spF K c 3 d_is_number)) : FnOk P w K mg base (L2.CX P w) 2 a.check_number d.check_number ["given", "least", "most"] (spF K c 3 d_check_number) := by
  refine fn_ev2 (b := b_check_number) T.F_check_number sc_check_number rfl rfl rfl fun cdv A outer s H E hr => ?_
  have tk := takes_of (X := cxOf (L2.CX P w) P w K mg base n_check_number "check_number" (defScope s_check_number) a.check_number cdv A outer s H E) rfl rfl rfl rfl
  exact (sb_one (ss_if (st_not (st_tru (se_call (pe_callS G_is_number (hr.mono (by decide)) (by rfl) T.g_is_number T.k_is_number T.B_is_number (fun σ => passAt tk σ) (sl_cons (se_sl 0) (sl_cons (se_sl 1) (sl_cons (se_sl 2) sl_nil)))) runB_bad) (by intro _; rfl))) (sb_one ss_never) sb_nil))
theorem ok_is_cell (T : Txt K c mg a d) (G_is_number : FnOk P w K mg base (L2.CX P w) 1 a.is_number d.is_number ["value", "least", "most"] (spF K c 3 d_is_number)) : FnOk P w K mg base (L2.CX P w) 2 a.is_cell d.is_cell ["value"] (spF K c 1 d_is_cell) := by
  refine fn_ev2 (b := b_is_cell) T.F_is_cell sc_is_cell rfl rfl rfl fun cdv A outer s H E hr => ?_
  have tk := takes_of (X := cxOf (L2.CX P w) P w K mg base n_is_cell "is_cell" (defScope s_is_cell) a.is_cell cdv A outer s H E) rfl rfl rfl rfl
  exact (sb_one (ss_ret (se_call (pe_callS G_is_number (hr.mono (by decide)) (by rfl) T.g_is_number T.k_is_number T.B_is_number (fun σ => passAt tk σ) (sl_cons (se_sl 0) (sl_cons se_int (sl_cons (se_c (pe_glob (v := .int 996) rfl T.c_MAX_CELL.choose_spec ⟨_, rfl⟩) fun _ _ => .int _) sl_nil)))) runB_bad)))
theorem ok_combined (T : Txt K c mg a d) (G_trimmed : FnOk P w K mg base (L2.CX P w) 1 a.trimmed d.trimmed ["numbers"] (spF K c 1 d_trimmed)) : FnOk P w K mg base (L2.CX P w) 2 a.combined d.combined ["one", "other", "factor"] (spF K c 3 d_combined) := by
  refine fn_ev2 (b := b_combined) T.F_combined sc_combined rfl rfl rfl fun cdv A outer s H E hr => ?_
  have tk := takes_of (X := cxOf (L2.CX P w) P w K mg base n_combined "combined" (defScope s_combined) a.combined cdv A outer s H E) rfl rfl rfl rfl
  exact (sb_cons (ss_set (i := 3) sc_combined.nd rfl (Or.inl rfl) (se_b (pe_callB (b_max2 rfl) (by rfl) T.b_max (by decide +kernel) (sl_cons (se_b (pe_callB b_len (by rfl) T.b_len (by decide +kernel) (sl_cons (se_sl 0) sl_nil))) (sl_cons (se_b (pe_callB b_len (by rfl) T.b_len (by decide +kernel) (sl_cons (se_sl 1) sl_nil))) sl_nil)))))
    (sb_cons (ss_set (i := 4) sc_combined.nd rfl (Or.inl rfl) (se_op x_add (se_b (pe_callTy b_list (by rfl) T.b_list (by decide +kernel) (sl_cons (se_sl 0) sl_nil))) (se_op x_mulG (se_lst (sl_cons se_int sl_nil)) (se_op x_sub (se_sl 3) (se_b (pe_callB b_len (by rfl) T.b_len (by decide +kernel) (sl_cons (se_sl 0) sl_nil)))))))
    (sb_cons (ss_for (ps_for (passes_of rfl) rfl (si_enum (pi_enum (by rfl) T.b_enumerate (sl_cons (se_sl 1) sl_nil)) (EvF.pi_enumA (by rfl) T.b_enumerate (sl_cons (se_sl 1) sl_nil))) (sg_tup (pg_tup rfl (sgs_cons (pgs_cons (sg_name (i := 5) sc_combined.nd rfl (Or.inl rfl)) (sgs_cons (pgs_cons (sg_name (i := 6) sc_combined.nd rfl (Or.inl rfl)) sgs_nil)))))) (sb_one (ss_augS (ps_augS (se_sl 4) (se_sl 5) x_getL (se_op x_mulG (se_sl 2) (se_sl 6)) x_iadd x_setL)))))
    (sb_one (ss_ret (se_call (pe_callS G_trimmed (hr.mono (by decide)) (by rfl) T.g_trimmed T.k_trimmed T.B_trimmed (fun σ => passAt tk σ) (sl_cons (se_sl 4) sl_nil)) runB_bad))))))
theorem ok_multiplied (T : Txt K c mg a d) (G_trimmed : FnOk P w K mg base (L2.CX P w) 1 a.trimmed d.trimmed ["numbers"] (spF K c 1 d_trimmed)) : FnOk P w K mg base (L2.CX P w) 2 a.multiplied d.multiplied ["one", "other"] (spF K c 2 d_multiplied) := by
  refine fn_ev2 (b := b_multiplied) T.F_multiplied sc_multiplied rfl rfl rfl fun cdv A outer s H E hr => ?_
  have tk := takes_of (X := cxOf (L2.CX P w) P w K mg base n_multiplied "multiplied" (defScope s_multiplied) a.multiplied cdv A outer s H E) rfl rfl rfl rfl
  exact (sb_cons (ss_set (i := 2) sc_multiplied.nd rfl (Or.inl rfl) (se_op x_mulG (se_lst (sl_cons se_int sl_nil)) (se_op x_add (se_b (pe_callB b_len (by rfl) T.b_len (by decide +kernel) (sl_cons (se_sl 0) sl_nil))) (se_b (pe_callB b_len (by rfl) T.b_len (by decide +kernel) (sl_cons (se_sl 1) sl_nil))))))
    (sb_cons (ss_for (ps_for (passes_of rfl) rfl (si_enum (pi_enum (by rfl) T.b_enumerate (sl_cons (se_sl 0) sl_nil)) (EvF.pi_enumA (by rfl) T.b_enumerate (sl_cons (se_sl 0) sl_nil))) (sg_tup (pg_tup rfl (sgs_cons (pgs_cons (sg_name (i := 3) sc_multiplied.nd rfl (Or.inl rfl)) (sgs_cons (pgs_cons (sg_name (i := 4) sc_multiplied.nd rfl (Or.inl rfl)) sgs_nil)))))) (sb_one (ss_for (ps_for (passes_of rfl) rfl (si_enum (pi_enum (by rfl) T.b_enumerate (sl_cons (se_sl 1) sl_nil)) (EvF.pi_enumA (by rfl) T.b_enumerate (sl_cons (se_sl 1) sl_nil))) (sg_tup (pg_tup rfl (sgs_cons (pgs_cons (sg_name (i := 5) sc_multiplied.nd rfl (Or.inl rfl)) (sgs_cons (pgs_cons (sg_name (i := 6) sc_multiplied.nd rfl (Or.inl rfl)) sgs_nil)))))) (sb_one (ss_augS (ps_augS (se_sl 2) (se_op x_add (se_sl 3) (se_sl 5)) x_getL (se_op x_mulG (se_sl 4) (se_sl 6)) x_iadd x_setL))))))))
    (sb_one (ss_ret (se_call (pe_callS G_trimmed (hr.mono (by decide)) (by rfl) T.g_trimmed T.k_trimmed T.B_trimmed (fun σ => passAt tk σ) (sl_cons (se_sl 2) sl_nil)) runB_bad)))))
theorem ok_place_weights (T : Txt K c mg a d) (G_inverse : FnOk P w K mg base (L2.CX P w) 1 a.inverse d.inverse ["cell"] (spF K c 1 d_inverse)) : FnOk P w K mg base (L2.CX P w) 2 a.place_weights d.place_weights ["places"] (spF K c 1 d_place_weights) := by
  refine fn_ev2 (b := b_place_weights) T.F_place_weights sc_place_weights rfl rfl rfl fun cdv A outer s H E hr => ?_
  have tk := takes_of (X := cxOf (L2.CX P w) P w K mg base n_place_weights "place_weights" (defScope s_place_weights) a.place_weights cdv A outer s H E) rfl rfl rfl rfl
  exact (sb_cons (ss_set (i := 1) sc_place_weights.nd rfl (Or.inl rfl) (se_lst sl_nil))
    (sb_cons (ss_for (ps_for (passes_of rfl) rfl (si_any (se_sl 0)) (sg_name (i := 2) sc_place_weights.nd rfl (Or.inl rfl)) (sb_cons (ss_set (i := 3) sc_place_weights.nd rfl (Or.inl rfl) se_int)
    (sb_cons (ss_for (ps_for (passes_of rfl) rfl (si_any (se_sl 0)) (sg_name (i := 4) sc_place_weights.nd rfl (Or.inl rfl)) (sb_one (ss_if (st_cmp (x_ne hr.units) (se_sl 4) (se_sl 2) (nomark _)) (sb_one (ss_set (i := 3) sc_place_weights.nd rfl (Or.inl rfl) (se_op x_mod (se_op x_mulG (se_sl 3) (se_op x_sub (se_sl 2) (se_sl 4))) (se_c (pe_glob (v := .int 997) rfl T.c_PRIME.choose_spec ⟨_, rfl⟩) fun _ _ => .int _)))) sb_nil))))
    (sb_one (ss_expr (se_m (T := .list) (pe_bm PySem.F.plainAttrs_list PySem.F.slot_list_append PySem.F.type_list_append m_append (se_sl 1) (sl_cons (se_call (pe_callS G_inverse (hr.mono (by decide)) (by rfl) T.g_inverse T.k_inverse T.B_inverse (fun σ => passAt tk σ) (sl_cons (se_sl 3) sl_nil)) runB_bad) sl_nil)))))))))
    (sb_one (ss_ret (se_sl 1)))))
theorem ok_numbers_by (T : Txt K c mg a d) (G_products_without : FnOk P w K mg base (L2.CX P w) 1 a.products_without d.products_without ["factors"] (spF K c 1 d_products_without)) : FnOk P w K mg base (L2.CX P w) 2 a.numbers_by d.numbers_by ["places", "weights", "cell"] (spF K c 3 d_numbers_by) := by
  refine fn_ev2 (b := b_numbers_by) T.F_numbers_by sc_numbers_by rfl rfl rfl fun cdv A outer s H E hr => ?_
  have tk := takes_of (X := cxOf (L2.CX P w) P w K mg base n_numbers_by "numbers_by" (defScope s_numbers_by) a.numbers_by cdv A outer s H E) rfl rfl rfl rfl
  exact (sb_cons (ss_set (i := 3) sc_numbers_by.nd rfl (Or.inl rfl) (se_call (pe_callS G_products_without (hr.mono (by decide)) (by rfl) T.g_products_without T.k_products_without T.B_products_without (fun σ => passAt tk σ) (sl_cons (se_lc (gw_name (by decide)) (pe_lc (own := [("place", 4)]) (g := (L2.gName 4)) rfl sc_numbers_by.nd (si_any (se_sl 0)) (blkOk_by (N := n_numbers_by) (sc := defScope s_numbers_by) (by decide +kernel)) (fun _ _ _ _ _ => (pg_name (i := 4) sc_numbers_by.nd rfl (Or.inl rfl) (.inr rfl))) (fun _ _ _ _ _ => sts_nil) (fun _ _ _ _ _ => (se_op x_mod (se_op x_sub (se_sl 2) (se_sl 4)) (se_c (pe_glob (v := .int 997) rfl T.c_PRIME.choose_spec ⟨_, rfl⟩) fun _ _ => .int _))))) sl_nil)) runB_bad))
    (sb_one (ss_ret (se_b (pe_callTy b_tuple (by rfl) T.b_tuple (by decide +kernel) (sl_cons (se_lc (gw_tup (gw_cons (gw_name (by decide)) (gw_cons (gw_name (by decide)) gw_nil))) (pe_lc (own := [("weight", 5), ("other", 6)]) (g := (L2.gTup K 2 (L2.gCons (L2.gName 5) (L2.gCons (L2.gName 6) L2.gNil)))) rfl sc_numbers_by.nd (si_zip (pi_zipA (by rfl) T.b_zip (sl_cons (se_sl 1) (sl_cons (se_sl 3) sl_nil)))) (blkOk_by (N := n_numbers_by) (sc := defScope s_numbers_by) (by decide +kernel)) (fun _ _ _ _ _ => (pg_tup rfl (pgs_cons (pg_name (i := 5) sc_numbers_by.nd rfl (Or.inl rfl) (.inr rfl)) (pgs_cons (pg_name (i := 6) sc_numbers_by.nd rfl (Or.inl rfl) (.inr rfl)) pgs_nil)))) (fun _ _ _ _ _ => sts_nil) (fun _ _ _ _ _ => (se_op x_mod (se_op x_mulG (se_sl 5) (se_sl 6)) (se_c (pe_glob (v := .int 997) rfl T.c_PRIME.choose_spec ⟨_, rfl⟩) fun _ _ => .int _))))) sl_nil))))))
theorem ok_law_spoon (T : Txt K c mg a d) (G_law_ladle : FnOk P w K mg base (L2.CX P w) 1 a.law_ladle d.law_ladle ["churn", "total"] (spF K c 2 d_law_ladle)) : FnOk P w K mg base (L2.CX P w) 2 a.law_spoon d.law_spoon ["churn", "items"] (spF K c 2 d_law_spoon) := by
  refine fn_ev2 (b := b_law_spoon) T.F_law_spoon sc_law_spoon rfl rfl rfl fun cdv A outer s H E hr => ?_
  have tk := takes_of (X := cxOf (L2.CX P w) P w K mg base n_law_spoon "_law_spoon" (defScope s_law_spoon) a.law_spoon cdv A outer s H E) rfl rfl rfl rfl
  exact (sb_one (ss_ret (se_ix (se_sl 1) (se_call (pe_callS G_law_ladle (hr.mono (by decide)) (by rfl) T.g_law_ladle T.k_law_ladle T.B_law_ladle (fun σ => passAt tk σ) (sl_cons (se_sl 0) (sl_cons (se_b (pe_callB b_len (by rfl) T.b_len (by decide +kernel) (sl_cons (se_sl 1) sl_nil))) sl_nil))) runB_bad) (fun _ _ => rfl))))
theorem ok_law_unlike (T : Txt K c mg a d) (G_law_ladle : FnOk P w K mg base (L2.CX P w) 1 a.law_ladle d.law_ladle ["churn", "total"] (spF K c 2 d_law_ladle)) : FnOk P w K mg base (L2.CX P w) 2 a.law_unlike d.law_unlike ["churn", "many", "most"] (spF K c 3 d_law_unlike) := by
  refine fn_ev2 (b := b_law_unlike) T.F_law_unlike sc_law_unlike rfl rfl rfl fun cdv A outer s H E hr => ?_
  have tk := takes_of (X := cxOf (L2.CX P w) P w K mg base n_law_unlike "_law_unlike" (defScope s_law_unlike) a.law_unlike cdv A outer s H E) rfl rfl rfl rfl
  exact (sb_cons (ss_par (ps_par (i := 3) (j := 4) (by rfl) sc_law_unlike.nd rfl rfl (by decide) rfl rfl (sl_cons (se_lstRg (pe_listRg (by rfl) (by rfl) T.b_list (prg_1 (by rfl) T.b_range (se_sl 2)))) (sl_cons (se_lst sl_nil) sl_nil)) (by rfl)))
    (sb_cons (ss_for (ps_for (passes_of rfl) rfl (si_range1 (pi_range1 (by rfl) T.b_range (sl_cons (se_sl 1) sl_nil))) (sg_name (i := 5) sc_law_unlike.nd rfl (Or.inl rfl)) (sb_one (ss_expr (se_m (T := .list) (pe_bm PySem.F.plainAttrs_list PySem.F.slot_list_append PySem.F.type_list_append m_append (se_sl 4) (sl_cons (se_m (T := .list) (pe_bm PySem.F.plainAttrs_list PySem.F.slot_list_pop PySem.F.type_list_pop m_pop (se_sl 3) (sl_cons (se_call (pe_callS G_law_ladle (hr.mono (by decide)) (by rfl) T.g_law_ladle T.k_law_ladle T.B_law_ladle (fun σ => passAt tk σ) (sl_cons (se_sl 0) (sl_cons (se_b (pe_callB b_len (by rfl) T.b_len (by decide +kernel) (sl_cons (se_sl 3) sl_nil))) sl_nil))) runB_bad) sl_nil))) sl_nil)))))))
    (sb_one (ss_ret (se_b (pe_callTy b_tuple (by rfl) T.b_tuple (by decide +kernel) (sl_cons (se_sl 4) sl_nil)))))))
theorem ok_law_times (T : Txt K c mg a d) (G_law_trim : FnOk P w K mg base (L2.CX P w) 1 a.law_trim d.law_trim ["cells"] (spF K c 1 d_law_trim)) : FnOk P w K mg base (L2.CX P w) 2 a.law_times d.law_times ["one", "other"] (spF K c 2 d_law_times) := by
  refine fn_ev2 (b := b_law_times) T.F_law_times sc_law_times rfl rfl rfl fun cdv A outer s H E hr => ?_
  have tk := takes_of (X := cxOf (L2.CX P w) P w K mg base n_law_times "_law_times" (defScope s_law_times) a.law_times cdv A outer s H E) rfl rfl rfl rfl
  exact (sb_cons (ss_set (i := 2) sc_law_times.nd rfl (Or.inl rfl) (se_op x_mulG (se_lst (sl_cons se_int sl_nil)) (se_op x_add (se_b (pe_callB b_len (by rfl) T.b_len (by decide +kernel) (sl_cons (se_sl 0) sl_nil))) (se_b (pe_callB b_len (by rfl) T.b_len (by decide +kernel) (sl_cons (se_sl 1) sl_nil))))))
    (sb_cons (ss_for (ps_for (passes_of rfl) rfl (si_enum (pi_enum (by rfl) T.b_enumerate (sl_cons (se_sl 0) sl_nil)) (EvF.pi_enumA (by rfl) T.b_enumerate (sl_cons (se_sl 0) sl_nil))) (sg_tup (pg_tup rfl (sgs_cons (pgs_cons (sg_name (i := 3) sc_law_times.nd rfl (Or.inl rfl)) (sgs_cons (pgs_cons (sg_name (i := 4) sc_law_times.nd rfl (Or.inl rfl)) sgs_nil)))))) (sb_one (ss_for (ps_for (passes_of rfl) rfl (si_enum (pi_enum (by rfl) T.b_enumerate (sl_cons (se_sl 1) sl_nil)) (EvF.pi_enumA (by rfl) T.b_enumerate (sl_cons (se_sl 1) sl_nil))) (sg_tup (pg_tup rfl (sgs_cons (pgs_cons (sg_name (i := 5) sc_law_times.nd rfl (Or.inl rfl)) (sgs_cons (pgs_cons (sg_name (i := 6) sc_law_times.nd rfl (Or.inl rfl)) sgs_nil)))))) (sb_one (ss_asg (ps_asg (se_op x_mod (se_b (pe_callTy b_int (by rfl) T.b_int (by decide +kernel) (sl_cons (se_op x_add (se_ix (se_sl 2) (se_op x_add (se_sl 3) (se_sl 5)) (fun _ _ => rfl)) (se_op x_mulG (se_sl 4) (se_sl 6))) sl_nil))) se_int) (sg_sub (c := c) (W := fun cls d _ H' => E cls d H') (pg_sub (se_sl 2) (se_op x_add (se_sl 3) (se_sl 5)) x_setL))))))))))
    (sb_one (ss_ret (se_call (pe_callS G_law_trim (hr.mono (by decide)) (by rfl) T.g_law_trim T.k_law_trim T.B_law_trim (fun σ => passAt tk σ) (sl_cons (se_sl 2) sl_nil)) runB_bad)))))
theorem ok_law_plus (T : Txt K c mg a d) (G_law_trim : FnOk P w K mg base (L2.CX P w) 1 a.law_trim d.law_trim ["cells"] (spF K c 1 d_law_trim)) : FnOk P w K mg base (L2.CX P w) 2 a.law_plus d.law_plus ["one", "other"] (spF K c 2 d_law_plus) := by
  refine fn_ev2 (b := b_law_plus) T.F_law_plus sc_law_plus rfl rfl rfl fun cdv A outer s H E hr => ?_
  have tk := takes_of (X := cxOf (L2.CX P w) P w K mg base n_law_plus "_law_plus" (defScope s_law_plus) a.law_plus cdv A outer s H E) rfl rfl rfl rfl
  exact (sb_cons (ss_set (i := 2) sc_law_plus.nd rfl (Or.inl rfl) (se_b (pe_callB (b_max2 rfl) (by rfl) T.b_max (by decide +kernel) (sl_cons (se_b (pe_callB b_len (by rfl) T.b_len (by decide +kernel) (sl_cons (se_sl 0) sl_nil))) (sl_cons (se_b (pe_callB b_len (by rfl) T.b_len (by decide +kernel) (sl_cons (se_sl 1) sl_nil))) sl_nil)))))
    (sb_cons (ss_set (i := 3) sc_law_plus.nd rfl (Or.inr rfl) (se_op x_add (se_sl 0) (se_op x_mulG (se_tup (sl_cons se_int sl_nil)) (se_op x_sub (se_sl 2) (se_b (pe_callB b_len (by rfl) T.b_len (by decide +kernel) (sl_cons (se_sl 0) sl_nil)))))))
    (sb_cons (ss_set (i := 4) sc_law_plus.nd rfl (Or.inr rfl) (se_op x_add (se_sl 1) (se_op x_mulG (se_tup (sl_cons se_int sl_nil)) (se_op x_sub (se_sl 2) (se_b (pe_callB b_len (by rfl) T.b_len (by decide +kernel) (sl_cons (se_sl 1) sl_nil)))))))
    (sb_one (ss_ret (se_call (pe_callS G_law_trim (hr.mono (by decide)) (by rfl) T.g_law_trim T.k_law_trim T.B_law_trim (fun σ => passAt tk σ) (sl_cons (se_lc (gw_name (by decide)) (pe_lc (own := [("at", 5)]) (g := (L2.gName 5)) rfl sc_law_plus.nd (si_range1 (pi_range1 (by rfl) T.b_range (sl_cons (se_sl 2) sl_nil))) (blkOk_by (N := n_law_plus) (sc := defScope s_law_plus) (by decide +kernel)) (fun _ _ _ _ _ => (pg_name (i := 5) sc_law_plus.nd rfl (Or.inl rfl) (.inr rfl))) (fun _ _ _ _ _ => sts_nil) (fun _ _ _ _ _ => (se_op x_mod (se_b (pe_callTy b_int (by rfl) T.b_int (by decide +kernel) (sl_cons (se_op x_add (se_ix (se_sl 3) (se_sl 5) (fun _ _ => rfl)) (se_ix (se_sl 4) (se_sl 5) (fun _ _ => rfl))) sl_nil))) se_int)))) sl_nil)) runB_bad))))))
theorem ok_is_cells (T : Txt K c mg a d) (G_is_cell : FnOk P w K mg base (L2.CX P w) 2 a.is_cell d.is_cell ["value"] (spF K c 1 d_is_cell)) : FnOk P w K mg base (L2.CX P w) 3 a.is_cells d.is_cells ["value"] (spF K c 1 d_is_cells) := by
  refine fn_ev2 (b := b_is_cells) T.F_is_cells sc_is_cells rfl rfl rfl fun cdv A outer s H E hr => ?_
  have tk := takes_of (X := cxOf (L2.CX P w) P w K mg base n_is_cells "is_cells" (defScope s_is_cells) a.is_cells cdv A outer s H E) rfl rfl rfl rfl
  exact (sb_one (ss_ret (se_and (se_isi (T := .tuple) (pe_callB call_isi (by rfl) T.b_isinstance (by decide +kernel) (pa_cons (se_sl 0) (pa_cons (pe_bltn (v := .ty "tuple") (by rfl) T.b_tuple (by decide +kernel) rfl) pa_nil)))) (se_one (se_b (pe_callB (b_all rfl) (by rfl) T.b_all (by decide +kernel) (sl_cons (se_lc (gw_name (by decide)) (pe_lc (own := [("cell", 1)]) (g := (L2.gName 1)) rfl sc_is_cells.nd (si_any (se_sl 0)) (blkOk_by (N := n_is_cells) (sc := defScope s_is_cells) (by decide +kernel)) (fun _ _ _ _ _ => (pg_name (i := 1) sc_is_cells.nd rfl (Or.inl rfl) (.inr rfl))) (fun _ _ _ _ _ => sts_nil) (fun _ _ _ _ _ => (se_call (pe_callS G_is_cell (hr.mono (by decide)) (by rfl) T.g_is_cell T.k_is_cell T.B_is_cell (fun σ => passAt takes0 σ) (sl_cons (se_sl 1) sl_nil)) runB_bad)))) sl_nil)))))))
theorem ok_with_roots (T : Txt K c mg a d) (G_multiplied : FnOk P w K mg base (L2.CX P w) 2 a.multiplied d.multiplied ["one", "other"] (spF K c 2 d_multiplied)) : FnOk P w K mg base (L2.CX P w) 3 a.with_roots d.with_roots ["places"] (spF K c 1 d_with_roots) := by
  refine fn_ev2 (b := b_with_roots) T.F_with_roots sc_with_roots rfl rfl rfl fun cdv A outer s H E hr => ?_
  have tk := takes_of (X := cxOf (L2.CX P w) P w K mg base n_with_roots "with_roots" (defScope s_with_roots) a.with_roots cdv A outer s H E) rfl rfl rfl rfl
  exact (sb_cons (ss_set (i := 1) sc_with_roots.nd rfl (Or.inl rfl) (se_tup (sl_cons se_int sl_nil)))
    (sb_cons (ss_for (ps_for (passes_of rfl) rfl (si_any (se_sl 0)) (sg_name (i := 2) sc_with_roots.nd rfl (Or.inl rfl)) (sb_one (ss_set (i := 1) sc_with_roots.nd rfl (Or.inl rfl) (se_call (pe_callS G_multiplied (hr.mono (by decide)) (by rfl) T.g_multiplied T.k_multiplied T.B_multiplied (fun σ => passAt tk σ) (sl_cons (se_sl 1) (sl_cons (se_tup (sl_cons (se_un x_neg (se_sl 2)) (sl_cons se_int sl_nil))) sl_nil))) runB_bad)))))
    (sb_one (ss_ret (se_sl 1)))))
theorem ok_interpolated (T : Txt K c mg a d) (G_combined : FnOk P w K mg base (L2.CX P w) 2 a.combined d.combined ["one", "other", "factor"] (spF K c 3 d_combined)) (G_evaluated : FnOk P w K mg base (L2.CX P w) 1 a.evaluated d.evaluated ["poly", "cell"] (spF K c 2 d_evaluated)) (G_inverse : FnOk P w K mg base (L2.CX P w) 1 a.inverse d.inverse ["cell"] (spF K c 1 d_inverse)) (G_multiplied : FnOk P w K mg base (L2.CX P w) 2 a.multiplied d.multiplied ["one", "other"] (spF K c 2 d_multiplied)) : FnOk P w K mg base (L2.CX P w) 3 a.interpolated d.interpolated ["points"] (spF K c 1 d_interpolated) := by
  refine fn_ev2 (b := b_interpolated) T.F_interpolated sc_interpolated rfl rfl rfl fun cdv A outer s H E hr => ?_
  have tk := takes_of (X := cxOf (L2.CX P w) P w K mg base n_interpolated "interpolated" (defScope s_interpolated) a.interpolated cdv A outer s H E) rfl rfl rfl rfl
  exact (sb_cons (ss_asg (ps_asg (se_tup (sl_cons (se_tup sl_nil) (sl_cons (se_tup (sl_cons se_int sl_nil)) sl_nil))) (sg_tup (pg_tup rfl (sgs_cons (pgs_cons (sg_name (i := 1) sc_interpolated.nd rfl (Or.inl rfl)) (sgs_cons (pgs_cons (sg_name (i := 2) sc_interpolated.nd rfl (Or.inl rfl)) sgs_nil))))))))
    (sb_cons (ss_for (ps_for (passes_of rfl) rfl (si_any (se_sl 0)) (sg_tup (pg_tup rfl (sgs_cons (pgs_cons (sg_name (i := 3) sc_interpolated.nd rfl (Or.inl rfl)) (sgs_cons (pgs_cons (sg_name (i := 4) sc_interpolated.nd rfl (Or.inl rfl)) sgs_nil)))))) (sb_cons (ss_set (i := 5) sc_interpolated.nd rfl (Or.inl rfl) (se_op x_mulG (se_op x_sub (se_sl 4) (se_call (pe_callS G_evaluated (hr.mono (by decide)) (by rfl) T.g_evaluated T.k_evaluated T.B_evaluated (fun σ => passAt tk σ) (sl_cons (se_sl 1) (sl_cons (se_sl 3) sl_nil))) runB_bad)) (se_call (pe_callS G_inverse (hr.mono (by decide)) (by rfl) T.g_inverse T.k_inverse T.B_inverse (fun σ => passAt tk σ) (sl_cons (se_call (pe_callS G_evaluated (hr.mono (by decide)) (by rfl) T.g_evaluated T.k_evaluated T.B_evaluated (fun σ => passAt tk σ) (sl_cons (se_sl 2) (sl_cons (se_sl 3) sl_nil))) runB_bad) sl_nil)) runB_bad)))
    (sb_cons (ss_set (i := 1) sc_interpolated.nd rfl (Or.inl rfl) (se_call (pe_callS G_combined (hr.mono (by decide)) (by rfl) T.g_combined T.k_combined T.B_combined (fun σ => passAt tk σ) (sl_cons (se_sl 1) (sl_cons (se_sl 2) (sl_cons (se_sl 5) sl_nil)))) runB_bad))
    (sb_one (ss_set (i := 2) sc_interpolated.nd rfl (Or.inl rfl) (se_call (pe_callS G_multiplied (hr.mono (by decide)) (by rfl) T.g_multiplied T.k_multiplied T.B_multiplied (fun σ => passAt tk σ) (sl_cons (se_sl 2) (sl_cons (se_tup (sl_cons (se_un x_neg (se_sl 3)) (sl_cons se_int sl_nil))) sl_nil))) runB_bad)))))))
    (sb_one (ss_ret (se_sl 1)))))
theorem ok_law_cell (T : Txt K c mg a d) (G_law_ladle : FnOk P w K mg base (L2.CX P w) 1 a.law_ladle d.law_ladle ["churn", "total"] (spF K c 2 d_law_ladle)) (G_law_spoon : FnOk P w K mg base (L2.CX P w) 2 a.law_spoon d.law_spoon ["churn", "items"] (spF K c 2 d_law_spoon)) : FnOk P w K mg base (L2.CX P w) 3 a.law_cell d.law_cell ["churn"] (spF K c 1 d_law_cell) := by
  refine fn_ev2 (b := b_law_cell) T.F_law_cell sc_law_cell rfl rfl rfl fun cdv A outer s H E hr => ?_
  have tk := takes_of (X := cxOf (L2.CX P w) P w K mg base n_law_cell "_law_cell" (defScope s_law_cell) a.law_cell cdv A outer s H E) rfl rfl rfl rfl
  exact (sb_one (ss_ret (se_call (pe_callS G_law_spoon (hr.mono (by decide)) (by rfl) T.g_law_spoon T.k_law_spoon T.B_law_spoon (fun σ => passAt tk σ) (sl_cons (se_sl 0) (sl_cons (se_lst (sl_cons se_int (sl_cons se_int (sl_cons se_int (sl_cons se_int (sl_cons se_int (sl_cons se_int (sl_cons (se_call (pe_callS G_law_ladle (hr.mono (by decide)) (by rfl) T.g_law_ladle T.k_law_ladle T.B_law_ladle (fun σ => passAt tk σ) (sl_cons (se_sl 0) (sl_cons se_int sl_nil))) runB_bad) (sl_cons (se_call (pe_callS G_law_ladle (hr.mono (by decide)) (by rfl) T.g_law_ladle T.k_law_ladle T.B_law_ladle (fun σ => passAt tk σ) (sl_cons (se_sl 0) (sl_cons se_int sl_nil))) runB_bad) sl_nil))))))))) sl_nil))) runB_bad)))
theorem ok_law_through (T : Txt K c mg a d) (G_law_back : FnOk P w K mg base (L2.CX P w) 1 a.law_back d.law_back ["cell"] (spF K c 1 d_law_back)) (G_law_plus : FnOk P w K mg base (L2.CX P w) 2 a.law_plus d.law_plus ["one", "other"] (spF K c 2 d_law_plus)) (G_law_times : FnOk P w K mg base (L2.CX P w) 2 a.law_times d.law_times ["one", "other"] (spF K c 2 d_law_times)) : FnOk P w K mg base (L2.CX P w) 3 a.law_through d.law_through ["points"] (spF K c 1 d_law_through) := by
  refine fn_ev2 (b := b_law_through) T.F_law_through sc_law_through rfl rfl rfl fun cdv A outer s H E hr => ?_
  have tk := takes_of (X := cxOf (L2.CX P w) P w K mg base n_law_through "_law_through" (defScope s_law_through) a.law_through cdv A outer s H E) rfl rfl rfl rfl
  exact (sb_cons (ss_set (i := 1) sc_law_through.nd rfl (Or.inl rfl) (se_tup sl_nil))
    (sb_cons (ss_for (ps_for (passes_of rfl) rfl (si_any (se_sl 0)) (sg_tup (pg_tup rfl (sgs_cons (pgs_cons (sg_name (i := 2) sc_law_through.nd rfl (Or.inl rfl)) (sgs_cons (pgs_cons (sg_name (i := 3) sc_law_through.nd rfl (Or.inl rfl)) sgs_nil)))))) (sb_cons (ss_par (ps_par (i := 4) (j := 5) (by rfl) sc_law_through.nd rfl rfl (by decide) rfl rfl (sl_cons (se_tup (sl_cons (se_sl 3) sl_nil)) (sl_cons se_int sl_nil)) (by rfl)))
    (sb_cons (ss_for (ps_for (passes_of rfl) rfl (si_any (se_sl 0)) (sg_tup (pg_tup rfl (sgs_cons (pgs_cons (sg_name (i := 6) sc_law_through.nd rfl (Or.inl rfl)) (sgs_cons (pgs_cons (sg_name (i := 7) sc_law_through.nd rfl (Or.inl rfl)) sgs_nil)))))) (sb_one (ss_if (st_cmp (x_ne hr.units) (se_sl 6) (se_sl 2) (nomark _)) (sb_cons (ss_set (i := 4) sc_law_through.nd rfl (Or.inl rfl) (se_call (pe_callS G_law_times (hr.mono (by decide)) (by rfl) T.g_law_times T.k_law_times T.B_law_times (fun σ => passAt tk σ) (sl_cons (se_sl 4) (sl_cons (se_tup (sl_cons (se_op x_mod (se_b (pe_callTy b_int (by rfl) T.b_int (by decide +kernel) (sl_cons (se_op x_sub se_int (se_sl 6)) sl_nil))) se_int) (sl_cons se_int sl_nil))) sl_nil))) runB_bad))
    (sb_one (ss_set (i := 5) sc_law_through.nd rfl (Or.inl rfl) (se_op x_mod (se_b (pe_callTy b_int (by rfl) T.b_int (by decide +kernel) (sl_cons (se_op x_mulG (se_sl 5) (se_op x_sub (se_sl 2) (se_sl 6))) sl_nil))) se_int)))) sb_nil))))
    (sb_one (ss_set (i := 1) sc_law_through.nd rfl (Or.inl rfl) (se_call (pe_callS G_law_plus (hr.mono (by decide)) (by rfl) T.g_law_plus T.k_law_plus T.B_law_plus (fun σ => passAt tk σ) (sl_cons (se_sl 1) (sl_cons (se_call (pe_callS G_law_times (hr.mono (by decide)) (by rfl) T.g_law_times T.k_law_times T.B_law_times (fun σ => passAt tk σ) (sl_cons (se_sl 4) (sl_cons (se_tup (sl_cons (se_call (pe_callS G_law_back (hr.mono (by decide)) (by rfl) T.g_law_back T.k_law_back T.B_law_back (fun σ => passAt tk σ) (sl_cons (se_sl 5) sl_nil)) runB_bad) sl_nil)) sl_nil))) runB_bad) sl_nil))) runB_bad)))))))
    (sb_one (ss_ret (se_sl 1)))))
theorem ok_is_poly (T : Txt K c mg a d) (G_is_cells : FnOk P w K mg base (L2.CX P w) 3 a.is_cells d.is_cells ["value"] (spF K c 1 d_is_cells)) : FnOk P w K mg base (L2.CX P w) 4 a.is_poly d.is_poly ["value"] (spF K c 1 d_is_poly) := by
  refine fn_ev2 (b := b_is_poly) T.F_is_poly sc_is_poly rfl rfl rfl fun cdv A outer s H E hr => ?_
  have tk := takes_of (X := cxOf (L2.CX P w) P w K mg base n_is_poly "is_poly" (defScope s_is_poly) a.is_poly cdv A outer s H E) rfl rfl rfl rfl
  exact (sb_one (ss_ret (se_and (se_call (pe_callS G_is_cells (hr.mono (by decide)) (by rfl) T.g_is_cells T.k_is_cells T.B_is_cells (fun σ => passAt tk σ) (sl_cons (se_sl 0) sl_nil)) runB_bad) (se_one (se_or (se_cmp (x_eq hr.units) (se_sl 0) (se_tup sl_nil) (nomark _)) (se_one (se_cmp (x_ne hr.units) (se_ix (se_sl 0) (se_un x_neg se_int) (fun _ _ => rfl)) se_int (nomark _))))))))
theorem ok_check_places (T : Txt K c mg a d) (G_is_cells : FnOk P w K mg base (L2.CX P w) 3 a.is_cells d.is_cells ["value"] (spF K c 1 d_is_cells)) : FnOk P w K mg base (L2.CX P w) 4 a.check_places d.check_places ["places"] (spF K c 1 d_check_places) := by
  refine fn_ev2 (b := b_check_places) T.F_check_places sc_check_places rfl rfl rfl fun cdv A outer s H E hr => ?_
  have tk := takes_of (X := cxOf (L2.CX P w) P w K mg base n_check_places "check_places" (defScope s_check_places) a.check_places cdv A outer s H E) rfl rfl rfl rfl
  exact (sb_one (ss_if (st_w (sw_or (st_not (st_tru (se_call (pe_callS G_is_cells (hr.mono (by decide)) (by rfl) T.g_is_cells T.k_is_cells T.B_is_cells (fun σ => passAt tk σ) (sl_cons (se_sl 0) sl_nil)) runB_bad) (by intro _; rfl))) (sw_or (st_cmp x_gt (se_b (pe_callB b_len (by rfl) T.b_len (by decide +kernel) (sl_cons (se_sl 0) sl_nil))) (se_c (pe_glob (v := .int 60) rfl T.c_MOST_CELLS.choose_spec ⟨_, rfl⟩) fun _ _ => .int _) (nomark _)) (sw_or1 (st_cmp (x_ne hr.units) (se_lenSet (pe_lenSetT (by rfl) T.b_len (by rfl) T.b_set (se_sl 0))) (se_b (pe_callB b_len (by rfl) T.b_len (by decide +kernel) (sl_cons (se_sl 0) sl_nil))) (nomark _)))))) (sb_one ss_never) sb_nil))
theorem ok_law_cells (T : Txt K c mg a d) (G_law_cell : FnOk P w K mg base (L2.CX P w) 3 a.law_cell d.law_cell ["churn"] (spF K c 1 d_law_cell)) : FnOk P w K mg base (L2.CX P w) 4 a.law_cells d.law_cells ["churn", "many"] (spF K c 2 d_law_cells) := by
  refine fn_ev2 (b := b_law_cells) T.F_law_cells sc_law_cells rfl rfl rfl fun cdv A outer s H E hr => ?_
  have tk := takes_of (X := cxOf (L2.CX P w) P w K mg base n_law_cells "_law_cells" (defScope s_law_cells) a.law_cells cdv A outer s H E) rfl rfl rfl rfl
  exact (sb_one (ss_ret (se_b (pe_callTy b_tuple (by rfl) T.b_tuple (by decide +kernel) (sl_cons (se_lc (gw_name (by decide)) (pe_lc (own := [("turn", 2)]) (g := (L2.gName 2)) rfl sc_law_cells.nd (si_range1 (pi_range1 (by rfl) T.b_range (sl_cons (se_sl 1) sl_nil))) (blkOk_by (N := n_law_cells) (sc := defScope s_law_cells) (by decide +kernel)) (fun _ _ _ _ _ => (pg_name (i := 2) sc_law_cells.nd rfl (Or.inl rfl) (.inr rfl))) (fun _ _ _ _ _ => sts_nil) (fun _ _ _ _ _ => (se_call (pe_callS G_law_cell (hr.mono (by decide)) (by rfl) T.g_law_cell T.k_law_cell T.B_law_cell (fun σ => passAt takes0 σ) (sl_cons (se_sl 0) sl_nil)) runB_bad)))) sl_nil)))))
theorem ok_check_poly (T : Txt K c mg a d) (G_is_poly : FnOk P w K mg base (L2.CX P w) 4 a.is_poly d.is_poly ["value"] (spF K c 1 d_is_poly)) : FnOk P w K mg base (L2.CX P w) 5 a.check_poly d.check_poly ["poly"] (spF K c 1 d_check_poly) := by
  refine fn_ev2 (b := b_check_poly) T.F_check_poly sc_check_poly rfl rfl rfl fun cdv A outer s H E hr => ?_
  have tk := takes_of (X := cxOf (L2.CX P w) P w K mg base n_check_poly "check_poly" (defScope s_check_poly) a.check_poly cdv A outer s H E) rfl rfl rfl rfl
  exact (sb_one (ss_if (st_w (sw_or (st_not (st_tru (se_call (pe_callS G_is_poly (hr.mono (by decide)) (by rfl) T.g_is_poly T.k_is_poly T.B_is_poly (fun σ => passAt tk σ) (sl_cons (se_sl 0) sl_nil)) runB_bad) (by intro _; rfl))) (sw_or1 (st_cmp x_gt (se_b (pe_callB b_len (by rfl) T.b_len (by decide +kernel) (sl_cons (se_sl 0) sl_nil))) (se_c (pe_glob (v := .int 60) rfl T.c_MOST_CELLS.choose_spec ⟨_, rfl⟩) fun _ _ => .int _) (nomark _))))) (sb_one ss_never) sb_nil))
theorem ok_check_points (T : Txt K c mg a d) (G_check_places : FnOk P w K mg base (L2.CX P w) 4 a.check_places d.check_places ["places"] (spF K c 1 d_check_places)) (G_is_cells : FnOk P w K mg base (L2.CX P w) 3 a.is_cells d.is_cells ["value"] (spF K c 1 d_is_cells)) : FnOk P w K mg base (L2.CX P w) 5 a.check_points d.check_points ["points"] (spF K c 1 d_check_points) := by
  refine fn_ev2 (b := b_check_points) T.F_check_points sc_check_points rfl rfl rfl fun cdv A outer s H E hr => ?_
  have tk := takes_of (X := cxOf (L2.CX P w) P w K mg base n_check_points "check_points" (defScope s_check_points) a.check_points cdv A outer s H E) rfl rfl rfl rfl
  exact (sb_cons (ss_if (st_w (sw_or (st_not (st_tru (se_isi (T := .tuple) (pe_callB call_isi (by rfl) T.b_isinstance (by decide +kernel) (pa_cons (se_sl 0) (pa_cons (pe_bltn (v := .ty "tuple") (by rfl) T.b_tuple (by decide +kernel) rfl) pa_nil)))) (by intro _; rfl))) (sw_or1 (st_not (st_tru (se_b (pe_callB (b_all rfl) (by rfl) T.b_all (by decide +kernel) (sl_cons (se_lc (gw_name (by decide)) (pe_lc (own := [("point", 3)]) (g := (L2.gName 3)) rfl sc_check_points.nd (si_any (se_sl 0)) (blkOk_by (N := n_check_points) (sc := defScope s_check_points) (by decide +kernel)) (fun _ _ _ _ _ => (pg_name (i := 3) sc_check_points.nd rfl (Or.inl rfl) (.inr rfl))) (fun _ _ _ _ _ => sts_nil) (fun _ _ _ _ _ => (se_and (se_call (pe_callS G_is_cells (hr.mono (by decide)) (by rfl) T.g_is_cells T.k_is_cells T.B_is_cells (fun σ => passAt takes0 σ) (sl_cons (se_sl 3) sl_nil)) runB_bad) (se_one (se_cmp (x_eq hr.units) (se_b (pe_callB b_len (by rfl) T.b_len (by decide +kernel) (sl_cons (se_sl 3) sl_nil))) se_int (nomark _))))))) sl_nil))) (by intro _; rfl)))))) (sb_one ss_never) sb_nil)
    (sb_one (ss_expr (se_call (pe_callS G_check_places (hr.mono (by decide)) (by rfl) T.g_check_places T.k_check_places T.B_check_places (fun σ => passAt tk σ) (sl_cons (se_b (pe_callTy b_tuple (by rfl) T.b_tuple (by decide +kernel) (sl_cons (se_lc (gw_tup (gw_cons (gw_name (by decide)) (gw_cons (gw_name (by decide)) gw_nil))) (pe_lc (own := [("place", 1), ("number", 2)]) (g := (L2.gTup K 2 (L2.gCons (L2.gName 1) (L2.gCons (L2.gName 2) L2.gNil)))) rfl sc_check_points.nd (si_any (se_sl 0)) (blkOk_by (N := n_check_points) (sc := defScope s_check_points) (by decide +kernel)) (fun _ _ _ _ _ => (pg_tup rfl (pgs_cons (pg_name (i := 1) sc_check_points.nd rfl (Or.inl rfl) (.inr rfl)) (pgs_cons (pg_name (i := 2) sc_check_points.nd rfl (Or.inl rfl) (.inr rfl)) pgs_nil)))) (fun _ _ _ _ _ => sts_nil) (fun _ _ _ _ _ => (se_sl 1)))) sl_nil))) sl_nil)) runB_bad))))
theorem ok_none_at (T : Txt K c mg a d) (G_check_places : FnOk P w K mg base (L2.CX P w) 4 a.check_places d.check_places ["places"] (spF K c 1 d_check_places)) (G_with_roots : FnOk P w K mg base (L2.CX P w) 3 a.with_roots d.with_roots ["places"] (spF K c 1 d_with_roots)) : FnOk P w K mg base (L2.CX P w) 5 a.none_at d.none_at ["places"] (spF K c 1 d_none_at) := by
  refine fn_ev2 (b := b_none_at) T.F_none_at sc_none_at rfl rfl rfl fun cdv A outer s H E hr => ?_
  have tk := takes_of (X := cxOf (L2.CX P w) P w K mg base n_none_at "none_at" (defScope s_none_at) a.none_at cdv A outer s H E) rfl rfl rfl rfl
  exact (sb_cons (ss_expr (se_call (pe_callS G_check_places (hr.mono (by decide)) (by rfl) T.g_check_places T.k_check_places T.B_check_places (fun σ => passAt tk σ) (sl_cons (se_sl 0) sl_nil)) runB_bad))
    (sb_one (ss_ret (se_call (pe_callS G_with_roots (hr.mono (by decide)) (by rfl) T.g_with_roots T.k_with_roots T.B_with_roots (fun σ => passAt tk σ) (sl_cons (se_sl 0) sl_nil)) runB_bad))))
theorem ok_numbers_at (T : Txt K c mg a d) (G_check_number : FnOk P w K mg base (L2.CX P w) 2 a.check_number d.check_number ["given", "least", "most"] (spF K c 3 d_check_number)) (G_check_places : FnOk P w K mg base (L2.CX P w) 4 a.check_places d.check_places ["places"] (spF K c 1 d_check_places)) (G_numbers_by : FnOk P w K mg base (L2.CX P w) 2 a.numbers_by d.numbers_by ["places", "weights", "cell"] (spF K c 3 d_numbers_by)) (G_place_weights : FnOk P w K mg base (L2.CX P w) 2 a.place_weights d.place_weights ["places"] (spF K c 1 d_place_weights)) : FnOk P w K mg base (L2.CX P w) 5 a.numbers_at d.numbers_at ["places", "cell"] (spF K c 2 d_numbers_at) := by
  refine fn_ev2 (b := b_numbers_at) T.F_numbers_at sc_numbers_at rfl rfl rfl fun cdv A outer s H E hr => ?_
  have tk := takes_of (X := cxOf (L2.CX P w) P w K mg base n_numbers_at "numbers_at" (defScope s_numbers_at) a.numbers_at cdv A outer s H E) rfl rfl rfl rfl
  exact (sb_cons (ss_expr (se_call (pe_callS G_check_places (hr.mono (by decide)) (by rfl) T.g_check_places T.k_check_places T.B_check_places (fun σ => passAt tk σ) (sl_cons (se_sl 0) sl_nil)) runB_bad))
    (sb_cons (ss_expr (se_call (pe_callS G_check_number (hr.mono (by decide)) (by rfl) T.g_check_number T.k_check_number T.B_check_number (fun σ => passAt tk σ) (sl_cons (se_sl 1) (sl_cons se_int (sl_cons (se_c (pe_glob (v := .int 996) rfl T.c_MAX_CELL.choose_spec ⟨_, rfl⟩) fun _ _ => .int _) sl_nil)))) runB_bad))
    (sb_one (ss_ret (se_call (pe_callS G_numbers_by (hr.mono (by decide)) (by rfl) T.g_numbers_by T.k_numbers_by T.B_numbers_by (fun σ => passAt tk σ) (sl_cons (se_sl 0) (sl_cons (se_call (pe_callS G_place_weights (hr.mono (by decide)) (by rfl) T.g_place_weights T.k_place_weights T.B_place_weights (fun σ => passAt tk σ) (sl_cons (se_sl 0) sl_nil)) runB_bad) (sl_cons (se_sl 1) sl_nil)))) runB_bad)))))
theorem ok_law_poly (T : Txt K c mg a d) (G_law_cells : FnOk P w K mg base (L2.CX P w) 4 a.law_cells d.law_cells ["churn", "many"] (spF K c 2 d_law_cells)) (G_law_ladle : FnOk P w K mg base (L2.CX P w) 1 a.law_ladle d.law_ladle ["churn", "total"] (spF K c 2 d_law_ladle)) (G_law_trim : FnOk P w K mg base (L2.CX P w) 1 a.law_trim d.law_trim ["cells"] (spF K c 1 d_law_trim)) : FnOk P w K mg base (L2.CX P w) 5 a.law_poly d.law_poly ["churn", "most"] (spF K c 2 d_law_poly) := by
  refine fn_ev2 (b := b_law_poly) T.F_law_poly sc_law_poly rfl rfl rfl fun cdv A outer s H E hr => ?_
  have tk := takes_of (X := cxOf (L2.CX P w) P w K mg base n_law_poly "_law_poly" (defScope s_law_poly) a.law_poly cdv A outer s H E) rfl rfl rfl rfl
  exact (sb_one (ss_ret (se_call (pe_callS G_law_trim (hr.mono (by decide)) (by rfl) T.g_law_trim T.k_law_trim T.B_law_trim (fun σ => passAt tk σ) (sl_cons (se_call (pe_callS G_law_cells (hr.mono (by decide)) (by rfl) T.g_law_cells T.k_law_cells T.B_law_cells (fun σ => passAt tk σ) (sl_cons (se_sl 0) (sl_cons (se_call (pe_callS G_law_ladle (hr.mono (by decide)) (by rfl) T.g_law_ladle T.k_law_ladle T.B_law_ladle (fun σ => passAt tk σ) (sl_cons (se_sl 0) (sl_cons (se_op x_add (se_sl 1) se_int) sl_nil))) runB_bad) sl_nil))) runB_bad) sl_nil)) runB_bad)))
theorem ok_value_at (T : Txt K c mg a d) (G_check_number : FnOk P w K mg base (L2.CX P w) 2 a.check_number d.check_number ["given", "least", "most"] (spF K c 3 d_check_number)) (G_check_poly : FnOk P w K mg base (L2.CX P w) 5 a.check_poly d.check_poly ["poly"] (spF K c 1 d_check_poly)) (G_evaluated : FnOk P w K mg base (L2.CX P w) 1 a.evaluated d.evaluated ["poly", "cell"] (spF K c 2 d_evaluated)) : FnOk P w K mg base (L2.CX P w) 6 a.value_at d.value_at ["poly", "cell"] (spF K c 2 d_value_at) := by
  refine fn_ev2 (b := b_value_at) T.F_value_at sc_value_at rfl rfl rfl fun cdv A outer s H E hr => ?_
  have tk := takes_of (X := cxOf (L2.CX P w) P w K mg base n_value_at "value_at" (defScope s_value_at) a.value_at cdv A outer s H E) rfl rfl rfl rfl
  exact (sb_cons (ss_expr (se_call (pe_callS G_check_poly (hr.mono (by decide)) (by rfl) T.g_check_poly T.k_check_poly T.B_check_poly (fun σ => passAt tk σ) (sl_cons (se_sl 0) sl_nil)) runB_bad))
    (sb_cons (ss_expr (se_call (pe_callS G_check_number (hr.mono (by decide)) (by rfl) T.g_check_number T.k_check_number T.B_check_number (fun σ => passAt tk σ) (sl_cons (se_sl 1) (sl_cons se_int (sl_cons (se_c (pe_glob (v := .int 996) rfl T.c_MAX_CELL.choose_spec ⟨_, rfl⟩) fun _ _ => .int _) sl_nil)))) runB_bad))
    (sb_one (ss_ret (se_call (pe_callS G_evaluated (hr.mono (by decide)) (by rfl) T.g_evaluated T.k_evaluated T.B_evaluated (fun σ => passAt tk σ) (sl_cons (se_sl 0) (sl_cons (se_sl 1) sl_nil))) runB_bad)))))
theorem ok_check_both (T : Txt K c mg a d) (G_check_poly : FnOk P w K mg base (L2.CX P w) 5 a.check_poly d.check_poly ["poly"] (spF K c 1 d_check_poly)) : FnOk P w K mg base (L2.CX P w) 6 a.check_both d.check_both ["one", "other"] (spF K c 2 d_check_both) := by
  refine fn_ev2 (b := b_check_both) T.F_check_both sc_check_both rfl rfl rfl fun cdv A outer s H E hr => ?_
  have tk := takes_of (X := cxOf (L2.CX P w) P w K mg base n_check_both "check_both" (defScope s_check_both) a.check_both cdv A outer s H E) rfl rfl rfl rfl
  exact (sb_cons (ss_expr (se_call (pe_callS G_check_poly (hr.mono (by decide)) (by rfl) T.g_check_poly T.k_check_poly T.B_check_poly (fun σ => passAt tk σ) (sl_cons (se_sl 0) sl_nil)) runB_bad))
    (sb_one (ss_expr (se_call (pe_callS G_check_poly (hr.mono (by decide)) (by rfl) T.g_check_poly T.k_check_poly T.B_check_poly (fun σ => passAt tk σ) (sl_cons (se_sl 1) sl_nil)) runB_bad))))
theorem ok_through (T : Txt K c mg a d) (G_check_points : FnOk P w K mg base (L2.CX P w) 5 a.check_points d.check_points ["points"] (spF K c 1 d_check_points)) (G_interpolated : FnOk P w K mg base (L2.CX P w) 3 a.interpolated d.interpolated ["points"] (spF K c 1 d_interpolated)) : FnOk P w K mg base (L2.CX P w) 6 a.through d.through ["points"] (spF K c 1 d_through) := by
  refine fn_ev2 (b := b_through) T.F_through sc_through rfl rfl rfl fun cdv A outer s H E hr => ?_
  have tk := takes_of (X := cxOf (L2.CX P w) P w K mg base n_through "through" (defScope s_through) a.through cdv A outer s H E) rfl rfl rfl rfl
  exact (sb_cons (ss_expr (se_call (pe_callS G_check_points (hr.mono (by decide)) (by rfl) T.g_check_points T.k_check_points T.B_check_points (fun σ => passAt tk σ) (sl_cons (se_sl 0) sl_nil)) runB_bad))
    (sb_one (ss_ret (se_call (pe_callS G_interpolated (hr.mono (by decide)) (by rfl) T.g_interpolated T.k_interpolated T.B_interpolated (fun σ => passAt tk σ) (sl_cons (se_sl 0) sl_nil)) runB_bad))))
theorem ok_poly_sum (T : Txt K c mg a d) (G_check_both : FnOk P w K mg base (L2.CX P w) 6 a.check_both d.check_both ["one", "other"] (spF K c 2 d_check_both)) (G_combined : FnOk P w K mg base (L2.CX P w) 2 a.combined d.combined ["one", "other", "factor"] (spF K c 3 d_combined)) : FnOk P w K mg base (L2.CX P w) 7 a.poly_sum d.poly_sum ["one", "other"] (spF K c 2 d_poly_sum) := by
  refine fn_ev2 (b := b_poly_sum) T.F_poly_sum sc_poly_sum rfl rfl rfl fun cdv A outer s H E hr => ?_
  have tk := takes_of (X := cxOf (L2.CX P w) P w K mg base n_poly_sum "poly_sum" (defScope s_poly_sum) a.poly_sum cdv A outer s H E) rfl rfl rfl rfl
  exact (sb_cons (ss_expr (se_call (pe_callS G_check_both (hr.mono (by decide)) (by rfl) T.g_check_both T.k_check_both T.B_check_both (fun σ => passAt tk σ) (sl_cons (se_sl 0) (sl_cons (se_sl 1) sl_nil))) runB_bad))
    (sb_one (ss_ret (se_call (pe_callS G_combined (hr.mono (by decide)) (by rfl) T.g_combined T.k_combined T.B_combined (fun σ => passAt tk σ) (sl_cons (se_sl 0) (sl_cons (se_sl 1) (sl_cons se_int sl_nil)))) runB_bad))))
theorem ok_poly_product (T : Txt K c mg a d) (G_check_both : FnOk P w K mg base (L2.CX P w) 6 a.check_both d.check_both ["one", "other"] (spF K c 2 d_check_both)) (G_multiplied : FnOk P w K mg base (L2.CX P w) 2 a.multiplied d.multiplied ["one", "other"] (spF K c 2 d_multiplied)) : FnOk P w K mg base (L2.CX P w) 7 a.poly_product d.poly_product ["one", "other"] (spF K c 2 d_poly_product) := by
  refine fn_ev2 (b := b_poly_product) T.F_poly_product sc_poly_product rfl rfl rfl fun cdv A outer s H E hr => ?_
  have tk := takes_of (X := cxOf (L2.CX P w) P w K mg base n_poly_product "poly_product" (defScope s_poly_product) a.poly_product cdv A outer s H E) rfl rfl rfl rfl
  exact (sb_cons (ss_expr (se_call (pe_callS G_check_both (hr.mono (by decide)) (by rfl) T.g_check_both T.k_check_both T.B_check_both (fun σ => passAt tk σ) (sl_cons (se_sl 0) (sl_cons (se_sl 1) sl_nil))) runB_bad))
    (sb_one (ss_ret (se_call (pe_callS G_multiplied (hr.mono (by decide)) (by rfl) T.g_multiplied T.k_multiplied T.B_multiplied (fun σ => passAt tk σ) (sl_cons (se_sl 0) (sl_cons (se_sl 1) sl_nil))) runB_bad))))
theorem ok_law_numbers_right (T : Txt K c mg a d) (G_law_cells : FnOk P w K mg base (L2.CX P w) 4 a.law_cells d.law_cells ["churn", "many"] (spF K c 2 d_law_cells)) (G_law_ladle : FnOk P w K mg base (L2.CX P w) 1 a.law_ladle d.law_ladle ["churn", "total"] (spF K c 2 d_law_ladle)) (G_law_spoon : FnOk P w K mg base (L2.CX P w) 2 a.law_spoon d.law_spoon ["churn", "items"] (spF K c 2 d_law_spoon)) (G_law_trim : FnOk P w K mg base (L2.CX P w) 1 a.law_trim d.law_trim ["cells"] (spF K c 1 d_law_trim)) (G_law_value : FnOk P w K mg base (L2.CX P w) 1 a.law_value d.law_value ["poly", "cell"] (spF K c 2 d_law_value)) (G_none_at : FnOk P w K mg base (L2.CX P w) 5 a.none_at d.none_at ["places"] (spF K c 1 d_none_at)) (G_numbers_at : FnOk P w K mg base (L2.CX P w) 5 a.numbers_at d.numbers_at ["places", "cell"] (spF K c 2 d_numbers_at)) (G_value_at : FnOk P w K mg base (L2.CX P w) 6 a.value_at d.value_at ["poly", "cell"] (spF K c 2 d_value_at)) : FnOk P w K mg base (L2.CX P w) 7 a.law_numbers_right d.law_numbers_right ["churn", "there"] (spF K c 2 d_law_numbers_right) := by
  refine fn_ev2 (b := b_law_numbers_right) T.F_law_numbers_right sc_law_numbers_right rfl rfl rfl fun cdv A outer s H E hr => ?_
  have tk := takes_of (X := cxOf (L2.CX P w) P w K mg base n_law_numbers_right "_law_numbers_right" (defScope s_law_numbers_right) a.law_numbers_right cdv A outer s H E) rfl rfl rfl rfl
  exact (sb_cons (ss_set (i := 2) sc_law_numbers_right.nd rfl (Or.inr rfl) (se_call (pe_callS G_law_spoon (hr.mono (by decide)) (by rfl) T.g_law_spoon T.k_law_spoon T.B_law_spoon (fun σ => passAt tk σ) (sl_cons (se_sl 0) (sl_cons (se_op x_add (se_lst (sl_cons (se_call (pe_callS G_law_ladle (hr.mono (by decide)) (by rfl) T.g_law_ladle T.k_law_ladle T.B_law_ladle (fun σ => passAt tk σ) (sl_cons (se_sl 0) (sl_cons se_int sl_nil))) runB_bad) sl_nil)) (se_b (pe_callTy b_list (by rfl) T.b_list (by decide +kernel) (sl_cons (se_slice (se_sl 1) sp_none (sp_some se_int)) sl_nil)))) sl_nil))) runB_bad))
    (sb_cons (ss_set (i := 3) sc_law_numbers_right.nd rfl (Or.inl rfl) (se_call (pe_callS G_numbers_at (hr.mono (by decide)) (by rfl) T.g_numbers_at T.k_numbers_at T.B_numbers_at (fun σ => passAt tk σ) (sl_cons (se_sl 1) (sl_cons (se_sl 2) sl_nil))) runB_bad))
    (sb_cons (ss_if (st_cmp (x_ne hr.units) (se_b (pe_callB b_len (by rfl) T.b_len (by decide +kernel) (sl_cons (se_sl 3) sl_nil))) (se_b (pe_callB b_len (by rfl) T.b_len (by decide +kernel) (sl_cons (se_sl 1) sl_nil))) (nomark _)) (sb_one (ss_ret se_bl)) sb_nil)
    (sb_cons (ss_for (ps_for (passes_of rfl) rfl (si_range1 (pi_range1 (by rfl) T.b_range (sl_cons se_int sl_nil))) (sg_name (i := 4) sc_law_numbers_right.nd rfl (Or.inl rfl)) (sb_cons (ss_set (i := 5) sc_law_numbers_right.nd rfl (Or.inr rfl) (se_call (pe_callS G_law_trim (hr.mono (by decide)) (by rfl) T.g_law_trim T.k_law_trim T.B_law_trim (fun σ => passAt tk σ) (sl_cons (se_call (pe_callS G_law_cells (hr.mono (by decide)) (by rfl) T.g_law_cells T.k_law_cells T.B_law_cells (fun σ => passAt tk σ) (sl_cons (se_sl 0) (sl_cons (se_b (pe_callB b_len (by rfl) T.b_len (by decide +kernel) (sl_cons (se_sl 1) sl_nil))) sl_nil))) runB_bad) sl_nil)) runB_bad))
    (sb_cons (ss_set (i := 6) sc_law_numbers_right.nd rfl (Or.inl rfl) (se_b (pe_callB (b_sum rfl) (by rfl) T.b_sum (by decide +kernel) (sl_cons (se_lc (gw_tup (gw_cons (gw_name (by decide)) (gw_cons (gw_name (by decide)) gw_nil))) (pe_lc (own := [("number", 7), ("at", 8)]) (g := (L2.gTup K 2 (L2.gCons (L2.gName 7) (L2.gCons (L2.gName 8) L2.gNil)))) rfl sc_law_numbers_right.nd (si_zip (pi_zipA (by rfl) T.b_zip (sl_cons (se_sl 3) (sl_cons (se_sl 1) sl_nil)))) (blkOk_by (N := n_law_numbers_right) (sc := defScope s_law_numbers_right) (by decide +kernel)) (fun _ _ _ _ _ => (pg_tup rfl (pgs_cons (pg_name (i := 7) sc_law_numbers_right.nd rfl (Or.inl rfl) (.inr rfl)) (pgs_cons (pg_name (i := 8) sc_law_numbers_right.nd rfl (Or.inl rfl) (.inr rfl)) pgs_nil)))) (fun _ _ _ _ _ => sts_nil) (fun _ _ _ _ _ => (se_op x_mulG (se_sl 7) (se_call (pe_callS G_law_value (hr.mono (by decide)) (by rfl) T.g_law_value T.k_law_value T.B_law_value (fun σ => passAt takes0 σ) (sl_cons (se_sl 5) (sl_cons (se_sl 8) sl_nil))) runB_bad))))) sl_nil))))
    (sb_one (ss_if (st_cmp (x_ne hr.units) (se_op x_mod (se_b (pe_callTy b_int (by rfl) T.b_int (by decide +kernel) (sl_cons (se_sl 6) sl_nil))) se_int) (se_call (pe_callS G_law_value (hr.mono (by decide)) (by rfl) T.g_law_value T.k_law_value T.B_law_value (fun σ => passAt tk σ) (sl_cons (se_sl 5) (sl_cons (se_sl 2) sl_nil))) runB_bad) (nomark _)) (sb_one (ss_ret se_bl)) sb_nil))))))
    (sb_cons (ss_if (st_cmp (x_in (u65 hr)) (se_sl 2) (se_sl 1) (by with_unfolding_all rfl)) (sb_one (ss_ret (se_cmp (x_eq hr.units) (se_b (pe_callTy b_list (by rfl) T.b_list (by decide +kernel) (sl_cons (se_sl 3) sl_nil))) (se_lc (gw_name (by decide)) (pe_lc (own := [("at", 8)]) (g := (L2.gName 8)) rfl sc_law_numbers_right.nd (si_any (se_sl 1)) (blkOk_by (N := n_law_numbers_right) (sc := defScope s_law_numbers_right) (by decide +kernel)) (fun _ _ _ _ _ => (pg_name (i := 8) sc_law_numbers_right.nd rfl (Or.inl rfl) (.inr rfl))) (fun _ _ _ _ _ => sts_nil) (fun _ _ _ _ _ => (se_b (pe_callTy b_int (by rfl) T.b_int (by decide +kernel) (sl_cons (se_cmp (x_eq hr.units) (se_sl 8) (se_sl 2) (nomark _)) sl_nil)))))) (nomark _)))) sb_nil)
    (sb_one (ss_ret (se_cmp (x_ne hr.units) (se_call (pe_callS G_value_at (hr.mono (by decide)) (by rfl) T.g_value_at T.k_value_at T.B_value_at (fun σ => passAt tk σ) (sl_cons (se_call (pe_callS G_none_at (hr.mono (by decide)) (by rfl) T.g_none_at T.k_none_at T.B_none_at (fun σ => passAt tk σ) (sl_cons (se_sl 1) sl_nil)) runB_bad) (sl_cons (se_sl 2) sl_nil))) runB_bad) se_int (nomark _)))))))))
theorem ok_law_through_right (T : Txt K c mg a d) (G_law_cell : FnOk P w K mg base (L2.CX P w) 3 a.law_cell d.law_cell ["churn"] (spF K c 1 d_law_cell)) (G_law_ladle : FnOk P w K mg base (L2.CX P w) 1 a.law_ladle d.law_ladle ["churn", "total"] (spF K c 2 d_law_ladle)) (G_law_poly : FnOk P w K mg base (L2.CX P w) 5 a.law_poly d.law_poly ["churn", "most"] (spF K c 2 d_law_poly)) (G_law_through : FnOk P w K mg base (L2.CX P w) 3 a.law_through d.law_through ["points"] (spF K c 1 d_law_through)) (G_law_value : FnOk P w K mg base (L2.CX P w) 1 a.law_value d.law_value ["poly", "cell"] (spF K c 2 d_law_value)) (G_none_at : FnOk P w K mg base (L2.CX P w) 5 a.none_at d.none_at ["places"] (spF K c 1 d_none_at)) (G_poly_product : FnOk P w K mg base (L2.CX P w) 7 a.poly_product d.poly_product ["one", "other"] (spF K c 2 d_poly_product)) (G_poly_sum : FnOk P w K mg base (L2.CX P w) 7 a.poly_sum d.poly_sum ["one", "other"] (spF K c 2 d_poly_sum)) (G_through : FnOk P w K mg base (L2.CX P w) 6 a.through d.through ["points"] (spF K c 1 d_through)) (G_value_at : FnOk P w K mg base (L2.CX P w) 6 a.value_at d.value_at ["poly", "cell"] (spF K c 2 d_value_at)) : FnOk P w K mg base (L2.CX P w) 8 a.law_through_right d.law_through_right ["churn", "points"] (spF K c 2 d_law_through_right) := by
  refine fn_ev2 (b := b_law_through_right) T.F_law_through_right sc_law_through_right rfl rfl rfl fun cdv A outer s H E hr => ?_
  have tk := takes_of (X := cxOf (L2.CX P w) P w K mg base n_law_through_right "_law_through_right" (defScope s_law_through_right) a.law_through_right cdv A outer s H E) rfl rfl rfl rfl
  exact (sb_cons (ss_asg (ps_asg (se_tup (sl_cons (se_call (pe_callS G_through (hr.mono (by decide)) (by rfl) T.g_through T.k_through T.B_through (fun σ => passAt tk σ) (sl_cons (se_sl 1) sl_nil)) runB_bad) (sl_cons (se_call (pe_callS G_none_at (hr.mono (by decide)) (by rfl) T.g_none_at T.k_none_at T.B_none_at (fun σ => passAt tk σ) (sl_cons (se_b (pe_callTy b_tuple (by rfl) T.b_tuple (by decide +kernel) (sl_cons (se_lc (gw_name (by decide)) (pe_lc (own := [("point", 9)]) (g := (L2.gName 9)) rfl sc_law_through_right.nd (si_any (se_sl 1)) (blkOk_by (N := n_law_through_right) (sc := defScope s_law_through_right) (by decide +kernel)) (fun _ _ _ _ _ => (pg_name (i := 9) sc_law_through_right.nd rfl (Or.inl rfl) (.inr rfl))) (fun _ _ _ _ _ => sts_nil) (fun _ _ _ _ _ => (se_ix (se_sl 9) se_int (fun _ _ => rfl))))) sl_nil))) sl_nil)) runB_bad) sl_nil))) (sg_tup (pg_tup rfl (sgs_cons (pgs_cons (sg_name (i := 2) sc_law_through_right.nd rfl (Or.inr rfl)) (sgs_cons (pgs_cons (sg_name (i := 3) sc_law_through_right.nd rfl (Or.inr rfl)) sgs_nil))))))))
    (sb_cons (ss_if (st_cmp x_gt (se_b (pe_callB b_len (by rfl) T.b_len (by decide +kernel) (sl_cons (se_sl 2) sl_nil))) (se_b (pe_callB b_len (by rfl) T.b_len (by decide +kernel) (sl_cons (se_sl 1) sl_nil))) (nomark _)) (sb_one (ss_ret se_bl)) sb_nil)
    (sb_cons (ss_if (st_cmp (x_ne hr.units) (se_lc (gw_name (by decide)) (pe_lc (own := [("point", 9)]) (g := (L2.gName 9)) rfl sc_law_through_right.nd (si_any (se_sl 1)) (blkOk_by (N := n_law_through_right) (sc := defScope s_law_through_right) (by decide +kernel)) (fun _ _ _ _ _ => (pg_name (i := 9) sc_law_through_right.nd rfl (Or.inl rfl) (.inr rfl))) (fun _ _ _ _ _ => (sts_one (st_cmp (x_ne hr.units) (se_call (pe_callS G_law_value (hr.mono (by decide)) (by rfl) T.g_law_value T.k_law_value T.B_law_value (fun σ => passAt takes0 σ) (sl_cons (se_sl 2) (sl_cons (se_ix (se_sl 9) se_int (fun _ _ => rfl)) sl_nil))) runB_bad) (se_ix (se_sl 9) se_int (fun _ _ => rfl)) (nomark _)))) (fun _ _ _ _ _ => (se_sl 9)))) (se_lst sl_nil) (nomark _)) (sb_one (ss_ret se_bl)) sb_nil)
    (sb_cons (ss_if (st_w (sw_or (st_cmp (x_ne hr.units) (se_sl 2) (se_call (pe_callS G_law_through (hr.mono (by decide)) (by rfl) T.g_law_through T.k_law_through T.B_law_through (fun σ => passAt tk σ) (sl_cons (se_sl 1) sl_nil)) runB_bad) (nomark _)) (sw_or (st_cmp (x_ne hr.units) (se_b (pe_callB b_len (by rfl) T.b_len (by decide +kernel) (sl_cons (se_sl 3) sl_nil))) (se_op x_add (se_b (pe_callB b_len (by rfl) T.b_len (by decide +kernel) (sl_cons (se_sl 1) sl_nil))) se_int) (nomark _)) (sw_or1 (st_cmp (x_ne hr.units) (se_ix (se_sl 3) (se_un x_neg se_int) (fun _ _ => rfl)) se_int (nomark _)))))) (sb_one (ss_ret se_bl)) sb_nil)
    (sb_cons (ss_set (i := 4) sc_law_through_right.nd rfl (Or.inr rfl) (se_lc (gw_name (by decide)) (pe_lc (own := [("point", 9)]) (g := (L2.gName 9)) rfl sc_law_through_right.nd (si_any (se_sl 1)) (blkOk_by (N := n_law_through_right) (sc := defScope s_law_through_right) (by decide +kernel)) (fun _ _ _ _ _ => (pg_name (i := 9) sc_law_through_right.nd rfl (Or.inl rfl) (.inr rfl))) (fun _ _ _ _ _ => sts_nil) (fun _ _ _ _ _ => (se_ix (se_sl 9) se_int (fun _ _ => rfl))))))
    (sb_cons (ss_if (st_cmp (x_ne hr.units) (se_lc (gw_name (by decide)) (pe_lc (own := [("at", 6)]) (g := (L2.gName 6)) rfl sc_law_through_right.nd (si_range1 (pi_range1 (by rfl) T.b_range (sl_cons se_int sl_nil))) (blkOk_by (N := n_law_through_right) (sc := defScope s_law_through_right) (by decide +kernel)) (fun _ _ _ _ _ => (pg_name (i := 6) sc_law_through_right.nd rfl (Or.inl rfl) (.inr rfl))) (fun _ _ _ _ _ => (sts_one (st_cmp (x_ne hr.units) (se_cmp (x_eq hr.units) (se_call (pe_callS G_law_value (hr.mono (by decide)) (by rfl) T.g_law_value T.k_law_value T.B_law_value (fun σ => passAt takes0 σ) (sl_cons (se_sl 3) (sl_cons (se_sl 6) sl_nil))) runB_bad) se_int (nomark _)) (se_cmp (x_in (u65 hr)) (se_sl 6) (se_sl 4) (by with_unfolding_all rfl)) (nomark _)))) (fun _ _ _ _ _ => (se_sl 6)))) (se_lst sl_nil) (nomark _)) (sb_one (ss_ret se_bl)) sb_nil)
    (sb_cons (ss_asg (ps_asg (se_tup (sl_cons (se_call (pe_callS G_poly_sum (hr.mono (by decide)) (by rfl) T.g_poly_sum T.k_poly_sum T.B_poly_sum (fun σ => passAt tk σ) (sl_cons (se_sl 2) (sl_cons (se_call (pe_callS G_poly_product (hr.mono (by decide)) (by rfl) T.g_poly_product T.k_poly_product T.B_poly_product (fun σ => passAt tk σ) (sl_cons (se_sl 3) (sl_cons (se_call (pe_callS G_law_poly (hr.mono (by decide)) (by rfl) T.g_law_poly T.k_law_poly T.B_law_poly (fun σ => passAt tk σ) (sl_cons (se_sl 0) (sl_cons se_int sl_nil))) runB_bad) sl_nil))) runB_bad) sl_nil))) runB_bad) (sl_cons (se_call (pe_callS G_law_ladle (hr.mono (by decide)) (by rfl) T.g_law_ladle T.k_law_ladle T.B_law_ladle (fun σ => passAt tk σ) (sl_cons (se_sl 0) (sl_cons se_int sl_nil))) runB_bad) sl_nil))) (sg_tup (pg_tup rfl (sgs_cons (pgs_cons (sg_name (i := 5) sc_law_through_right.nd rfl (Or.inr rfl)) (sgs_cons (pgs_cons (sg_name (i := 6) sc_law_through_right.nd rfl (Or.inl rfl)) sgs_nil))))))))
    (sb_cons (ss_if (st_cmp (x_ne hr.units) (se_lc (gw_name (by decide)) (pe_lc (own := [("point", 9)]) (g := (L2.gName 9)) rfl sc_law_through_right.nd (si_any (se_sl 1)) (blkOk_by (N := n_law_through_right) (sc := defScope s_law_through_right) (by decide +kernel)) (fun _ _ _ _ _ => (pg_name (i := 9) sc_law_through_right.nd rfl (Or.inl rfl) (.inr rfl))) (fun _ _ _ _ _ => (sts_one (st_cmp (x_ne hr.units) (se_call (pe_callS G_value_at (hr.mono (by decide)) (by rfl) T.g_value_at T.k_value_at T.B_value_at (fun σ => passAt takes0 σ) (sl_cons (se_sl 5) (sl_cons (se_ix (se_sl 9) se_int (fun _ _ => rfl)) sl_nil))) runB_bad) (se_ix (se_sl 9) se_int (fun _ _ => rfl)) (nomark _)))) (fun _ _ _ _ _ => (se_sl 9)))) (se_lst sl_nil) (nomark _)) (sb_one (ss_ret se_bl)) sb_nil)
    (sb_cons (ss_if (st_cmp (x_in (u65 hr)) (se_sl 6) (se_sl 4) (by with_unfolding_all rfl)) (sb_one (ss_ret se_bl)) sb_nil)
    (sb_cons (ss_set (i := 7) sc_law_through_right.nd rfl (Or.inl rfl) (se_call (pe_callS G_law_cell (hr.mono (by decide)) (by rfl) T.g_law_cell T.k_law_cell T.B_law_cell (fun σ => passAt tk σ) (sl_cons (se_sl 0) sl_nil)) runB_bad))
    (sb_cons (ss_set (i := 8) sc_law_through_right.nd rfl (Or.inl rfl) (se_call (pe_callS G_through (hr.mono (by decide)) (by rfl) T.g_through T.k_through T.B_through (fun σ => passAt tk σ) (sl_cons (se_op x_add (se_sl 1) (se_tup (sl_cons (se_tup (sl_cons (se_sl 6) (sl_cons (se_sl 7) sl_nil))) sl_nil))) sl_nil)) runB_bad))
    (sb_one (ss_ret (se_and (se_cmp (x_eq hr.units) (se_call (pe_callS G_value_at (hr.mono (by decide)) (by rfl) T.g_value_at T.k_value_at T.B_value_at (fun σ => passAt tk σ) (sl_cons (se_sl 8) (sl_cons (se_sl 6) sl_nil))) runB_bad) (se_sl 7) (nomark _)) (se_one (se_cmp (x_eq hr.units) (se_cmp (x_eq hr.units) (se_sl 8) (se_sl 2) (nomark _)) (se_cmp (x_eq hr.units) (se_call (pe_callS G_value_at (hr.mono (by decide)) (by rfl) T.g_value_at T.k_value_at T.B_value_at (fun σ => passAt tk σ) (sl_cons (se_sl 2) (sl_cons (se_sl 6) sl_nil))) runB_bad) (se_sl 7) (nomark _)) (nomark _)))))))))))))))))
theorem ok_law_right (T : Txt K c mg a d) (G_law_cell : FnOk P w K mg base (L2.CX P w) 3 a.law_cell d.law_cell ["churn"] (spF K c 1 d_law_cell)) (G_law_ladle : FnOk P w K mg base (L2.CX P w) 1 a.law_ladle d.law_ladle ["churn", "total"] (spF K c 2 d_law_ladle)) (G_law_numbers_right : FnOk P w K mg base (L2.CX P w) 7 a.law_numbers_right d.law_numbers_right ["churn", "there"] (spF K c 2 d_law_numbers_right)) (G_law_spoon : FnOk P w K mg base (L2.CX P w) 2 a.law_spoon d.law_spoon ["churn", "items"] (spF K c 2 d_law_spoon)) (G_law_through_right : FnOk P w K mg base (L2.CX P w) 8 a.law_through_right d.law_through_right ["churn", "points"] (spF K c 2 d_law_through_right)) (G_law_unlike : FnOk P w K mg base (L2.CX P w) 2 a.law_unlike d.law_unlike ["churn", "many", "most"] (spF K c 3 d_law_unlike)) : FnOk P w K mg base (L2.CX P w) 9 a.law_right d.law_right ["churn"] (spF K c 1 d_law_right) := by
  refine fn_ev2 (b := b_law_right) T.F_law_right sc_law_right rfl rfl rfl fun cdv A outer s H E hr => ?_
  have tk := takes_of (X := cxOf (L2.CX P w) P w K mg base n_law_right "_law_right" (defScope s_law_right) a.law_right cdv A outer s H E) rfl rfl rfl rfl
  exact (sb_cons (ss_set (i := 1) sc_law_right.nd rfl (Or.inl rfl) (se_call (pe_callS G_law_unlike (hr.mono (by decide)) (by rfl) T.g_law_unlike T.k_law_unlike T.B_law_unlike (fun σ => passAt tk σ) (sl_cons (se_sl 0) (sl_cons (se_call (pe_callS G_law_ladle (hr.mono (by decide)) (by rfl) T.g_law_ladle T.k_law_ladle T.B_law_ladle (fun σ => passAt tk σ) (sl_cons (se_sl 0) (sl_cons se_int sl_nil))) runB_bad) (sl_cons (se_call (pe_callS G_law_spoon (hr.mono (by decide)) (by rfl) T.g_law_spoon T.k_law_spoon T.B_law_spoon (fun σ => passAt tk σ) (sl_cons (se_sl 0) (sl_cons (se_lst (sl_cons se_int (sl_cons se_int sl_nil))) sl_nil))) runB_bad) sl_nil)))) runB_bad))
    (sb_cons (ss_set (i := 2) sc_law_right.nd rfl (Or.inl rfl) (se_b (pe_callTy b_tuple (by rfl) T.b_tuple (by decide +kernel) (sl_cons (se_lc (gw_name (by decide)) (pe_lc (own := [("at", 3)]) (g := (L2.gName 3)) rfl sc_law_right.nd (si_any (se_sl 1)) (blkOk_by (N := n_law_right) (sc := defScope s_law_right) (by decide +kernel)) (fun _ _ _ _ _ => (pg_name (i := 3) sc_law_right.nd rfl (Or.inl rfl) (.inr rfl))) (fun _ _ _ _ _ => sts_nil) (fun _ _ _ _ _ => (se_tup (sl_cons (se_sl 3) (sl_cons (se_call (pe_callS G_law_cell (hr.mono (by decide)) (by rfl) T.g_law_cell T.k_law_cell T.B_law_cell (fun σ => passAt takes0 σ) (sl_cons (se_sl 0) sl_nil)) runB_bad) sl_nil)))))) sl_nil))))
    (sb_one (ss_ret (se_and (se_call (pe_callS G_law_through_right (hr.mono (by decide)) (by rfl) T.g_law_through_right T.k_law_through_right T.B_law_through_right (fun σ => passAt tk σ) (sl_cons (se_sl 0) (sl_cons (se_sl 2) sl_nil))) runB_bad) (se_one (se_call (pe_callS G_law_numbers_right (hr.mono (by decide)) (by rfl) T.g_law_numbers_right T.k_law_numbers_right T.B_law_numbers_right (fun σ => passAt tk σ) (sl_cons (se_sl 0) (sl_cons (se_sl 1) sl_nil))) runB_bad)))))))
theorem ok_law (T : Txt K c mg a d) (G_law_churn : FnOk P w K mg base (L2.CX P w) 1 a.law_churn d.law_churn ["script", "spot"] (spF K c 2 d_law_churn)) (G_law_right : FnOk P w K mg base (L2.CX P w) 9 a.law_right d.law_right ["churn"] (spF K c 1 d_law_right)) (G_none_at : FnOk P w K mg base (L2.CX P w) 5 a.none_at d.none_at ["places"] (spF K c 1 d_none_at)) (G_numbers_at : FnOk P w K mg base (L2.CX P w) 5 a.numbers_at d.numbers_at ["places", "cell"] (spF K c 2 d_numbers_at)) (G_through : FnOk P w K mg base (L2.CX P w) 6 a.through d.through ["points"] (spF K c 1 d_through)) : FnOk P w K mg base (L2.CX P w) 10 a.law d.law ["script"] (spF K c 1 d_law) := by
  refine fn_ev2 (b := b_law) T.F_law sc_law rfl rfl rfl fun cdv A outer s H E hr => ?_
  have tk := takes_of (X := cxOf (L2.CX P w) P w K mg base n_law "law" (defScope s_law) a.law cdv A outer s H E) rfl rfl rfl rfl
  exact (sb_cons (ss_for (ps_for (passes_of rfl) rfl (si_range1 (pi_range1 (by rfl) T.b_range (sl_cons (se_b (pe_callB (b_max2 rfl) (by rfl) T.b_max (by decide +kernel) (sl_cons se_int (sl_cons (se_b (pe_callB (b_min2 rfl) (by rfl) T.b_min (by decide +kernel) (sl_cons se_int (sl_cons (se_b (pe_callB b_len (by rfl) T.b_len (by decide +kernel) (sl_cons (se_sl 0) sl_nil))) sl_nil)))) sl_nil)))) sl_nil))) (sg_name (i := 1) sc_law.nd rfl (Or.inl rfl)) (sb_one (ss_if (st_not (st_tru (se_call (pe_callS G_law_right (hr.mono (by decide)) (by rfl) T.g_law_right T.k_law_right T.B_law_right (fun σ => passAt tk σ) (sl_cons (se_call (pe_callS G_law_churn (hr.mono (by decide)) (by rfl) T.g_law_churn T.k_law_churn T.B_law_churn (fun σ => passAt tk σ) (sl_cons (se_sl 0) (sl_cons (se_sl 1) sl_nil))) runB_bad) sl_nil)) runB_bad) (by intro _; rfl))) (sb_one (ss_ret se_bl)) sb_nil))))
    (sb_cons (ss_if (st_cmp (x_ne hr.units) (se_lst (sl_cons (se_call (pe_callS G_through (hr.mono (by decide)) (by rfl) T.g_through T.k_through T.B_through (fun σ => passAt tk σ) (sl_cons (se_tup sl_nil) sl_nil)) runB_bad) (sl_cons (se_call (pe_callS G_none_at (hr.mono (by decide)) (by rfl) T.g_none_at T.k_none_at T.B_none_at (fun σ => passAt tk σ) (sl_cons (se_tup sl_nil) sl_nil)) runB_bad) (sl_cons (se_call (pe_callS G_numbers_at (hr.mono (by decide)) (by rfl) T.g_numbers_at T.k_numbers_at T.B_numbers_at (fun σ => passAt tk σ) (sl_cons (se_tup sl_nil) (sl_cons se_int sl_nil))) runB_bad) (sl_cons (se_call (pe_callS G_through (hr.mono (by decide)) (by rfl) T.g_through T.k_through T.B_through (fun σ => passAt tk σ) (sl_cons (se_tup (sl_cons (se_tup (sl_cons se_int (sl_cons se_int sl_nil))) (sl_cons (se_tup (sl_cons se_int (sl_cons se_int sl_nil))) sl_nil))) sl_nil)) runB_bad) sl_nil))))) (se_lst (sl_cons (se_tup sl_nil) (sl_cons (se_tup (sl_cons se_int sl_nil)) (sl_cons (se_tup sl_nil) (sl_cons (se_tup sl_nil) sl_nil))))) (nomark _)) (sb_one (ss_ret se_bl)) sb_nil)
    (sb_one (ss_ret (se_cmp (x_eq hr.units) (se_lst (sl_cons (se_call (pe_callS G_through (hr.mono (by decide)) (by rfl) T.g_through T.k_through T.B_through (fun σ => passAt tk σ) (sl_cons (se_tup (sl_cons (se_tup (sl_cons se_int (sl_cons se_int sl_nil))) (sl_cons (se_tup (sl_cons se_int (sl_cons se_int sl_nil))) sl_nil))) sl_nil)) runB_bad) (sl_cons (se_call (pe_callS G_none_at (hr.mono (by decide)) (by rfl) T.g_none_at T.k_none_at T.B_none_at (fun σ => passAt tk σ) (sl_cons (se_tup (sl_cons se_int (sl_cons se_int sl_nil))) sl_nil)) runB_bad) (sl_cons (se_call (pe_callS G_numbers_at (hr.mono (by decide)) (by rfl) T.g_numbers_at T.k_numbers_at T.B_numbers_at (fun σ => passAt tk σ) (sl_cons (se_tup (sl_cons se_int (sl_cons se_int sl_nil))) (sl_cons se_int sl_nil))) runB_bad) sl_nil)))) (se_lst (sl_cons (se_tup (sl_cons se_int (sl_cons se_int sl_nil))) (sl_cons (se_tup (sl_cons se_int (sl_cons se_int (sl_cons se_int sl_nil)))) (sl_cons (se_tup (sl_cons se_int (sl_cons se_int sl_nil))) sl_nil)))) (nomark _))))))
end
end My

set_option Elab.async false
set_option linter.all false
set_option maxRecDepth 100000
set_option maxHeartbeats 4000000
namespace My
open PySem L2 Ev RZ RT
section
def sp_law (K : PySem.W.Frag) : Sp := fun vs H Q _ => ∃ (ad : Addr) (ns : List Int), vs = [.ref ad] ∧ ((∃ o, H ad = some (.frz o (.lst (ns.map V.int)))) ∨ SqL K (fun _ => none) ad (ns.map V.int)) ∧ ns.length ≤ 63 ∧ ∀ H', Q (.bl true) H'
theorem all_mk {l : PySem.W.OpenLaw} {w : World} {K : PySem.W.Frag} {h : Heap} {mg : Str → Option Value} {fa : Addr} (X : K.In h) (G : h.Ns mainGlobals mg) (hfa : mg "law" = some (.ref fa))
    {f0 : Addr} {f1 : Addr} {f2 : Addr} {f3 : Addr} {f4 : Addr} {f5 : Addr} {f6 : Addr} {f7 : Addr} {f8 : Addr} {f9 : Addr} {f10 : Addr} {f11 : Addr} {f12 : Addr} {f13 : Addr} {f14 : Addr} {f15 : Addr} {f16 : Addr} {f17 : Addr} {f18 : Addr} {f19 : Addr} {f20 : Addr} {f21 : Addr} {f22 : Addr} {f23 : Addr} {f24 : Addr} {f25 : Addr} {f26 : Addr} {f27 : Addr} {f28 : Addr} {f29 : Addr} {f30 : Addr} {f31 : Addr} {f32 : Addr} {f33 : Addr} {f34 : Addr} {f35 : Addr} {f36 : Addr} {f37 : Addr} {f38 : Addr} {f39 : Addr} {f40 : Addr} {f41 : Addr}
    {od0 an0 : Option Addr} {sl0 : Array (Option Value)} {oc0 kV0 dc0 pm0 cd0 ct0 : Value}
    (a0 : PySem.W.nsIn K mainGlobals "is_number" = some (some (.ref f0))) (l0 : K.lookup f0 = some ⟨oc0, od0, .func (PySem.W.fnOf "is_number" "is_number" (defArgs s_is_number) (defBody s_is_number) (defScope s_is_number) .none kV0 dc0 pm0 an0 cd0 ct0), sl0⟩) (c0 : PySem.W.codeIn K cd0 "is_number" = true) (k0 : PySem.W.keepIn K (.ref f0) = true)
    {od1 an1 : Option Addr} {sl1 : Array (Option Value)} {oc1 kV1 dc1 pm1 cd1 ct1 : Value}
    (a1 : PySem.W.nsIn K mainGlobals "check_number" = some (some (.ref f1))) (l1 : K.lookup f1 = some ⟨oc1, od1, .func (PySem.W.fnOf "check_number" "check_number" (defArgs s_check_number) (defBody s_check_number) (defScope s_check_number) .none kV1 dc1 pm1 an1 cd1 ct1), sl1⟩) (c1 : PySem.W.codeIn K cd1 "check_number" = true) (k1 : PySem.W.keepIn K (.ref f1) = true)
    {od2 an2 : Option Addr} {sl2 : Array (Option Value)} {oc2 kV2 dc2 pm2 cd2 ct2 : Value}
    (a2 : PySem.W.nsIn K mainGlobals "is_cell" = some (some (.ref f2))) (l2 : K.lookup f2 = some ⟨oc2, od2, .func (PySem.W.fnOf "is_cell" "is_cell" (defArgs s_is_cell) (defBody s_is_cell) (defScope s_is_cell) .none kV2 dc2 pm2 an2 cd2 ct2), sl2⟩) (c2 : PySem.W.codeIn K cd2 "is_cell" = true) (k2 : PySem.W.keepIn K (.ref f2) = true)
    {od3 an3 : Option Addr} {sl3 : Array (Option Value)} {oc3 kV3 dc3 pm3 cd3 ct3 : Value}
    (a3 : PySem.W.nsIn K mainGlobals "is_cells" = some (some (.ref f3))) (l3 : K.lookup f3 = some ⟨oc3, od3, .func (PySem.W.fnOf "is_cells" "is_cells" (defArgs s_is_cells) (defBody s_is_cells) (defScope s_is_cells) .none kV3 dc3 pm3 an3 cd3 ct3), sl3⟩) (c3 : PySem.W.codeIn K cd3 "is_cells" = true) (k3 : PySem.W.keepIn K (.ref f3) = true)
    {od4 an4 : Option Addr} {sl4 : Array (Option Value)} {oc4 kV4 dc4 pm4 cd4 ct4 : Value}
    (a4 : PySem.W.nsIn K mainGlobals "is_poly" = some (some (.ref f4))) (l4 : K.lookup f4 = some ⟨oc4, od4, .func (PySem.W.fnOf "is_poly" "is_poly" (defArgs s_is_poly) (defBody s_is_poly) (defScope s_is_poly) .none kV4 dc4 pm4 an4 cd4 ct4), sl4⟩) (c4 : PySem.W.codeIn K cd4 "is_poly" = true) (k4 : PySem.W.keepIn K (.ref f4) = true)
    {od5 an5 : Option Addr} {sl5 : Array (Option Value)} {oc5 kV5 dc5 pm5 cd5 ct5 : Value}
    (a5 : PySem.W.nsIn K mainGlobals "check_poly" = some (some (.ref f5))) (l5 : K.lookup f5 = some ⟨oc5, od5, .func (PySem.W.fnOf "check_poly" "check_poly" (defArgs s_check_poly) (defBody s_check_poly) (defScope s_check_poly) .none kV5 dc5 pm5 an5 cd5 ct5), sl5⟩) (c5 : PySem.W.codeIn K cd5 "check_poly" = true) (k5 : PySem.W.keepIn K (.ref f5) = true)
    {od6 an6 : Option Addr} {sl6 : Array (Option Value)} {oc6 kV6 dc6 pm6 cd6 ct6 : Value}
    (a6 : PySem.W.nsIn K mainGlobals "check_places" = some (some (.ref f6))) (l6 : K.lookup f6 = some ⟨oc6, od6, .func (PySem.W.fnOf "check_places" "check_places" (defArgs s_check_places) (defBody s_check_places) (defScope s_check_places) .none kV6 dc6 pm6 an6 cd6 ct6), sl6⟩) (c6 : PySem.W.codeIn K cd6 "check_places" = true) (k6 : PySem.W.keepIn K (.ref f6) = true)
    {od7 an7 : Option Addr} {sl7 : Array (Option Value)} {oc7 kV7 dc7 pm7 cd7 ct7 : Value}
    (a7 : PySem.W.nsIn K mainGlobals "check_points" = some (some (.ref f7))) (l7 : K.lookup f7 = some ⟨oc7, od7, .func (PySem.W.fnOf "check_points" "check_points" (defArgs s_check_points) (defBody s_check_points) (defScope s_check_points) .none kV7 dc7 pm7 an7 cd7 ct7), sl7⟩) (c7 : PySem.W.codeIn K cd7 "check_points" = true) (k7 : PySem.W.keepIn K (.ref f7) = true)
    {od8 an8 : Option Addr} {sl8 : Array (Option Value)} {oc8 kV8 dc8 pm8 cd8 ct8 : Value}
    (a8 : PySem.W.nsIn K mainGlobals "inverse" = some (some (.ref f8))) (l8 : K.lookup f8 = some ⟨oc8, od8, .func (PySem.W.fnOf "inverse" "inverse" (defArgs s_inverse) (defBody s_inverse) (defScope s_inverse) .none kV8 dc8 pm8 an8 cd8 ct8), sl8⟩) (c8 : PySem.W.codeIn K cd8 "inverse" = true) (k8 : PySem.W.keepIn K (.ref f8) = true)
    {od9 an9 : Option Addr} {sl9 : Array (Option Value)} {oc9 kV9 dc9 pm9 cd9 ct9 : Value}
    (a9 : PySem.W.nsIn K mainGlobals "trimmed" = some (some (.ref f9))) (l9 : K.lookup f9 = some ⟨oc9, od9, .func (PySem.W.fnOf "trimmed" "trimmed" (defArgs s_trimmed) (defBody s_trimmed) (defScope s_trimmed) .none kV9 dc9 pm9 an9 cd9 ct9), sl9⟩) (c9 : PySem.W.codeIn K cd9 "trimmed" = true) (k9 : PySem.W.keepIn K (.ref f9) = true)
    {od10 an10 : Option Addr} {sl10 : Array (Option Value)} {oc10 kV10 dc10 pm10 cd10 ct10 : Value}
    (a10 : PySem.W.nsIn K mainGlobals "evaluated" = some (some (.ref f10))) (l10 : K.lookup f10 = some ⟨oc10, od10, .func (PySem.W.fnOf "evaluated" "evaluated" (defArgs s_evaluated) (defBody s_evaluated) (defScope s_evaluated) .none kV10 dc10 pm10 an10 cd10 ct10), sl10⟩) (c10 : PySem.W.codeIn K cd10 "evaluated" = true) (k10 : PySem.W.keepIn K (.ref f10) = true)
    {od11 an11 : Option Addr} {sl11 : Array (Option Value)} {oc11 kV11 dc11 pm11 cd11 ct11 : Value}
    (a11 : PySem.W.nsIn K mainGlobals "value_at" = some (some (.ref f11))) (l11 : K.lookup f11 = some ⟨oc11, od11, .func (PySem.W.fnOf "value_at" "value_at" (defArgs s_value_at) (defBody s_value_at) (defScope s_value_at) .none kV11 dc11 pm11 an11 cd11 ct11), sl11⟩) (c11 : PySem.W.codeIn K cd11 "value_at" = true) (k11 : PySem.W.keepIn K (.ref f11) = true)
    {od12 an12 : Option Addr} {sl12 : Array (Option Value)} {oc12 kV12 dc12 pm12 cd12 ct12 : Value}
    (a12 : PySem.W.nsIn K mainGlobals "check_both" = some (some (.ref f12))) (l12 : K.lookup f12 = some ⟨oc12, od12, .func (PySem.W.fnOf "check_both" "check_both" (defArgs s_check_both) (defBody s_check_both) (defScope s_check_both) .none kV12 dc12 pm12 an12 cd12 ct12), sl12⟩) (c12 : PySem.W.codeIn K cd12 "check_both" = true) (k12 : PySem.W.keepIn K (.ref f12) = true)
    {od13 an13 : Option Addr} {sl13 : Array (Option Value)} {oc13 kV13 dc13 pm13 cd13 ct13 : Value}
    (a13 : PySem.W.nsIn K mainGlobals "poly_sum" = some (some (.ref f13))) (l13 : K.lookup f13 = some ⟨oc13, od13, .func (PySem.W.fnOf "poly_sum" "poly_sum" (defArgs s_poly_sum) (defBody s_poly_sum) (defScope s_poly_sum) .none kV13 dc13 pm13 an13 cd13 ct13), sl13⟩) (c13 : PySem.W.codeIn K cd13 "poly_sum" = true) (k13 : PySem.W.keepIn K (.ref f13) = true)
    {od14 an14 : Option Addr} {sl14 : Array (Option Value)} {oc14 kV14 dc14 pm14 cd14 ct14 : Value}
    (a14 : PySem.W.nsIn K mainGlobals "combined" = some (some (.ref f14))) (l14 : K.lookup f14 = some ⟨oc14, od14, .func (PySem.W.fnOf "combined" "combined" (defArgs s_combined) (defBody s_combined) (defScope s_combined) .none kV14 dc14 pm14 an14 cd14 ct14), sl14⟩) (c14 : PySem.W.codeIn K cd14 "combined" = true) (k14 : PySem.W.keepIn K (.ref f14) = true)
    {od15 an15 : Option Addr} {sl15 : Array (Option Value)} {oc15 kV15 dc15 pm15 cd15 ct15 : Value}
    (a15 : PySem.W.nsIn K mainGlobals "poly_product" = some (some (.ref f15))) (l15 : K.lookup f15 = some ⟨oc15, od15, .func (PySem.W.fnOf "poly_product" "poly_product" (defArgs s_poly_product) (defBody s_poly_product) (defScope s_poly_product) .none kV15 dc15 pm15 an15 cd15 ct15), sl15⟩) (c15 : PySem.W.codeIn K cd15 "poly_product" = true) (k15 : PySem.W.keepIn K (.ref f15) = true)
    {od16 an16 : Option Addr} {sl16 : Array (Option Value)} {oc16 kV16 dc16 pm16 cd16 ct16 : Value}
    (a16 : PySem.W.nsIn K mainGlobals "multiplied" = some (some (.ref f16))) (l16 : K.lookup f16 = some ⟨oc16, od16, .func (PySem.W.fnOf "multiplied" "multiplied" (defArgs s_multiplied) (defBody s_multiplied) (defScope s_multiplied) .none kV16 dc16 pm16 an16 cd16 ct16), sl16⟩) (c16 : PySem.W.codeIn K cd16 "multiplied" = true) (k16 : PySem.W.keepIn K (.ref f16) = true)
    {od17 an17 : Option Addr} {sl17 : Array (Option Value)} {oc17 kV17 dc17 pm17 cd17 ct17 : Value}
    (a17 : PySem.W.nsIn K mainGlobals "none_at" = some (some (.ref f17))) (l17 : K.lookup f17 = some ⟨oc17, od17, .func (PySem.W.fnOf "none_at" "none_at" (defArgs s_none_at) (defBody s_none_at) (defScope s_none_at) .none kV17 dc17 pm17 an17 cd17 ct17), sl17⟩) (c17 : PySem.W.codeIn K cd17 "none_at" = true) (k17 : PySem.W.keepIn K (.ref f17) = true)
    {od18 an18 : Option Addr} {sl18 : Array (Option Value)} {oc18 kV18 dc18 pm18 cd18 ct18 : Value}
    (a18 : PySem.W.nsIn K mainGlobals "with_roots" = some (some (.ref f18))) (l18 : K.lookup f18 = some ⟨oc18, od18, .func (PySem.W.fnOf "with_roots" "with_roots" (defArgs s_with_roots) (defBody s_with_roots) (defScope s_with_roots) .none kV18 dc18 pm18 an18 cd18 ct18), sl18⟩) (c18 : PySem.W.codeIn K cd18 "with_roots" = true) (k18 : PySem.W.keepIn K (.ref f18) = true)
    {od19 an19 : Option Addr} {sl19 : Array (Option Value)} {oc19 kV19 dc19 pm19 cd19 ct19 : Value}
    (a19 : PySem.W.nsIn K mainGlobals "products_without" = some (some (.ref f19))) (l19 : K.lookup f19 = some ⟨oc19, od19, .func (PySem.W.fnOf "products_without" "products_without" (defArgs s_products_without) (defBody s_products_without) (defScope s_products_without) .none kV19 dc19 pm19 an19 cd19 ct19), sl19⟩) (c19 : PySem.W.codeIn K cd19 "products_without" = true) (k19 : PySem.W.keepIn K (.ref f19) = true)
    {od20 an20 : Option Addr} {sl20 : Array (Option Value)} {oc20 kV20 dc20 pm20 cd20 ct20 : Value}
    (a20 : PySem.W.nsIn K mainGlobals "place_weights" = some (some (.ref f20))) (l20 : K.lookup f20 = some ⟨oc20, od20, .func (PySem.W.fnOf "place_weights" "place_weights" (defArgs s_place_weights) (defBody s_place_weights) (defScope s_place_weights) .none kV20 dc20 pm20 an20 cd20 ct20), sl20⟩) (c20 : PySem.W.codeIn K cd20 "place_weights" = true) (k20 : PySem.W.keepIn K (.ref f20) = true)
    {od21 an21 : Option Addr} {sl21 : Array (Option Value)} {oc21 kV21 dc21 pm21 cd21 ct21 : Value}
    (a21 : PySem.W.nsIn K mainGlobals "numbers_by" = some (some (.ref f21))) (l21 : K.lookup f21 = some ⟨oc21, od21, .func (PySem.W.fnOf "numbers_by" "numbers_by" (defArgs s_numbers_by) (defBody s_numbers_by) (defScope s_numbers_by) .none kV21 dc21 pm21 an21 cd21 ct21), sl21⟩) (c21 : PySem.W.codeIn K cd21 "numbers_by" = true) (k21 : PySem.W.keepIn K (.ref f21) = true)
    {od22 an22 : Option Addr} {sl22 : Array (Option Value)} {oc22 kV22 dc22 pm22 cd22 ct22 : Value}
    (a22 : PySem.W.nsIn K mainGlobals "numbers_at" = some (some (.ref f22))) (l22 : K.lookup f22 = some ⟨oc22, od22, .func (PySem.W.fnOf "numbers_at" "numbers_at" (defArgs s_numbers_at) (defBody s_numbers_at) (defScope s_numbers_at) .none kV22 dc22 pm22 an22 cd22 ct22), sl22⟩) (c22 : PySem.W.codeIn K cd22 "numbers_at" = true) (k22 : PySem.W.keepIn K (.ref f22) = true)
    {od23 an23 : Option Addr} {sl23 : Array (Option Value)} {oc23 kV23 dc23 pm23 cd23 ct23 : Value}
    (a23 : PySem.W.nsIn K mainGlobals "through" = some (some (.ref f23))) (l23 : K.lookup f23 = some ⟨oc23, od23, .func (PySem.W.fnOf "through" "through" (defArgs s_through) (defBody s_through) (defScope s_through) .none kV23 dc23 pm23 an23 cd23 ct23), sl23⟩) (c23 : PySem.W.codeIn K cd23 "through" = true) (k23 : PySem.W.keepIn K (.ref f23) = true)
    {od24 an24 : Option Addr} {sl24 : Array (Option Value)} {oc24 kV24 dc24 pm24 cd24 ct24 : Value}
    (a24 : PySem.W.nsIn K mainGlobals "interpolated" = some (some (.ref f24))) (l24 : K.lookup f24 = some ⟨oc24, od24, .func (PySem.W.fnOf "interpolated" "interpolated" (defArgs s_interpolated) (defBody s_interpolated) (defScope s_interpolated) .none kV24 dc24 pm24 an24 cd24 ct24), sl24⟩) (c24 : PySem.W.codeIn K cd24 "interpolated" = true) (k24 : PySem.W.keepIn K (.ref f24) = true)
    {od25 an25 : Option Addr} {sl25 : Array (Option Value)} {oc25 kV25 dc25 pm25 cd25 ct25 : Value}
    (a25 : PySem.W.nsIn K mainGlobals "_law_churn" = some (some (.ref f25))) (l25 : K.lookup f25 = some ⟨oc25, od25, .func (PySem.W.fnOf "_law_churn" "_law_churn" (defArgs s_law_churn) (defBody s_law_churn) (defScope s_law_churn) .none kV25 dc25 pm25 an25 cd25 ct25), sl25⟩) (c25 : PySem.W.codeIn K cd25 "_law_churn" = true) (k25 : PySem.W.keepIn K (.ref f25) = true)
    {od26 an26 : Option Addr} {sl26 : Array (Option Value)} {oc26 kV26 dc26 pm26 cd26 ct26 : Value}
    (a26 : PySem.W.nsIn K mainGlobals "_law_ladle" = some (some (.ref f26))) (l26 : K.lookup f26 = some ⟨oc26, od26, .func (PySem.W.fnOf "_law_ladle" "_law_ladle" (defArgs s_law_ladle) (defBody s_law_ladle) (defScope s_law_ladle) .none kV26 dc26 pm26 an26 cd26 ct26), sl26⟩) (c26 : PySem.W.codeIn K cd26 "_law_ladle" = true) (k26 : PySem.W.keepIn K (.ref f26) = true)
    {od27 an27 : Option Addr} {sl27 : Array (Option Value)} {oc27 kV27 dc27 pm27 cd27 ct27 : Value}
    (a27 : PySem.W.nsIn K mainGlobals "_law_spoon" = some (some (.ref f27))) (l27 : K.lookup f27 = some ⟨oc27, od27, .func (PySem.W.fnOf "_law_spoon" "_law_spoon" (defArgs s_law_spoon) (defBody s_law_spoon) (defScope s_law_spoon) .none kV27 dc27 pm27 an27 cd27 ct27), sl27⟩) (c27 : PySem.W.codeIn K cd27 "_law_spoon" = true) (k27 : PySem.W.keepIn K (.ref f27) = true)
    {od28 an28 : Option Addr} {sl28 : Array (Option Value)} {oc28 kV28 dc28 pm28 cd28 ct28 : Value}
    (a28 : PySem.W.nsIn K mainGlobals "_law_cell" = some (some (.ref f28))) (l28 : K.lookup f28 = some ⟨oc28, od28, .func (PySem.W.fnOf "_law_cell" "_law_cell" (defArgs s_law_cell) (defBody s_law_cell) (defScope s_law_cell) .none kV28 dc28 pm28 an28 cd28 ct28), sl28⟩) (c28 : PySem.W.codeIn K cd28 "_law_cell" = true) (k28 : PySem.W.keepIn K (.ref f28) = true)
    {od29 an29 : Option Addr} {sl29 : Array (Option Value)} {oc29 kV29 dc29 pm29 cd29 ct29 : Value}
    (a29 : PySem.W.nsIn K mainGlobals "_law_cells" = some (some (.ref f29))) (l29 : K.lookup f29 = some ⟨oc29, od29, .func (PySem.W.fnOf "_law_cells" "_law_cells" (defArgs s_law_cells) (defBody s_law_cells) (defScope s_law_cells) .none kV29 dc29 pm29 an29 cd29 ct29), sl29⟩) (c29 : PySem.W.codeIn K cd29 "_law_cells" = true) (k29 : PySem.W.keepIn K (.ref f29) = true)
    {od30 an30 : Option Addr} {sl30 : Array (Option Value)} {oc30 kV30 dc30 pm30 cd30 ct30 : Value}
    (a30 : PySem.W.nsIn K mainGlobals "_law_trim" = some (some (.ref f30))) (l30 : K.lookup f30 = some ⟨oc30, od30, .func (PySem.W.fnOf "_law_trim" "_law_trim" (defArgs s_law_trim) (defBody s_law_trim) (defScope s_law_trim) .none kV30 dc30 pm30 an30 cd30 ct30), sl30⟩) (c30 : PySem.W.codeIn K cd30 "_law_trim" = true) (k30 : PySem.W.keepIn K (.ref f30) = true)
    {od31 an31 : Option Addr} {sl31 : Array (Option Value)} {oc31 kV31 dc31 pm31 cd31 ct31 : Value}
    (a31 : PySem.W.nsIn K mainGlobals "_law_poly" = some (some (.ref f31))) (l31 : K.lookup f31 = some ⟨oc31, od31, .func (PySem.W.fnOf "_law_poly" "_law_poly" (defArgs s_law_poly) (defBody s_law_poly) (defScope s_law_poly) .none kV31 dc31 pm31 an31 cd31 ct31), sl31⟩) (c31 : PySem.W.codeIn K cd31 "_law_poly" = true) (k31 : PySem.W.keepIn K (.ref f31) = true)
    {od32 an32 : Option Addr} {sl32 : Array (Option Value)} {oc32 kV32 dc32 pm32 cd32 ct32 : Value}
    (a32 : PySem.W.nsIn K mainGlobals "_law_value" = some (some (.ref f32))) (l32 : K.lookup f32 = some ⟨oc32, od32, .func (PySem.W.fnOf "_law_value" "_law_value" (defArgs s_law_value) (defBody s_law_value) (defScope s_law_value) .none kV32 dc32 pm32 an32 cd32 ct32), sl32⟩) (c32 : PySem.W.codeIn K cd32 "_law_value" = true) (k32 : PySem.W.keepIn K (.ref f32) = true)
    {od33 an33 : Option Addr} {sl33 : Array (Option Value)} {oc33 kV33 dc33 pm33 cd33 ct33 : Value}
    (a33 : PySem.W.nsIn K mainGlobals "_law_unlike" = some (some (.ref f33))) (l33 : K.lookup f33 = some ⟨oc33, od33, .func (PySem.W.fnOf "_law_unlike" "_law_unlike" (defArgs s_law_unlike) (defBody s_law_unlike) (defScope s_law_unlike) .none kV33 dc33 pm33 an33 cd33 ct33), sl33⟩) (c33 : PySem.W.codeIn K cd33 "_law_unlike" = true) (k33 : PySem.W.keepIn K (.ref f33) = true)
    {od34 an34 : Option Addr} {sl34 : Array (Option Value)} {oc34 kV34 dc34 pm34 cd34 ct34 : Value}
    (a34 : PySem.W.nsIn K mainGlobals "_law_back" = some (some (.ref f34))) (l34 : K.lookup f34 = some ⟨oc34, od34, .func (PySem.W.fnOf "_law_back" "_law_back" (defArgs s_law_back) (defBody s_law_back) (defScope s_law_back) .none kV34 dc34 pm34 an34 cd34 ct34), sl34⟩) (c34 : PySem.W.codeIn K cd34 "_law_back" = true) (k34 : PySem.W.keepIn K (.ref f34) = true)
    {od35 an35 : Option Addr} {sl35 : Array (Option Value)} {oc35 kV35 dc35 pm35 cd35 ct35 : Value}
    (a35 : PySem.W.nsIn K mainGlobals "_law_times" = some (some (.ref f35))) (l35 : K.lookup f35 = some ⟨oc35, od35, .func (PySem.W.fnOf "_law_times" "_law_times" (defArgs s_law_times) (defBody s_law_times) (defScope s_law_times) .none kV35 dc35 pm35 an35 cd35 ct35), sl35⟩) (c35 : PySem.W.codeIn K cd35 "_law_times" = true) (k35 : PySem.W.keepIn K (.ref f35) = true)
    {od36 an36 : Option Addr} {sl36 : Array (Option Value)} {oc36 kV36 dc36 pm36 cd36 ct36 : Value}
    (a36 : PySem.W.nsIn K mainGlobals "_law_plus" = some (some (.ref f36))) (l36 : K.lookup f36 = some ⟨oc36, od36, .func (PySem.W.fnOf "_law_plus" "_law_plus" (defArgs s_law_plus) (defBody s_law_plus) (defScope s_law_plus) .none kV36 dc36 pm36 an36 cd36 ct36), sl36⟩) (c36 : PySem.W.codeIn K cd36 "_law_plus" = true) (k36 : PySem.W.keepIn K (.ref f36) = true)
    {od37 an37 : Option Addr} {sl37 : Array (Option Value)} {oc37 kV37 dc37 pm37 cd37 ct37 : Value}
    (a37 : PySem.W.nsIn K mainGlobals "_law_through" = some (some (.ref f37))) (l37 : K.lookup f37 = some ⟨oc37, od37, .func (PySem.W.fnOf "_law_through" "_law_through" (defArgs s_law_through) (defBody s_law_through) (defScope s_law_through) .none kV37 dc37 pm37 an37 cd37 ct37), sl37⟩) (c37 : PySem.W.codeIn K cd37 "_law_through" = true) (k37 : PySem.W.keepIn K (.ref f37) = true)
    {od38 an38 : Option Addr} {sl38 : Array (Option Value)} {oc38 kV38 dc38 pm38 cd38 ct38 : Value}
    (a38 : PySem.W.nsIn K mainGlobals "_law_through_right" = some (some (.ref f38))) (l38 : K.lookup f38 = some ⟨oc38, od38, .func (PySem.W.fnOf "_law_through_right" "_law_through_right" (defArgs s_law_through_right) (defBody s_law_through_right) (defScope s_law_through_right) .none kV38 dc38 pm38 an38 cd38 ct38), sl38⟩) (c38 : PySem.W.codeIn K cd38 "_law_through_right" = true) (k38 : PySem.W.keepIn K (.ref f38) = true)
    {od39 an39 : Option Addr} {sl39 : Array (Option Value)} {oc39 kV39 dc39 pm39 cd39 ct39 : Value}
    (a39 : PySem.W.nsIn K mainGlobals "_law_numbers_right" = some (some (.ref f39))) (l39 : K.lookup f39 = some ⟨oc39, od39, .func (PySem.W.fnOf "_law_numbers_right" "_law_numbers_right" (defArgs s_law_numbers_right) (defBody s_law_numbers_right) (defScope s_law_numbers_right) .none kV39 dc39 pm39 an39 cd39 ct39), sl39⟩) (c39 : PySem.W.codeIn K cd39 "_law_numbers_right" = true) (k39 : PySem.W.keepIn K (.ref f39) = true)
    {od40 an40 : Option Addr} {sl40 : Array (Option Value)} {oc40 kV40 dc40 pm40 cd40 ct40 : Value}
    (a40 : PySem.W.nsIn K mainGlobals "_law_right" = some (some (.ref f40))) (l40 : K.lookup f40 = some ⟨oc40, od40, .func (PySem.W.fnOf "_law_right" "_law_right" (defArgs s_law_right) (defBody s_law_right) (defScope s_law_right) .none kV40 dc40 pm40 an40 cd40 ct40), sl40⟩) (c40 : PySem.W.codeIn K cd40 "_law_right" = true) (k40 : PySem.W.keepIn K (.ref f40) = true)
    {od41 an41 : Option Addr} {sl41 : Array (Option Value)} {oc41 kV41 dc41 pm41 cd41 ct41 : Value}
    (a41 : PySem.W.nsIn K mainGlobals "law" = some (some (.ref f41))) (l41 : K.lookup f41 = some ⟨oc41, od41, .func (PySem.W.fnOf "law" "law" (defArgs s_law) (defBody s_law) (defScope s_law) .none kV41 dc41 pm41 an41 cd41 ct41), sl41⟩) (c41 : PySem.W.codeIn K cd41 "law" = true) (k41 : PySem.W.keepIn K (.ref f41) = true)
    (z_abs : PySem.W.nsIn K mainGlobals "abs" = some none)
    (z_all : PySem.W.nsIn K mainGlobals "all" = some none)
    (z_bool : PySem.W.nsIn K mainGlobals "bool" = some none)
    (z_enumerate : PySem.W.nsIn K mainGlobals "enumerate" = some none)
    (z_int : PySem.W.nsIn K mainGlobals "int" = some none)
    (z_isinstance : PySem.W.nsIn K mainGlobals "isinstance" = some none)
    (z_len : PySem.W.nsIn K mainGlobals "len" = some none)
    (z_list : PySem.W.nsIn K mainGlobals "list" = some none)
    (z_max : PySem.W.nsIn K mainGlobals "max" = some none)
    (z_min : PySem.W.nsIn K mainGlobals "min" = some none)
    (z_pow : PySem.W.nsIn K mainGlobals "pow" = some none)
    (z_range : PySem.W.nsIn K mainGlobals "range" = some none)
    (z_reversed : PySem.W.nsIn K mainGlobals "reversed" = some none)
    (z_set : PySem.W.nsIn K mainGlobals "set" = some none)
    (z_sum : PySem.W.nsIn K mainGlobals "sum" = some none)
    (z_tuple : PySem.W.nsIn K mainGlobals "tuple" = some none)
    (z_zip : PySem.W.nsIn K mainGlobals "zip" = some none)
    {t_LONGEST : Tok} (y_LONGEST : PySem.W.nsIn K mainGlobals "LONGEST" = some (some (.int 999999999999999999999999999999999999999999999999999999999999 t_LONGEST)))
    {t_MAX_CELL : Tok} (y_MAX_CELL : PySem.W.nsIn K mainGlobals "MAX_CELL" = some (some (.int 996 t_MAX_CELL)))
    {t_MOST_CELLS : Tok} (y_MOST_CELLS : PySem.W.nsIn K mainGlobals "MOST_CELLS" = some (some (.int 60 t_MOST_CELLS)))
    {t_PRIME : Tok} (y_PRIME : PySem.W.nsIn K mainGlobals "PRIME" = some (some (.int 997 t_PRIME)))
    : ∃ fd : FuncData, (∀ (s : Shared) (v : Value), BindsTo s fd ⟨[v], []⟩ [("script", v)]) ∧ ∀ base : Heap, K.In base → base.Ns mainGlobals mg → FnOk l.prog w K mg base (L2.CX l.prog w) 10 fa fd ["script"] (sp_law K) := by
  have e := hfa.symm.trans (PySem.W.mg_of X G a41)
  cases e
  have F0 := fun_mk (st := s_is_number) l0 c0 k0
  have F1 := fun_mk (st := s_check_number) l1 c1 k1
  have F2 := fun_mk (st := s_is_cell) l2 c2 k2
  have F3 := fun_mk (st := s_is_cells) l3 c3 k3
  have F4 := fun_mk (st := s_is_poly) l4 c4 k4
  have F5 := fun_mk (st := s_check_poly) l5 c5 k5
  have F6 := fun_mk (st := s_check_places) l6 c6 k6
  have F7 := fun_mk (st := s_check_points) l7 c7 k7
  have F8 := fun_mk (st := s_inverse) l8 c8 k8
  have F9 := fun_mk (st := s_trimmed) l9 c9 k9
  have F10 := fun_mk (st := s_evaluated) l10 c10 k10
  have F11 := fun_mk (st := s_value_at) l11 c11 k11
  have F12 := fun_mk (st := s_check_both) l12 c12 k12
  have F13 := fun_mk (st := s_poly_sum) l13 c13 k13
  have F14 := fun_mk (st := s_combined) l14 c14 k14
  have F15 := fun_mk (st := s_poly_product) l15 c15 k15
  have F16 := fun_mk (st := s_multiplied) l16 c16 k16
  have F17 := fun_mk (st := s_none_at) l17 c17 k17
  have F18 := fun_mk (st := s_with_roots) l18 c18 k18
  have F19 := fun_mk (st := s_products_without) l19 c19 k19
  have F20 := fun_mk (st := s_place_weights) l20 c20 k20
  have F21 := fun_mk (st := s_numbers_by) l21 c21 k21
  have F22 := fun_mk (st := s_numbers_at) l22 c22 k22
  have F23 := fun_mk (st := s_through) l23 c23 k23
  have F24 := fun_mk (st := s_interpolated) l24 c24 k24
  have F25 := fun_mk (st := s_law_churn) l25 c25 k25
  have F26 := fun_mk (st := s_law_ladle) l26 c26 k26
  have F27 := fun_mk (st := s_law_spoon) l27 c27 k27
  have F28 := fun_mk (st := s_law_cell) l28 c28 k28
  have F29 := fun_mk (st := s_law_cells) l29 c29 k29
  have F30 := fun_mk (st := s_law_trim) l30 c30 k30
  have F31 := fun_mk (st := s_law_poly) l31 c31 k31
  have F32 := fun_mk (st := s_law_value) l32 c32 k32
  have F33 := fun_mk (st := s_law_unlike) l33 c33 k33
  have F34 := fun_mk (st := s_law_back) l34 c34 k34
  have F35 := fun_mk (st := s_law_times) l35 c35 k35
  have F36 := fun_mk (st := s_law_plus) l36 c36 k36
  have F37 := fun_mk (st := s_law_through) l37 c37 k37
  have F38 := fun_mk (st := s_law_through_right) l38 c38 k38
  have F39 := fun_mk (st := s_law_numbers_right) l39 c39 k39
  have F40 := fun_mk (st := s_law_right) l40 c40 k40
  have F41 := fun_mk (st := s_law) l41 c41 k41
  have T : Txt K (fun _ => 0) mg ⟨f0, f1, f2, f3, f4, f5, f6, f7, f8, f9, f10, f11, f12, f13, f14, f15, f16, f17, f18, f19, f20, f21, f22, f23, f24, f25, f26, f27, f28, f29, f30, f31, f32, f33, f34, f35, f36, f37, f38, f39, f40, fa⟩ ⟨_, _, _, _, _, _, _, _, _, _, _, _, _, _, _, _, _, _, _, _, _, _, _, _, _, _, _, _, _, _, _, _, _, _, _, _, _, _, _, _, _, _⟩ := {
    b_abs := PySem.W.mg_none_of X G z_abs
    b_all := PySem.W.mg_none_of X G z_all
    b_bool := PySem.W.mg_none_of X G z_bool
    b_enumerate := PySem.W.mg_none_of X G z_enumerate
    b_int := PySem.W.mg_none_of X G z_int
    b_isinstance := PySem.W.mg_none_of X G z_isinstance
    b_len := PySem.W.mg_none_of X G z_len
    b_list := PySem.W.mg_none_of X G z_list
    b_max := PySem.W.mg_none_of X G z_max
    b_min := PySem.W.mg_none_of X G z_min
    b_pow := PySem.W.mg_none_of X G z_pow
    b_range := PySem.W.mg_none_of X G z_range
    b_reversed := PySem.W.mg_none_of X G z_reversed
    b_set := PySem.W.mg_none_of X G z_set
    b_sum := PySem.W.mg_none_of X G z_sum
    b_tuple := PySem.W.mg_none_of X G z_tuple
    b_zip := PySem.W.mg_none_of X G z_zip
    c_LONGEST := ⟨_, PySem.W.mg_of X G y_LONGEST⟩
    c_MAX_CELL := ⟨_, PySem.W.mg_of X G y_MAX_CELL⟩
    c_MOST_CELLS := ⟨_, PySem.W.mg_of X G y_MOST_CELLS⟩
    c_PRIME := ⟨_, PySem.W.mg_of X G y_PRIME⟩
    g_is_number := PySem.W.mg_of X G a0
    k_is_number := k0
    F_is_number := F0
    B_is_number := F0.binds (ps := ["value", "least", "most"]) fun _ _ _ _ _ _ us hl => match us, hl with | [_, _, _], _ => rfl
    g_check_number := PySem.W.mg_of X G a1
    k_check_number := k1
    F_check_number := F1
    B_check_number := F1.binds (ps := ["given", "least", "most"]) fun _ _ _ _ _ _ us hl => match us, hl with | [_, _, _], _ => rfl
    g_is_cell := PySem.W.mg_of X G a2
    k_is_cell := k2
    F_is_cell := F2
    B_is_cell := F2.binds (ps := ["value"]) fun _ _ _ _ _ _ us hl => match us, hl with | [_], _ => rfl
    g_is_cells := PySem.W.mg_of X G a3
    k_is_cells := k3
    F_is_cells := F3
    B_is_cells := F3.binds (ps := ["value"]) fun _ _ _ _ _ _ us hl => match us, hl with | [_], _ => rfl
    g_is_poly := PySem.W.mg_of X G a4
    k_is_poly := k4
    F_is_poly := F4
    B_is_poly := F4.binds (ps := ["value"]) fun _ _ _ _ _ _ us hl => match us, hl with | [_], _ => rfl
    g_check_poly := PySem.W.mg_of X G a5
    k_check_poly := k5
    F_check_poly := F5
    B_check_poly := F5.binds (ps := ["poly"]) fun _ _ _ _ _ _ us hl => match us, hl with | [_], _ => rfl
    g_check_places := PySem.W.mg_of X G a6
    k_check_places := k6
    F_check_places := F6
    B_check_places := F6.binds (ps := ["places"]) fun _ _ _ _ _ _ us hl => match us, hl with | [_], _ => rfl
    g_check_points := PySem.W.mg_of X G a7
    k_check_points := k7
    F_check_points := F7
    B_check_points := F7.binds (ps := ["points"]) fun _ _ _ _ _ _ us hl => match us, hl with | [_], _ => rfl
    g_inverse := PySem.W.mg_of X G a8
    k_inverse := k8
    F_inverse := F8
    B_inverse := F8.binds (ps := ["cell"]) fun _ _ _ _ _ _ us hl => match us, hl with | [_], _ => rfl
    g_trimmed := PySem.W.mg_of X G a9
    k_trimmed := k9
    F_trimmed := F9
    B_trimmed := F9.binds (ps := ["numbers"]) fun _ _ _ _ _ _ us hl => match us, hl with | [_], _ => rfl
    g_evaluated := PySem.W.mg_of X G a10
    k_evaluated := k10
    F_evaluated := F10
    B_evaluated := F10.binds (ps := ["poly", "cell"]) fun _ _ _ _ _ _ us hl => match us, hl with | [_, _], _ => rfl
    g_value_at := PySem.W.mg_of X G a11
    k_value_at := k11
    F_value_at := F11
    B_value_at := F11.binds (ps := ["poly", "cell"]) fun _ _ _ _ _ _ us hl => match us, hl with | [_, _], _ => rfl
    g_check_both := PySem.W.mg_of X G a12
    k_check_both := k12
    F_check_both := F12
    B_check_both := F12.binds (ps := ["one", "other"]) fun _ _ _ _ _ _ us hl => match us, hl with | [_, _], _ => rfl
    g_poly_sum := PySem.W.mg_of X G a13
    k_poly_sum := k13
    F_poly_sum := F13
    B_poly_sum := F13.binds (ps := ["one", "other"]) fun _ _ _ _ _ _ us hl => match us, hl with | [_, _], _ => rfl
    g_combined := PySem.W.mg_of X G a14
    k_combined := k14
    F_combined := F14
    B_combined := F14.binds (ps := ["one", "other", "factor"]) fun _ _ _ _ _ _ us hl => match us, hl with | [_, _, _], _ => rfl
    g_poly_product := PySem.W.mg_of X G a15
    k_poly_product := k15
    F_poly_product := F15
    B_poly_product := F15.binds (ps := ["one", "other"]) fun _ _ _ _ _ _ us hl => match us, hl with | [_, _], _ => rfl
    g_multiplied := PySem.W.mg_of X G a16
    k_multiplied := k16
    F_multiplied := F16
    B_multiplied := F16.binds (ps := ["one", "other"]) fun _ _ _ _ _ _ us hl => match us, hl with | [_, _], _ => rfl
    g_none_at := PySem.W.mg_of X G a17
    k_none_at := k17
    F_none_at := F17
    B_none_at := F17.binds (ps := ["places"]) fun _ _ _ _ _ _ us hl => match us, hl with | [_], _ => rfl
    g_with_roots := PySem.W.mg_of X G a18
    k_with_roots := k18
    F_with_roots := F18
    B_with_roots := F18.binds (ps := ["places"]) fun _ _ _ _ _ _ us hl => match us, hl with | [_], _ => rfl
    g_products_without := PySem.W.mg_of X G a19
    k_products_without := k19
    F_products_without := F19
    B_products_without := F19.binds (ps := ["factors"]) fun _ _ _ _ _ _ us hl => match us, hl with | [_], _ => rfl
    g_place_weights := PySem.W.mg_of X G a20
    k_place_weights := k20
    F_place_weights := F20
    B_place_weights := F20.binds (ps := ["places"]) fun _ _ _ _ _ _ us hl => match us, hl with | [_], _ => rfl
    g_numbers_by := PySem.W.mg_of X G a21
    k_numbers_by := k21
    F_numbers_by := F21
    B_numbers_by := F21.binds (ps := ["places", "weights", "cell"]) fun _ _ _ _ _ _ us hl => match us, hl with | [_, _, _], _ => rfl
    g_numbers_at := PySem.W.mg_of X G a22
    k_numbers_at := k22
    F_numbers_at := F22
    B_numbers_at := F22.binds (ps := ["places", "cell"]) fun _ _ _ _ _ _ us hl => match us, hl with | [_, _], _ => rfl
    g_through := PySem.W.mg_of X G a23
    k_through := k23
    F_through := F23
    B_through := F23.binds (ps := ["points"]) fun _ _ _ _ _ _ us hl => match us, hl with | [_], _ => rfl
    g_interpolated := PySem.W.mg_of X G a24
    k_interpolated := k24
    F_interpolated := F24
    B_interpolated := F24.binds (ps := ["points"]) fun _ _ _ _ _ _ us hl => match us, hl with | [_], _ => rfl
    g_law_churn := PySem.W.mg_of X G a25
    k_law_churn := k25
    F_law_churn := F25
    B_law_churn := F25.binds (ps := ["script", "spot"]) fun _ _ _ _ _ _ us hl => match us, hl with | [_, _], _ => rfl
    g_law_ladle := PySem.W.mg_of X G a26
    k_law_ladle := k26
    F_law_ladle := F26
    B_law_ladle := F26.binds (ps := ["churn", "total"]) fun _ _ _ _ _ _ us hl => match us, hl with | [_, _], _ => rfl
    g_law_spoon := PySem.W.mg_of X G a27
    k_law_spoon := k27
    F_law_spoon := F27
    B_law_spoon := F27.binds (ps := ["churn", "items"]) fun _ _ _ _ _ _ us hl => match us, hl with | [_, _], _ => rfl
    g_law_cell := PySem.W.mg_of X G a28
    k_law_cell := k28
    F_law_cell := F28
    B_law_cell := F28.binds (ps := ["churn"]) fun _ _ _ _ _ _ us hl => match us, hl with | [_], _ => rfl
    g_law_cells := PySem.W.mg_of X G a29
    k_law_cells := k29
    F_law_cells := F29
    B_law_cells := F29.binds (ps := ["churn", "many"]) fun _ _ _ _ _ _ us hl => match us, hl with | [_, _], _ => rfl
    g_law_trim := PySem.W.mg_of X G a30
    k_law_trim := k30
    F_law_trim := F30
    B_law_trim := F30.binds (ps := ["cells"]) fun _ _ _ _ _ _ us hl => match us, hl with | [_], _ => rfl
    g_law_poly := PySem.W.mg_of X G a31
    k_law_poly := k31
    F_law_poly := F31
    B_law_poly := F31.binds (ps := ["churn", "most"]) fun _ _ _ _ _ _ us hl => match us, hl with | [_, _], _ => rfl
    g_law_value := PySem.W.mg_of X G a32
    k_law_value := k32
    F_law_value := F32
    B_law_value := F32.binds (ps := ["poly", "cell"]) fun _ _ _ _ _ _ us hl => match us, hl with | [_, _], _ => rfl
    g_law_unlike := PySem.W.mg_of X G a33
    k_law_unlike := k33
    F_law_unlike := F33
    B_law_unlike := F33.binds (ps := ["churn", "many", "most"]) fun _ _ _ _ _ _ us hl => match us, hl with | [_, _, _], _ => rfl
    g_law_back := PySem.W.mg_of X G a34
    k_law_back := k34
    F_law_back := F34
    B_law_back := F34.binds (ps := ["cell"]) fun _ _ _ _ _ _ us hl => match us, hl with | [_], _ => rfl
    g_law_times := PySem.W.mg_of X G a35
    k_law_times := k35
    F_law_times := F35
    B_law_times := F35.binds (ps := ["one", "other"]) fun _ _ _ _ _ _ us hl => match us, hl with | [_, _], _ => rfl
    g_law_plus := PySem.W.mg_of X G a36
    k_law_plus := k36
    F_law_plus := F36
    B_law_plus := F36.binds (ps := ["one", "other"]) fun _ _ _ _ _ _ us hl => match us, hl with | [_, _], _ => rfl
    g_law_through := PySem.W.mg_of X G a37
    k_law_through := k37
    F_law_through := F37
    B_law_through := F37.binds (ps := ["points"]) fun _ _ _ _ _ _ us hl => match us, hl with | [_], _ => rfl
    g_law_through_right := PySem.W.mg_of X G a38
    k_law_through_right := k38
    F_law_through_right := F38
    B_law_through_right := F38.binds (ps := ["churn", "points"]) fun _ _ _ _ _ _ us hl => match us, hl with | [_, _], _ => rfl
    g_law_numbers_right := PySem.W.mg_of X G a39
    k_law_numbers_right := k39
    F_law_numbers_right := F39
    B_law_numbers_right := F39.binds (ps := ["churn", "there"]) fun _ _ _ _ _ _ us hl => match us, hl with | [_, _], _ => rfl
    g_law_right := PySem.W.mg_of X G a40
    k_law_right := k40
    F_law_right := F40
    B_law_right := F40.binds (ps := ["churn"]) fun _ _ _ _ _ _ us hl => match us, hl with | [_], _ => rfl
    g_law := PySem.W.mg_of X G a41
    k_law := k41
    F_law := F41
    B_law := F41.binds (ps := ["script"]) fun _ _ _ _ _ _ us hl => match us, hl with | [_], _ => rfl
  }
  refine ⟨PySem.W.fnOf "law" "law" (defArgs s_law) (defBody s_law) (defScope s_law) .none kV41 dc41 pm41 an41 cd41 ct41, fun s v => .of_eq rfl, fun base _ _ => ?_⟩
  have G_is_number := ok_is_number (P := l.prog) (w := w) (base := base) T 
  have G_inverse := ok_inverse (P := l.prog) (w := w) (base := base) T 
  have G_trimmed := ok_trimmed (P := l.prog) (w := w) (base := base) T 
  have G_evaluated := ok_evaluated (P := l.prog) (w := w) (base := base) T 
  have G_products_without := ok_products_without (P := l.prog) (w := w) (base := base) T 
  have G_law_churn := ok_law_churn (P := l.prog) (w := w) (base := base) T 
  have G_law_ladle := ok_law_ladle (P := l.prog) (w := w) (base := base) T 
  have G_law_trim := ok_law_trim (P := l.prog) (w := w) (base := base) T 
  have G_law_value := ok_law_value (P := l.prog) (w := w) (base := base) T 
  have G_law_back := ok_law_back (P := l.prog) (w := w) (base := base) T 
  have G_check_number := ok_check_number (P := l.prog) (w := w) (base := base) T G_is_number
  have G_is_cell := ok_is_cell (P := l.prog) (w := w) (base := base) T G_is_number
  have G_combined := ok_combined (P := l.prog) (w := w) (base := base) T G_trimmed
  have G_multiplied := ok_multiplied (P := l.prog) (w := w) (base := base) T G_trimmed
  have G_place_weights := ok_place_weights (P := l.prog) (w := w) (base := base) T G_inverse
  have G_numbers_by := ok_numbers_by (P := l.prog) (w := w) (base := base) T G_products_without
  have G_law_spoon := ok_law_spoon (P := l.prog) (w := w) (base := base) T G_law_ladle
  have G_law_unlike := ok_law_unlike (P := l.prog) (w := w) (base := base) T G_law_ladle
  have G_law_times := ok_law_times (P := l.prog) (w := w) (base := base) T G_law_trim
  have G_law_plus := ok_law_plus (P := l.prog) (w := w) (base := base) T G_law_trim
  have G_is_cells := ok_is_cells (P := l.prog) (w := w) (base := base) T G_is_cell
  have G_with_roots := ok_with_roots (P := l.prog) (w := w) (base := base) T G_multiplied
  have G_interpolated := ok_interpolated (P := l.prog) (w := w) (base := base) T G_combined G_evaluated G_inverse G_multiplied
  have G_law_cell := ok_law_cell (P := l.prog) (w := w) (base := base) T G_law_ladle G_law_spoon
  have G_law_through := ok_law_through (P := l.prog) (w := w) (base := base) T G_law_back G_law_plus G_law_times
  have G_is_poly := ok_is_poly (P := l.prog) (w := w) (base := base) T G_is_cells
  have G_check_places := ok_check_places (P := l.prog) (w := w) (base := base) T G_is_cells
  have G_law_cells := ok_law_cells (P := l.prog) (w := w) (base := base) T G_law_cell
  have G_check_poly := ok_check_poly (P := l.prog) (w := w) (base := base) T G_is_poly
  have G_check_points := ok_check_points (P := l.prog) (w := w) (base := base) T G_check_places G_is_cells
  have G_none_at := ok_none_at (P := l.prog) (w := w) (base := base) T G_check_places G_with_roots
  have G_numbers_at := ok_numbers_at (P := l.prog) (w := w) (base := base) T G_check_number G_check_places G_numbers_by G_place_weights
  have G_law_poly := ok_law_poly (P := l.prog) (w := w) (base := base) T G_law_cells G_law_ladle G_law_trim
  have G_value_at := ok_value_at (P := l.prog) (w := w) (base := base) T G_check_number G_check_poly G_evaluated
  have G_check_both := ok_check_both (P := l.prog) (w := w) (base := base) T G_check_poly
  have G_through := ok_through (P := l.prog) (w := w) (base := base) T G_check_points G_interpolated
  have G_poly_sum := ok_poly_sum (P := l.prog) (w := w) (base := base) T G_check_both G_combined
  have G_poly_product := ok_poly_product (P := l.prog) (w := w) (base := base) T G_check_both G_multiplied
  have G_law_numbers_right := ok_law_numbers_right (P := l.prog) (w := w) (base := base) T G_law_cells G_law_ladle G_law_spoon G_law_trim G_law_value G_none_at G_numbers_at G_value_at
  have G_law_through_right := ok_law_through_right (P := l.prog) (w := w) (base := base) T G_law_cell G_law_ladle G_law_poly G_law_through G_law_value G_none_at G_poly_product G_poly_sum G_through G_value_at
  have G_law_right := ok_law_right (P := l.prog) (w := w) (base := base) T G_law_cell G_law_ladle G_law_numbers_right G_law_spoon G_law_through_right G_law_unlike
  have G_law := ok_law (P := l.prog) (w := w) (base := base) T G_law_churn G_law_right G_none_at G_numbers_at G_through
  exact G_law.imp (fun vs H Q E h => law_sp law_true h)
theorem walk {l : PySem.W.OpenLaw} {q : Program} {loose : List Str} {XP : (Str → Option Value) → Heap → Prop} {YP : World → Heap → Prop} {d : DefRec} {K : Params → PySem.W.Frag} (hn : l.most = some 63) (hdf : d.params.defaults = [])
    (hY : ∀ (w : World) (h : Heap), YP w h → (K w.params).In h)
    (F : ∀ (w : World) (mg : Str → Option Value) (fa : Addr) (h : Heap), (K w.params).In h → h.Ns mainGlobals mg → mg d.name = some (.ref fa) →
      ∃ fd : FuncData, (∀ (s : Shared) (u : Value), BindsTo s fd ⟨[u], []⟩ [("script", u)]) ∧ ∀ base : Heap, (K w.params).In base → base.Ns mainGlobals mg → FnOk l.prog w (K w.params) mg base (L2.CX l.prog w) 10 fa fd ["script"] (sp_law (K w.params))) :
    PySem.W.WalkO q loose XP YP l.row.toRowW d [] (fun f vs => PySem.call f vs) :=
  L2.walk_of (n := 63) (k := 10) (x := "script") (CX := fun w => L2.CX l.prog w) (sp := fun w => sp_law (K w.params)) hn (by decide) hdf ⟨rfl, by decide, by decide⟩ hY F (fun _ H a ns hl hO hS => ⟨a, ns, rfl, only_rol hO hS, hl, fun _ => rfl⟩) fun _ _ _ _ _ z => cx_false z
end
end My
open PySem PySem.W PyProof.Rows
set_option maxRecDepth 100000 in
set_option maxHeartbeats 0 in
theorem PySem.Challenge.cw_stillread_k04_whole_polys_through_points_holds : PySem.Challenge.rw_stillread_k04_whole_polys_through_points.Holds := by
  w_on; o_law; k_head; (case hw => w_witness2)
  k_fill
  refine My.walk (l := PySem.Challenge.rw_stillread_k04_whole_polys_through_points) rfl rfl (fun w h Y => PySem.W.kIn_of Y) ?F
  case F =>
    intro w mg fa h KX G hmg
    refine' My.all_mk KX G hmg ?a0 ?l0 ?c0 ?k0 ?a1 ?l1 ?c1 ?k1 ?a2 ?l2 ?c2 ?k2 ?a3 ?l3 ?c3 ?k3 ?a4 ?l4 ?c4 ?k4 ?a5 ?l5 ?c5 ?k5 ?a6 ?l6 ?c6 ?k6 ?a7 ?l7 ?c7 ?k7 ?a8 ?l8 ?c8 ?k8 ?a9 ?l9 ?c9 ?k9 ?a10 ?l10 ?c10 ?k10 ?a11 ?l11 ?c11 ?k11 ?a12 ?l12 ?c12 ?k12 ?a13 ?l13 ?c13 ?k13 ?a14 ?l14 ?c14 ?k14 ?a15 ?l15 ?c15 ?k15 ?a16 ?l16 ?c16 ?k16 ?a17 ?l17 ?c17 ?k17 ?a18 ?l18 ?c18 ?k18 ?a19 ?l19 ?c19 ?k19 ?a20 ?l20 ?c20 ?k20 ?a21 ?l21 ?c21 ?k21 ?a22 ?l22 ?c22 ?k22 ?a23 ?l23 ?c23 ?k23 ?a24 ?l24 ?c24 ?k24 ?a25 ?l25 ?c25 ?k25 ?a26 ?l26 ?c26 ?k26 ?a27 ?l27 ?c27 ?k27 ?a28 ?l28 ?c28 ?k28 ?a29 ?l29 ?c29 ?k29 ?a30 ?l30 ?c30 ?k30 ?a31 ?l31 ?c31 ?k31 ?a32 ?l32 ?c32 ?k32 ?a33 ?l33 ?c33 ?k33 ?a34 ?l34 ?c34 ?k34 ?a35 ?l35 ?c35 ?k35 ?a36 ?l36 ?c36 ?k36 ?a37 ?l37 ?c37 ?k37 ?a38 ?l38 ?c38 ?k38 ?a39 ?l39 ?c39 ?k39 ?a40 ?l40 ?c40 ?k40 ?a41 ?l41 ?c41 ?k41 ?z_abs ?z_all ?z_bool ?z_enumerate ?z_int ?z_isinstance ?z_len ?z_list ?z_max ?z_min ?z_pow ?z_range ?z_reversed ?z_set ?z_sum ?z_tuple ?z_zip ?y_LONGEST ?y_MAX_CELL ?y_MOST_CELLS ?y_PRIME
    (case a0 => k_is)
    (case l0 => k_is)
    (case c0 => k_is)
    (case k0 => k_is)
    (case a1 => k_is)
    (case l1 => k_is)
    (case c1 => k_is)
    (case k1 => k_is)
    (case a2 => k_is)
    (case l2 => k_is)
    (case c2 => k_is)
    (case k2 => k_is)
    (case a3 => k_is)
    (case l3 => k_is)
    (case c3 => k_is)
    (case k3 => k_is)
    (case a4 => k_is)
    (case l4 => k_is)
    (case c4 => k_is)
    (case k4 => k_is)
    (case a5 => k_is)
    (case l5 => k_is)
    (case c5 => k_is)
    (case k5 => k_is)
    (case a6 => k_is)
    (case l6 => k_is)
    (case c6 => k_is)
    (case k6 => k_is)
    (case a7 => k_is)
    (case l7 => k_is)
    (case c7 => k_is)
    (case k7 => k_is)
    (case a8 => k_is)
    (case l8 => k_is)
    (case c8 => k_is)
    (case k8 => k_is)
    (case a9 => k_is)
    (case l9 => k_is)
    (case c9 => k_is)
    (case k9 => k_is)
    (case a10 => k_is)
    (case l10 => k_is)
    (case c10 => k_is)
    (case k10 => k_is)
    (case a11 => k_is)
    (case l11 => k_is)
    (case c11 => k_is)
    (case k11 => k_is)
    (case a12 => k_is)
    (case l12 => k_is)
    (case c12 => k_is)
    (case k12 => k_is)
    (case a13 => k_is)
    (case l13 => k_is)
    (case c13 => k_is)
    (case k13 => k_is)
    (case a14 => k_is)
    (case l14 => k_is)
    (case c14 => k_is)
    (case k14 => k_is)
    (case a15 => k_is)
    (case l15 => k_is)
    (case c15 => k_is)
    (case k15 => k_is)
    (case a16 => k_is)
    (case l16 => k_is)
    (case c16 => k_is)
    (case k16 => k_is)
    (case a17 => k_is)
    (case l17 => k_is)
    (case c17 => k_is)
    (case k17 => k_is)
    (case a18 => k_is)
    (case l18 => k_is)
    (case c18 => k_is)
    (case k18 => k_is)
    (case a19 => k_is)
    (case l19 => k_is)
    (case c19 => k_is)
    (case k19 => k_is)
    (case a20 => k_is)
    (case l20 => k_is)
    (case c20 => k_is)
    (case k20 => k_is)
    (case a21 => k_is)
    (case l21 => k_is)
    (case c21 => k_is)
    (case k21 => k_is)
    (case a22 => k_is)
    (case l22 => k_is)
    (case c22 => k_is)
    (case k22 => k_is)
    (case a23 => k_is)
    (case l23 => k_is)
    (case c23 => k_is)
    (case k23 => k_is)
    (case a24 => k_is)
    (case l24 => k_is)
    (case c24 => k_is)
    (case k24 => k_is)
    (case a25 => k_is)
    (case l25 => k_is)
    (case c25 => k_is)
    (case k25 => k_is)
    (case a26 => k_is)
    (case l26 => k_is)
    (case c26 => k_is)
    (case k26 => k_is)
    (case a27 => k_is)
    (case l27 => k_is)
    (case c27 => k_is)
    (case k27 => k_is)
    (case a28 => k_is)
    (case l28 => k_is)
    (case c28 => k_is)
    (case k28 => k_is)
    (case a29 => k_is)
    (case l29 => k_is)
    (case c29 => k_is)
    (case k29 => k_is)
    (case a30 => k_is)
    (case l30 => k_is)
    (case c30 => k_is)
    (case k30 => k_is)
    (case a31 => k_is)
    (case l31 => k_is)
    (case c31 => k_is)
    (case k31 => k_is)
    (case a32 => k_is)
    (case l32 => k_is)
    (case c32 => k_is)
    (case k32 => k_is)
    (case a33 => k_is)
    (case l33 => k_is)
    (case c33 => k_is)
    (case k33 => k_is)
    (case a34 => k_is)
    (case l34 => k_is)
    (case c34 => k_is)
    (case k34 => k_is)
    (case a35 => k_is)
    (case l35 => k_is)
    (case c35 => k_is)
    (case k35 => k_is)
    (case a36 => k_is)
    (case l36 => k_is)
    (case c36 => k_is)
    (case k36 => k_is)
    (case a37 => k_is)
    (case l37 => k_is)
    (case c37 => k_is)
    (case k37 => k_is)
    (case a38 => k_is)
    (case l38 => k_is)
    (case c38 => k_is)
    (case k38 => k_is)
    (case a39 => k_is)
    (case l39 => k_is)
    (case c39 => k_is)
    (case k39 => k_is)
    (case a40 => k_is)
    (case l40 => k_is)
    (case c40 => k_is)
    (case k40 => k_is)
    (case a41 => k_is)
    (case l41 => k_is)
    (case c41 => k_is)
    (case k41 => k_is)
    (case z_abs => k_is)
    (case z_all => k_is)
    (case z_bool => k_is)
    (case z_enumerate => k_is)
    (case z_int => k_is)
    (case z_isinstance => k_is)
    (case z_len => k_is)
    (case z_list => k_is)
    (case z_max => k_is)
    (case z_min => k_is)
    (case z_pow => k_is)
    (case z_range => k_is)
    (case z_reversed => k_is)
    (case z_set => k_is)
    (case z_sum => k_is)
    (case z_tuple => k_is)
    (case z_zip => k_is)
    (case y_LONGEST => k_is)
    (case y_MAX_CELL => k_is)
    (case y_MOST_CELLS => k_is)
    (case y_PRIME => k_is)
