import PyProof.Rows.All
import Wide.All
import OpenK.AllK
import Wide.FinOn
import HandS.ForMost
import HandS.Exc
import HandS.ExcOwn
import HandS.TryOnly
import HandS.Wide
import HandS.TupAny
import HandS.TupMul
import HandS.Deep
import HandS.IsInst
import HandS.Walk
import HandS.Zip
import HandS.Rev
import HandS.RevRange
import HandS.WordsExc
import HandS.StrMore
import HandS.Replace
import HandS.SetFor
import KE.GoesEnum
import KE.GoesZip
import KE.SortData
import KE.IntTextLaws
import HandS.Conv
import HandS.DictComp
import HandS.ListItems
import HandS.CallLocal
import HandS.More
import PyProof.TupleOfSeq
import HandS.Style
import HandS.FStrTup
import PyProof.ListStr
import PySem.Challenge.RW_stillread_k01_whole_names_and_their_cell
set_option Elab.async false
set_option linter.all false
set_option maxRecDepth 100000
set_option maxHeartbeats 2000000
/-! Ev: Python's values, memory and results as plain data; what a state of the layer holds of them. -/
namespace Ev
open PySem PySem.Spec L2

/-- a value: tuples stand in it as they are; ref: a cell of the memory; rol: a list that nobody changes; ob: a def, a class -/
inductive U where
  | non | bl (b : Bool) | int (i : Int) | str (x : Str) | tup (us : List U) | rol (us : List U) | ref (n : Nat) | ob (v : V)
instance : Inhabited U := ⟨.non⟩
inductive Cell where
  | lst (us : List U) | dK (kvs : List (Key × U)) | dT (kvs : List (List Key × U)) | dF (kvs : List (Key × U))
abbrev Mem := List Cell
/-- an exception: its class by number, what it keeps -/
structure Ex where
  cls : Nat
  val : Option U
inductive R (α : Type) where
  | ok (a : α) (m : Mem) | err (x : Ex) (m : Mem) | bad
def R.bind {α β : Type} (r : R α) (k : α → Mem → R β) : R β := match r with
  | .ok a m => k a m
  | .err x m => .err x m
  | .bad => .bad
theorem R.bind_ok {α β : Type} (a : α) (m : Mem) (k : α → Mem → R β) : (R.ok a m).bind k = k a m := rfl
theorem R.bind_err {α β : Type} (x : Ex) (m : Mem) (k : α → Mem → R β) : (R.err x m : R α).bind k = .err x m := rfl
theorem R.bind_assoc {α β γ : Type} (r : R α) (k : α → Mem → R β) (l : β → Mem → R γ) : (r.bind k).bind l = r.bind fun a m => (k a m).bind l := by cases r <;> rfl
abbrev Env := List (Option U)
/-- what is fixed through a law: the written part, the classes of errors by number -/
structure W0 where
  K : PySem.W.Frag
  cls : Nat → Addr

/-! ### values -/
mutual
inductive RU (K : PySem.W.Frag) (H : Hp) (μ : List Addr) : U → V → Prop
  | non : RU K H μ .non .non
  | bl (b : Bool) : RU K H μ (.bl b) (.bl b)
  | int (i : Int) : RU K H μ (.int i) (.int i)
  | str (x : Str) : RU K H μ (.str x) (.str x)
  | tup {a : Addr} {vs : List V} {us : List U} : SqT K H a vs → RUs K H μ us vs → RU K H μ (.tup us) (.ref a)
  | rol {a : Addr} {vs : List V} {us : List U} : ((∃ o, H a = some (.frz o (.lst vs))) ∨ (SqL K (fun _ => none) a vs)) → RUs K H μ us vs → RU K H μ (.rol us) (.ref a)
  | ref {n : Nat} {a : Addr} : μ[n]? = some a → RU K H μ (.ref n) (.ref a)
  | ob (v : V) : RU K H μ (.ob v) v
inductive RUs (K : PySem.W.Frag) (H : Hp) (μ : List Addr) : List U → List V → Prop
  | nil : RUs K H μ [] []
  | cons {u : U} {us : List U} {v : V} {vs : List V} : RU K H μ u v → RUs K H μ us vs → RUs K H μ (u :: us) (v :: vs)
end

/-- from state to state: further cells; all else that is tracked stays -/
structure Step (K : PySem.W.Frag) (μ : List Addr) (H : Hp) (μ' : List Addr) (H' : Hp) : Prop where
  ext : ∃ t, μ' = μ ++ t
  keep : ∀ b o, H b = some o → b ∉ μ → (∀ ps, o ≠ .tbl ps) → H' b = some o
  stay : ∀ b o, H b = some o → b ∉ μ → b ∉ μ' ∧ ∃ o', H' b = some o'
  kt : ∀ a xs, SqT K H a xs → SqT K H' a xs
  fz : ∀ b o u, H b = some (.frz o u) → H' b = some (.frz o u)
section
variable {K : PySem.W.Frag} {H H' H'' : Hp} {μ μ' μ'' : List Addr}
theorem Step.refl : Step K μ H μ H := ⟨⟨[], by simp⟩, fun _ _ h _ _ => h, fun _ o h n => ⟨n, o, h⟩, fun _ _ h => h, fun _ _ _ h => h⟩
theorem Step.trans (a : Step K μ H μ' H') (b : Step K μ' H' μ'' H'') : Step K μ H μ'' H'' := by
  obtain ⟨t, e1⟩ := a.ext
  obtain ⟨t', e2⟩ := b.ext
  refine ⟨⟨t ++ t', by rw [e2, e1, List.append_assoc]⟩, fun c o h n hp => ?_, fun c o h n => ?_, fun c xs h => b.kt _ _ (a.kt _ _ h), fun c o u h => b.fz _ _ _ (a.fz _ _ _ h)⟩
  · exact b.keep c o (a.keep c o h n hp) (a.stay c o h n).1 hp
  · obtain ⟨n1, o1, h1⟩ := a.stay c o h n
    exact b.stay c o1 h1 n1
/-- what values lean on -/
structure Mono (K : PySem.W.Frag) (μ : List Addr) (H : Hp) (μ' : List Addr) (H' : Hp) : Prop where
  ext : ∃ t, μ' = μ ++ t
  kt : ∀ a xs, SqT K H a xs → SqT K H' a xs
  fz : ∀ b o u, H b = some (.frz o u) → H' b = some (.frz o u)
theorem Mono.refl : Mono K μ H μ H := ⟨⟨[], by simp⟩, fun _ _ h => h, fun _ _ _ h => h⟩
theorem Mono.trans (a : Mono K μ H μ' H') (b : Mono K μ' H' μ'' H'') : Mono K μ H μ'' H'' := by
  obtain ⟨t, e1⟩ := a.ext
  obtain ⟨t', e2⟩ := b.ext
  exact ⟨⟨t ++ t', by rw [e2, e1, List.append_assoc]⟩, fun c xs h => b.kt _ _ (a.kt _ _ h), fun c o u h => b.fz _ _ _ (a.fz _ _ _ h)⟩
theorem Step.mono (s : Step K μ H μ' H') : Mono K μ H μ' H' := ⟨s.ext, s.kt, s.fz⟩
theorem Mono.at (s : Mono K μ H μ' H') {n : Nat} {a : Addr} (h : μ[n]? = some a) : μ'[n]? = some a := by
  obtain ⟨t, e⟩ := s.ext
  have hl : n < μ.length := (List.getElem?_eq_some_iff.mp h).1
  rw [e, List.getElem?_append_left hl]
  exact h
mutual
theorem RU.mo (s : Mono K μ H μ' H') : ∀ {u : U} {v : V}, RU K H μ u v → RU K H' μ' u v
  | _, _, .non => .non
  | _, _, .bl b => .bl b
  | _, _, .int i => .int i
  | _, _, .str x => .str x
  | _, _, .tup h t => .tup (s.kt _ _ h) (RUs.mo s t)
  | _, _, .rol h t => .rol (h.imp (fun ⟨o, q⟩ => ⟨o, s.fz _ _ _ q⟩) id) (RUs.mo s t)
  | _, _, .ref h => .ref (s.at h)
  | _, _, .ob v => .ob v
theorem RUs.mo (s : Mono K μ H μ' H') : ∀ {us : List U} {vs : List V}, RUs K H μ us vs → RUs K H' μ' us vs
  | _, _, .nil => .nil
  | _, _, .cons h t => .cons (RU.mo s h) (RUs.mo s t)
end
theorem RU.step (s : Step K μ H μ' H') {u : U} {v : V} (r : RU K H μ u v) : RU K H' μ' u v := r.mo s.mono
theorem RUs.step (s : Step K μ H μ' H') {us : List U} {vs : List V} (r : RUs K H μ us vs) : RUs K H' μ' us vs := r.mo s.mono
theorem RUs.length : ∀ {us : List U} {vs : List V}, RUs K H μ us vs → us.length = vs.length
  | _, _, .nil => rfl
  | _, _, .cons _ t => congrArg (· + 1) (RUs.length t)
theorem RUs.append : ∀ {us us' : List U} {vs vs' : List V}, RUs K H μ us vs → RUs K H μ us' vs' → RUs K H μ (us ++ us') (vs ++ vs')
  | _, _, _, _, .nil, h => h
  | _, _, _, _, .cons a t, h => .cons a (RUs.append t h)
theorem RUs.get : ∀ {us : List U} {vs : List V} {i : Nat} {u : U}, RUs K H μ us vs → us[i]? = some u → ∃ v, vs[i]? = some v ∧ RU K H μ u v
  | _, _, _, _, .nil, e => by simp at e
  | _, _, 0, _, .cons h _, e => by simp at e; subst e; exact ⟨_, rfl, h⟩
  | _, _, i + 1, _, .cons _ t, e => by
    obtain ⟨v, h1, h2⟩ := RUs.get (i := i) t (by simpa using e)
    exact ⟨v, by simpa using h1, h2⟩
theorem RUs.get' : ∀ {us : List U} {vs : List V} {i : Nat} {v : V}, RUs K H μ us vs → vs[i]? = some v → ∃ u, us[i]? = some u ∧ RU K H μ u v
  | _, _, _, _, .nil, e => by simp at e
  | _, _, 0, _, .cons h _, e => by simp at e; subst e; exact ⟨_, rfl, h⟩
  | _, _, i + 1, _, .cons _ t, e => by
    obtain ⟨v, h1, h2⟩ := RUs.get' (i := i) t (by simpa using e)
    exact ⟨v, by simpa using h1, h2⟩
theorem RUs.take : ∀ {us : List U} {vs : List V} (n : Nat), RUs K H μ us vs → RUs K H μ (us.take n) (vs.take n)
  | _, _, 0, _ => .nil
  | _, _, _ + 1, .nil => .nil
  | _, _, n + 1, .cons r t => .cons r (RUs.take n t)
theorem RUs.drop : ∀ {us : List U} {vs : List V} (n : Nat), RUs K H μ us vs → RUs K H μ (us.drop n) (vs.drop n)
  | _, _, 0, r => r
  | _, _, _ + 1, .nil => .nil
  | _, _, n + 1, .cons _ t => RUs.drop n t
theorem RUs.set : ∀ {us : List U} {vs : List V} (i : Nat) {u : U} {v : V}, RU K H μ u v → RUs K H μ us vs → RUs K H μ (us.set i u) (vs.set i v)
  | _, _, _, _, _, _, .nil => .nil
  | _, _, 0, _, _, r, .cons _ t => .cons r t
  | _, _, i + 1, _, _, r, .cons q t => .cons q (RUs.set i r t)
theorem RUs.rep {us : List U} {vs : List V} (h : RUs K H μ us vs) : ∀ k : Nat, RUs K H μ (List.replicate k us).flatten (List.replicate k vs).flatten
  | 0 => .nil
  | k + 1 => by
    rw [List.replicate_succ, List.replicate_succ, List.flatten_cons, List.flatten_cons]
    exact h.append (RUs.rep h k)
theorem RUs.reverse : ∀ {us : List U} {vs : List V}, RUs K H μ us vs → RUs K H μ us.reverse vs.reverse
  | _, _, .nil => .nil
  | _, _, .cons h t => by
    rw [List.reverse_cons, List.reverse_cons]
    exact (RUs.reverse t).append (.cons h .nil)
theorem RUs.ints : ∀ ns : List Int, RUs K H μ (ns.map U.int) (ns.map V.int)
  | [] => .nil
  | n :: r => .cons (.int n) (RUs.ints r)
theorem RUs.vints : ∀ {ns : List Int} {vs : List V}, RUs K H μ (ns.map U.int) vs → vs = ns.map V.int
  | [], _, h => by cases h; rfl
  | n :: r, _, h => by
    cases h with
    | cons a t =>
      cases a
      rw [RUs.vints t]; rfl
end

/-! ### memory -/
def COk (K : PySem.W.Frag) (H : Hp) (μ : List Addr) : Cell → Addr → Prop
  | .lst us, a => ∃ vs, H a = some (.lst vs) ∧ RUs K H μ us vs
  | .dK kvs, a => ∃ vs, H a = some (.dK vs) ∧ Paired (fun (p : Key × U) (q : Key × V) => p.1 = q.1 ∧ RU K H μ p.2 q.2) kvs vs
  | .dT kvs, a => ∃ vs, H a = some (.dT vs) ∧ Paired (fun (p : List Key × U) (q : List Key × V) => p.1 = q.1 ∧ RU K H μ p.2 q.2) kvs vs
  | .dF kvs, a => ∃ o vs, H a = some (.frz o (.dK vs)) ∧ Paired (fun (p : Key × U) (q : Key × V) => p.1 = q.1 ∧ RU K H μ p.2 q.2) kvs vs
structure MOk (K : PySem.W.Frag) (H : Hp) (μ : List Addr) (m : Mem) : Prop where
  len : μ.length = m.length
  nd : μ.Nodup
  cell : ∀ (n : Nat) (a : Addr) (c : Cell), μ[n]? = some a → m[n]? = some c → COk K H μ c a
section
variable {K : PySem.W.Frag} {H H' : Hp} {μ μ' : List Addr} {m : Mem}
/-- what a cell's object may be -/
def isC : HO → Bool
  | .lst _ => true
  | .dK _ => true
  | .dT _ => true
  | _ => false
/-- the same, or a dict that is held fast -/
def isK : HO → Bool
  | .frz _ (.dK _) => true
  | o => isC o
theorem isK_of {o : HO} (h : isC o = true) : isK o = true := by
  cases o <;> first | exact h | cases h
theorem COk.is {c : Cell} {a : Addr} (h : COk K H μ c a) : ∃ o, H a = some o ∧ isK o = true := by
  cases c with
  | dF us => obtain ⟨o, vs, e, _⟩ := h; exact ⟨_, e, rfl⟩
  | lst us => obtain ⟨vs, e, _⟩ := h; exact ⟨_, e, rfl⟩
  | dK us => obtain ⟨vs, e, _⟩ := h; exact ⟨_, e, rfl⟩
  | dT us => obtain ⟨vs, e, _⟩ := h; exact ⟨_, e, rfl⟩
theorem MOk.at (M : MOk K H μ m) {n : Nat} {c : Cell} (h : m[n]? = some c) : ∃ a, μ[n]? = some a ∧ COk K H μ c a := by
  have hl : n < μ.length := by rw [M.len]; exact (List.getElem?_eq_some_iff.mp h).1
  exact ⟨μ[n], List.getElem?_eq_getElem hl, M.cell n _ c (List.getElem?_eq_getElem hl) h⟩
theorem MOk.is (M : MOk K H μ m) {a : Addr} (h : a ∈ μ) : ∃ o, H a = some o ∧ isK o = true := by
  obtain ⟨n, hn⟩ := List.getElem?_of_mem h
  have hl : n < m.length := by rw [← M.len]; exact (List.getElem?_eq_some_iff.mp hn).1
  exact (M.cell n a m[n] hn (List.getElem?_eq_getElem hl)).is
theorem MOk.nin (M : MOk K H μ m) {a : Addr} (h : H a = none) : a ∉ μ := fun z => by
  obtain ⟨o, e, _⟩ := M.is z
  rw [h] at e; cases e
theorem MOk.ninT (M : MOk K H μ m) {a : Addr} {o : HO} (h : H a = some o) (ho : isK o = false) : a ∉ μ := fun z => by
  obtain ⟨u, e, q⟩ := M.is z
  rw [h] at e; cases e; rw [ho] at q; cases q
theorem COk.mo {c : Cell} {a : Addr} (s : Mono K μ H μ' H') (e : H' a = H a) (h : COk K H μ c a) : COk K H' μ' c a := by
  cases c with
  | lst us => obtain ⟨vs, q, r⟩ := h; exact ⟨vs, e.trans q, r.mo s⟩
  | dK kvs => obtain ⟨vs, q, r⟩ := h; exact ⟨vs, e.trans q, Paired.mapP r fun p q z => ⟨z.1, z.2.mo s⟩⟩
  | dT kvs => obtain ⟨vs, q, r⟩ := h; exact ⟨vs, e.trans q, Paired.mapP r fun p q z => ⟨z.1, z.2.mo s⟩⟩
  | dF kvs => obtain ⟨o, vs, q, r⟩ := h; exact ⟨o, vs, e.trans q, Paired.mapP r fun p q z => ⟨z.1, z.2.mo s⟩⟩
theorem COk.step {c : Cell} {a : Addr} (s : Step K μ H μ' H') (e : H' a = H a) (h : COk K H μ c a) : COk K H' μ' c a := h.mo s.mono e
/-- nothing of the cells changed -/
theorem MOk.mo (M : MOk K H μ m) (s : Mono K μ H μ H') (e : ∀ a ∈ μ, H' a = H a) : MOk K H' μ m :=
  ⟨M.len, M.nd, fun n a c h1 h2 => (M.cell n a c h1 h2).mo s (e a (List.mem_of_getElem? h1))⟩
theorem MOk.step (M : MOk K H μ m) (s : Step K μ H μ H') (e : ∀ a ∈ μ, H' a = H a) : MOk K H' μ m := M.mo s.mono e
theorem kt_new {p : Addr} {o : HO} (hp : H p = none) : ∀ a xs, SqT K H a xs → SqT K (upd H p o) a xs := fun a xs h => by
  rcases h with (h | ⟨u, h⟩) | h
  · exact .inl (.inl (by rw [upd_ne (ne_of_none h hp)]; exact h))
  · exact .inl (.inr ⟨u, by rw [upd_ne (ne_of_none h hp)]; exact h⟩)
  · exact .inr h
theorem kt_set {p : Addr} {o u : HO} (hp : H p = some u) (hu : isC u = true) : ∀ a xs, SqT K H a xs → SqT K (upd H p o) a xs := fun a xs h => by
  have ne : ∀ v, H a = some v → isC v = false → a ≠ p := fun v e q z => by
    subst z; rw [hp] at e; cases e; rw [hu] at q; cases q
  rcases h with (h | ⟨w, h⟩) | h
  · exact .inl (.inl (by rw [upd_ne (ne _ h rfl)]; exact h))
  · exact .inl (.inr ⟨w, by rw [upd_ne (ne _ h rfl)]; exact h⟩)
  · exact .inr h
theorem Step.newT {p : Addr} {o : HO} (hp : H p = none) : Step K μ H μ (upd H p o) :=
  ⟨⟨[], by simp⟩, fun b u h _ _ => by rw [upd_ne (ne_of_none h hp)]; exact h, fun b u h n => ⟨n, u, by rw [upd_ne (ne_of_none h hp)]; exact h⟩, kt_new hp, fun b u x h => by rw [upd_ne (ne_of_none h hp)]; exact h⟩
theorem Step.newC {p : Addr} {o : HO} (hp : H p = none) : Step K μ H (μ ++ [p]) (upd H p o) :=
  ⟨⟨[p], rfl⟩, fun b u h _ _ => by rw [upd_ne (ne_of_none h hp)]; exact h, fun b u h n => ⟨fun z => by
      rcases List.mem_append.mp z with z | z
      · exact n z
      · exact ne_of_none h hp (by simpa using z), u, by rw [upd_ne (ne_of_none h hp)]; exact h⟩, kt_new hp, fun b u x h => by rw [upd_ne (ne_of_none h hp)]; exact h⟩
theorem Step.set {p : Addr} {o u : HO} (hm : p ∈ μ) (hp : H p = some u) (hu : isC u = true) : Step K μ H μ (upd H p o) := by
  have ne : ∀ b, b ∉ μ → b ≠ p := fun b n z => n (z ▸ hm)
  refine ⟨⟨[], by simp⟩, fun b v h n _ => by rw [upd_ne (ne b n)]; exact h, fun b v h n => ⟨n, v, by rw [upd_ne (ne b n)]; exact h⟩, kt_set hp hu, fun b v x h => ?_⟩
  rw [upd_ne fun z => by subst z; rw [hp] at h; cases h; cases hu]; exact h
theorem MOk.newT (M : MOk K H μ m) {p : Addr} {o : HO} (hp : H p = none) : MOk K (upd H p o) μ m :=
  M.step (Step.newT hp) fun a ha => by
    obtain ⟨o', e, _⟩ := M.is ha
    rw [upd_ne (ne_of_none e hp)]
theorem MOk.newC (M : MOk K H μ m) {p : Addr} {o : HO} {c : Cell} (hp : H p = none) (hc : COk K (upd H p o) (μ ++ [p]) c p) : MOk K (upd H p o) (μ ++ [p]) (m ++ [c]) := by
  refine ⟨by simp [M.len], ?_, fun n a d h1 h2 => ?_⟩
  · rw [List.nodup_append]
    exact ⟨M.nd, by simp, fun x hx y hy e => M.nin hp (by rw [← (by simpa using hy : y = p), ← e]; exact hx)⟩
  · by_cases hn : n < μ.length
    · rw [List.getElem?_append_left hn] at h1
      rw [List.getElem?_append_left (by rw [← M.len]; exact hn)] at h2
      refine (M.cell n a d h1 h2).step (Step.newC hp) ?_
      obtain ⟨o', e, _⟩ := M.is (List.mem_of_getElem? h1)
      rw [upd_ne (ne_of_none e hp)]
    · rw [List.getElem?_append_right (Nat.le_of_not_lt hn)] at h1
      rw [List.getElem?_append_right (by rw [← M.len]; exact Nat.le_of_not_lt hn)] at h2
      have h1' : a = p ∧ n - μ.length = 0 := by
        cases e : n - μ.length with
        | zero => rw [e] at h1; simp at h1; exact ⟨h1.symm, rfl⟩
        | succ k => rw [e] at h1; simp at h1
      rw [M.len] at h1'
      rw [h1'.2] at h2
      simp at h2
      subst h2
      rw [h1'.1]
      exact hc
theorem nodup_inj {l : List Addr} (h : l.Nodup) {i j : Nat} {a : Addr} (hi : l[i]? = some a) (hj : l[j]? = some a) : i = j := by
  obtain ⟨h1, e1⟩ := List.getElem?_eq_some_iff.mp hi
  obtain ⟨h2, e2⟩ := List.getElem?_eq_some_iff.mp hj
  exact (List.getElem_inj h).mp (e1.trans e2.symm)
theorem MOk.set (M : MOk K H μ m) {n : Nat} {p : Addr} {o u : HO} {c : Cell} (hn : μ[n]? = some p) (hp : H p = some u) (hu : isC u = true) (hc : COk K (upd H p o) μ c p) : MOk K (upd H p o) μ (m.set n c) := by
  have hm := List.mem_of_getElem? hn
  refine ⟨by simp [M.len], M.nd, fun k a d h1 h2 => ?_⟩
  by_cases hk : k = n
  · subst hk
    have hl : k < m.length := by rw [← M.len]; exact (List.getElem?_eq_some_iff.mp hn).1
    rw [List.getElem?_set_self hl] at h2
    cases h2
    rw [hn] at h1; cases h1
    exact hc
  · rw [List.getElem?_set_ne (Ne.symm hk)] at h2
    refine (M.cell k a d h1 h2).step (Step.set hm hp hu) ?_
    rw [upd_ne fun z => hk (nodup_inj M.nd h1 (by rw [z]; exact hn))]
end

/-! ### slots -/
structure EOk (K : PySem.W.Frag) (H : Hp) (μ : List Addr) (ρ : Env) (σ : St) : Prop where
  len : ρ.length = σ.length
  at_ : ∀ (i : Nat) (u : U), ρ[i]? = some (some u) → ∃ v, σ[i]? = some (some v) ∧ RU K H μ u v
section
variable {K : PySem.W.Frag} {H H' : Hp} {μ μ' : List Addr} {ρ : Env} {σ : St}
theorem EOk.mo (E : EOk K H μ ρ σ) (s : Mono K μ H μ' H') : EOk K H' μ' ρ σ := ⟨E.len, fun i u h => let ⟨v, e, r⟩ := E.at_ i u h; ⟨v, e, r.mo s⟩⟩
theorem EOk.step (E : EOk K H μ ρ σ) (s : Step K μ H μ' H') : EOk K H' μ' ρ σ := E.mo s.mono
theorem EOk.set (E : EOk K H μ ρ σ) {i : Nat} {u : U} {v : V} (r : RU K H μ u v) : EOk K H μ (ρ.set i (some u)) (σ.set i (some v)) := by
  refine ⟨by simp [E.len], fun j w h => ?_⟩
  by_cases hj : j = i
  · subst hj
    have hl : j < ρ.length := by
      have := (List.getElem?_eq_some_iff.mp h).1
      simpa using this
    rw [List.getElem?_set_self hl] at h
    cases h
    exact ⟨v, by rw [List.getElem?_set_self (by rw [← E.len]; exact hl)], r⟩
  · rw [List.getElem?_set_ne (Ne.symm hj)] at h
    obtain ⟨x, e, q⟩ := E.at_ j w h
    exact ⟨x, by rw [List.getElem?_set_ne (Ne.symm hj)]; exact e, q⟩
end

/-! ### results -/
def ExOk (K : PySem.W.Frag) (H : Hp) (μ : List Addr) (x : Ex) (d : Option Addr) : Prop := match x.val with
  | none => d = none
  | some u => ∃ (a : Addr) (f : Str) (v : V), d = some a ∧ H a = some (.xd [(f, v)]) ∧ RU K H μ u v
/-- what is wanted of a result, where one stands -/
def Post {α : Type} (w : W0) (W : WX) (σ : St) (μ : List Addr) (H : Hp) (r : R α) (P : List Addr → Hp → Mem → α → Prop) : Prop := match r with
  | .ok a m => ∀ μ' H', Step w.K μ H μ' H' → MOk w.K H' μ' m → P μ' H' m a
  | .err x m => ∀ μ' H' d, Step w.K μ H μ' H' → MOk w.K H' μ' m → ExOk w.K H' μ' x d → W (.ref (w.cls x.cls)) d σ H'
  | .bad => False
section
variable {w : W0} {W : WX} {σ : St} {μ μ' : List Addr} {H H' : Hp} {α β : Type}
theorem Post.from {r : R α} {P : List Addr → Hp → Mem → α → Prop} (p : Post w W σ μ H r P) (s : Step w.K μ H μ' H') : Post w W σ μ' H' r P := by
  cases r with
  | ok a m => exact fun μ2 H2 s2 M => p μ2 H2 (s.trans s2) M
  | err x m => exact fun μ2 H2 d s2 M e => p μ2 H2 d (s.trans s2) M e
  | bad => exact p
theorem Post.bind {r : R α} {k : α → Mem → R β} {P : List Addr → Hp → Mem → β → Prop} (p : Post w W σ μ H (r.bind k) P) : Post w W σ μ H r fun μ1 H1 m1 a => Post w W σ μ1 H1 (k a m1) P := by
  cases r with
  | ok a m => exact fun μ1 H1 s1 M1 => Post.from p s1
  | err x m => exact p
  | bad => exact p
theorem Post.imp {r : R α} {P P' : List Addr → Hp → Mem → α → Prop} (p : Post w W σ μ H r P) (h : ∀ μ1 H1 m1 a, Step w.K μ H μ1 H1 → MOk w.K H1 μ1 m1 → P μ1 H1 m1 a → P' μ1 H1 m1 a) : Post w W σ μ H r P' := by
  cases r with
  | ok a m => exact fun μ1 H1 s1 M1 => h _ _ _ _ s1 M1 (p μ1 H1 s1 M1)
  | err x m => exact p
  | bad => exact p
/-- the value where it stands -/
theorem Post.ok_at {a : α} {m : Mem} {P : List Addr → Hp → Mem → α → Prop} (p : Post w W σ μ H (.ok a m) P) (M : MOk w.K H μ m) : P μ H m a := p μ H .refl M
end
end Ev

set_option Elab.async false
set_option linter.all false
set_option maxRecDepth 100000
set_option maxHeartbeats 2000000
/-! Ev: expressions as functions from slots and memory to a result. -/
namespace Ev
open PySem PySem.Spec L2

abbrev XD := Env → Mem → R U
abbrev XL := Env → Mem → R (List U)
abbrev XT := Env → Mem → R Bool
def rdE (w : W0) (W : WX) (f : XD) : TE := fun σ H Q => ∃ ρ m μ, EOk w.K H μ ρ σ ∧ MOk w.K H μ m ∧ Post w W σ μ H (f ρ m) fun μ' H' _ u => ∀ v, RU w.K H' μ' u v → Q v H'
def rdL (w : W0) (W : WX) (f : XL) : TA := fun σ H Q => ∃ ρ m μ, EOk w.K H μ ρ σ ∧ MOk w.K H μ m ∧ Post w W σ μ H (f ρ m) fun μ' H' _ us => ∀ vs, RUs w.K H' μ' us vs → Q vs H'
def rdT (w : W0) (W : WX) (f : XT) : TT := fun σ H Q => ∃ ρ m μ, EOk w.K H μ ρ σ ∧ MOk w.K H μ m ∧ Post w W σ μ H (f ρ m) fun _ H' _ b => Q b H'
abbrev wX (X : Cx) (c : Nat → Addr) : W0 := ⟨X.K, c⟩
abbrev SE (X : Cx) (c : Nat → Addr) (W : WX) (e : Expr) (f : XD) : Prop := PE X e (rdE (wX X c) W f)
abbrev SL (X : Cx) (c : Nat → Addr) (W : WX) (e : List Expr) (f : XL) : Prop := PA X e (rdL (wX X c) W f)
abbrev ST (X : Cx) (c : Nat → Addr) (W : WX) (e : Expr) (f : XT) : Prop := PT X e (rdT (wX X c) W f)
section
variable {X : Cx}
theorem _root_.L2.PE.imp {e : Expr} {t t' : TE} (h : PE X e t) (i : ∀ σ H Q, t' σ H Q → t σ H Q) : PE X e t' := ⟨fun p s σ H Q I q => h.run p s σ H Q I (i _ _ _ q)⟩
theorem _root_.L2.PT.imp {e : Expr} {t t' : TT} (h : PT X e t) (i : ∀ σ H Q, t' σ H Q → t σ H Q) : PT X e t' := ⟨fun p s σ H Q I q => h.run p s σ H Q I (i _ _ _ q)⟩
theorem _root_.L2.PW.imp {e : Expr} {t t' : TT} (h : PW X e t) (i : ∀ σ H Q, t' σ H Q → t σ H Q) : PW X e t' := ⟨fun wh p s σ H Q I q => h.run wh p s σ H Q I (i _ _ _ q)⟩
theorem _root_.L2.PA.imp {e : List Expr} {t t' : TA} (h : PA X e t) (i : ∀ σ H Q, t' σ H Q → t σ H Q) : PA X e t' := ⟨fun po p s σ H Q I q => h.run po p s σ H Q I (i _ _ _ q)⟩
theorem _root_.L2.OpR.imp {f : Value → Value → Sem Value} {r r' : R2} (h : OpR X f r) (i : ∀ x y H Q, r' x y H Q → r x y H Q) : OpR X f r' := fun p s σ H x y v u Q I rx ry q => h p s σ H x y v u Q I rx ry (i _ _ _ _ q)
theorem _root_.L2.CallR.imp {f : Value} {r r' : List V → Hp → VK → Prop} (h : CallR X f r) (i : ∀ xs H Q, r' xs H Q → r xs H Q) : CallR X f r' := fun p s σ H xs us Q I rx q => h p s σ H xs us Q I rx (i _ _ _ q)
end

/-! ### operations: a value and a memory, or nothing -/
abbrev O (α : Type) := Option (α × Mem)
def ofO {α : Type} : O α → R α
  | some (a, m) => .ok a m
  | none => .bad
def PostO {α : Type} (K : PySem.W.Frag) (μ : List Addr) (H : Hp) (o : O α) (P : List Addr → Hp → Mem → α → Prop) : Prop := match o with
  | some (a, m) => ∀ μ' H', Step K μ H μ' H' → MOk K H' μ' m → P μ' H' m a
  | none => False
theorem Post.o {α : Type} {w : W0} {W : WX} {σ : L2.St} {μ : List Addr} {H : Hp} {o : O α} {P : List Addr → Hp → Mem → α → Prop} (p : Post w W σ μ H (ofO o) P) : PostO w.K μ H o P := by
  cases o with
  | none => exact p
  | some a => exact p
/-- a two-place operation's reading -/
def rd2 (K : PySem.W.Frag) (F : U → U → Mem → O U) : R2 := fun x y H Q => ∃ u1 u2 m μ, RU K H μ u1 x ∧ RU K H μ u2 y ∧ MOk K H μ m ∧ PostO K μ H (F u1 u2 m) fun μ' H' _ z => ∀ v, RU K H' μ' z v → Q v H'
def rd1 (K : PySem.W.Frag) (F : U → Mem → O U) : V → Hp → VK → Prop := fun x H Q => ∃ u1 m μ, RU K H μ u1 x ∧ MOk K H μ m ∧ PostO K μ H (F u1 m) fun μ' H' _ z => ∀ v, RU K H' μ' z v → Q v H'
def rdC (K : PySem.W.Frag) (F : List U → Mem → O U) : List V → Hp → VK → Prop := fun xs H Q => ∃ us m μ, RUs K H μ us xs ∧ MOk K H μ m ∧ PostO K μ H (F us m) fun μ' H' _ z => ∀ v, RU K H' μ' z v → Q v H'
section
variable {K : PySem.W.Frag} {μ : List Addr} {H : Hp} {m : Mem} {α : Type}
theorem PostO.here {a : α} {P : List Addr → Hp → Mem → α → Prop} (p : PostO K μ H (some (a, m)) P) (M : MOk K H μ m) : P μ H m a := p μ H .refl M
/-- a plain value, the memory as it is -/
theorem PostO.val {z : U} {v : V} {Q : VK} (p : PostO K μ H (some (z, m)) fun μ' H' _ z => ∀ v, RU K H' μ' z v → Q v H') (M : MOk K H μ m) (r : RU K H μ z v) : Q v H := p.here M v r
/-- a new tuple -/
theorem PostO.tup {us : List U} {vs : List V} {Q : VK} (p : PostO K μ H (some (.tup us, m)) fun μ' H' _ z => ∀ v, RU K H' μ' z v → Q v H') (M : MOk K H μ m) (r : RUs K H μ us vs) {a : Addr} (ha : H a = none) : Q (.ref a) (upd H a (.tup vs)) :=
  p μ _ (.newT ha) (M.newT ha) _ (.tup (SqT.of upd_same) (r.step (.newT ha)))
/-- a new list -/
theorem PostO.lst {us : List U} {vs : List V} {Q : VK} (p : PostO K μ H (some (.ref m.length, m ++ [.lst us])) fun μ' H' _ z => ∀ v, RU K H' μ' z v → Q v H') (M : MOk K H μ m) (r : RUs K H μ us vs) {a : Addr} (ha : H a = none) : Q (.ref a) (upd H a (.lst vs)) :=
  p (μ ++ [a]) _ (.newC ha) (M.newC ha ⟨vs, upd_same, r.step (.newC ha)⟩) _ (.ref (by rw [← M.len]; simp))
end
/-- the items of a list or tuple -/
def itemsOf (m : Mem) : U → Option (List U)
  | .tup us => some us
  | .rol us => some us
  | .ref n => match m[n]? with
    | some (.lst us) => some us
    | _ => none
  | _ => none
def isT : U → Bool
  | .tup _ => true
  | _ => false
section
variable {K : PySem.W.Frag} {μ : List Addr} {H : Hp} {m : Mem}
theorem rol_sq {a : Addr} {vs : List V} (h : (∃ o, H a = some (.frz o (.lst vs))) ∨ SqL K (fun _ => none) a vs) : SqL K H a vs := by
  rcases h with ⟨o, h⟩ | (h | ⟨o, h⟩) | h
  · exact .inl (.inr ⟨o, h⟩)
  · cases h
  · cases h
  · exact .inr h
theorem items_ok (M : MOk K H μ m) {u : U} {v : V} {us : List U} (r : RU K H μ u v) (h : itemsOf m u = some us) : ∃ a vs, v = .ref a ∧ (SqL K H a vs ∨ SqT K H a vs) ∧ RUs K H μ us vs ∧ (isT u = true → SqT K H a vs) ∧ (isT u = false → SqL K H a vs) := by
  cases r with
  | tup hs t => cases h; exact ⟨_, _, rfl, .inr hs, t, (fun _ => hs), (fun z => nomatch (show true = false from z))⟩
  | rol hs t => cases h; exact ⟨_, _, rfl, .inl (rol_sq hs), t, (fun z => nomatch (show false = true from z)), fun _ => rol_sq hs⟩
  | @ref n a hn =>
    cases e : m[n]? with
    | none => simp [itemsOf, e] at h
    | some c =>
      cases c with
      | lst us' =>
        simp [itemsOf, e] at h
        subst h
        obtain ⟨vs, q, t⟩ := M.cell n a _ hn e
        exact ⟨a, vs, rfl, .inl (SqL.of q), t, (fun z => nomatch (show false = true from z)), fun _ => SqL.of q⟩
      | dK _ => simp [itemsOf, e] at h
      | dT _ => simp [itemsOf, e] at h
      | dF _ => simp [itemsOf, e] at h
  | _ => cases h
end

/-! ### data -/
mutual
def datR (res : Nat → Option PyData) : U → Option PyData
  | .non => some .none
  | .bl b => some (.bool b)
  | .int i => some (.int i)
  | .str x => some (.str x)
  | .tup us => (datRL res us).map .tuple
  | .rol us => (datRL res us).map .list
  | .ref n => res n
  | .ob _ => none
def datRL (res : Nat → Option PyData) : List U → Option (List PyData)
  | [] => some []
  | u :: us => match datR res u with
    | none => none
    | some d => (datRL res us).map (d :: ·)
end
def resM (m : Mem) : Nat → Nat → Option PyData
  | 0, _ => none
  | n + 1, k => match m[k]? with
    | some (.lst us) => (datRL (resM m n) us).map .list
    | _ => none
def dat (m : Mem) (u : U) : Option PyData := datR (resM m 6) u
section
variable {K : PySem.W.Frag} {μ : List Addr} {H : Hp} {m : Mem}
mutual
theorem datR_ok {res : Nat → Option PyData} (hr : ∀ k d a, res k = some d → μ[k]? = some a → Dp K H (.ref a) d) : ∀ {u : U} {v : V} {d : PyData}, RU K H μ u v → datR res u = some d → Dp K H v d
  | _, _, _, .non, e => by cases e; exact .non
  | _, _, _, .bl b, e => by cases e; exact .bl b
  | _, _, _, .int i, e => by cases e; exact .int i
  | _, _, _, .str x, e => by cases e; exact .str x
  | .tup us, _, d, .tup h t, e => by
    rw [datR] at e
    cases q : datRL res us with
    | none => rw [q] at e; cases e
    | some ds => rw [q] at e; cases e; exact .tup h (datRL_ok hr t q)
  | .rol us, _, d, .rol h t, e => by
    rw [datR] at e
    cases q : datRL res us with
    | none => rw [q] at e; cases e
    | some ds => rw [q] at e; cases e; exact .lst (rol_sq h) (datRL_ok hr t q)
  | _, _, _, .ref h, e => hr _ _ _ e h
  | _, _, _, .ob v, e => by cases e
theorem datRL_ok {res : Nat → Option PyData} (hr : ∀ k d a, res k = some d → μ[k]? = some a → Dp K H (.ref a) d) : ∀ {us : List U} {vs : List V} {ds : List PyData}, RUs K H μ us vs → datRL res us = some ds → DpAll K H vs ds
  | _, _, _, .nil, e => by cases e; exact .nil
  | u :: us, _, ds, .cons h t, e => by
    rw [datRL] at e
    cases q : datR res u with
    | none => rw [q] at e; cases e
    | some d =>
      rw [q] at e
      cases q2 : datRL res us with
      | none => rw [q2] at e; cases e
      | some ds' => rw [q2] at e; cases e; exact .cons (datR_ok hr h q) (datRL_ok hr t q2)
end
theorem resM_ok (M : MOk K H μ m) : ∀ (n k : Nat) (d : PyData) (a : Addr), resM m n k = some d → μ[k]? = some a → Dp K H (.ref a) d
  | 0, _, _, _, e, _ => by cases e
  | n + 1, k, d, a, e, h => by
    rw [resM] at e
    cases q : m[k]? with
    | none => rw [q] at e; cases e
    | some c =>
      rw [q] at e
      cases c with
      | lst us =>
        simp only at e
        cases q2 : datRL (resM m n) us with
        | none => rw [q2] at e; cases e
        | some ds =>
          rw [q2] at e; cases e
          obtain ⟨vs, hs, t⟩ := M.cell k a _ h q
          exact .lst (SqL.of hs) (datRL_ok (resM_ok M n) t q2)
      | dK _ => cases e
      | dT _ => cases e
      | dF _ => cases e
theorem dat_ok (M : MOk K H μ m) {u : U} {v : V} {d : PyData} (r : RU K H μ u v) (e : dat m u = some d) : Dp K H v d := datR_ok (resM_ok M 6) r e
end
end Ev

set_option Elab.async false
set_option linter.all false
set_option maxRecDepth 100000
set_option maxHeartbeats 2000000
/-! Ev: operators and comparisons. -/
namespace Ev
open PySem PySem.Spec L2

/-! ### operators -/
def oAdd : U → U → Mem → O U
  | .int i, .int j, m => some (.int (i + j), m)
  | .int i, .bl k, m => some (.int (i + PyProof.Rows.b2i k), m)
  | .str x, .str y, m => if x.length + y.length ≤ sizeLine then some (.str (x ++ y), m) else none
  | .tup xs, .tup ys, m => if xs.length + ys.length ≤ sizeLine then some (.tup (xs ++ ys), m) else none
  | .ref l, .ref k, m => match m[l]?, m[k]? with
    | some (.lst xs), some (.lst ys) => if xs.length + ys.length ≤ sizeLine then some (.ref m.length, m ++ [.lst (xs ++ ys)]) else none
    | _, _ => none
  | _, _, _ => none
def oSub : U → U → Mem → O U
  | .int i, .int j, m => some (.int (i - j), m)
  | _, _, _ => none
def mulOk (i j : Int) : Bool := decide (i.natAbs < 2 ^ 64) || decide (j.natAbs < 2 ^ 64) || decide (i.natAbs.log2 + j.natAbs.log2 < 1000000)
def oMul : U → U → Mem → O U
  | .int i, .int j, m => if mulOk i j then some (.int (i * j), m) else none
  | .ref l, .int k, m => match m[l]? with
    | some (.lst xs) => if -(2 ^ 63) ≤ k ∧ k < 2 ^ 63 ∧ xs.length * k.toNat ≤ sizeLine then some (.ref m.length, m ++ [.lst (List.replicate k.toNat xs).flatten]) else none
    | _ => none
  | .tup xs, .int k, m => if 0 < xs.length ∧ xs.length ≤ 1000 ∧ 1 < k ∧ k ≤ 1000 then some (.tup (List.replicate k.toNat xs).flatten, m) else none
  | _, _, _ => none
def oDiv : U → U → Mem → O U
  | .int i, .int j, m => if 0 < j ∧ j.natAbs.log2 < 9000 then some (.int (i / j), m) else none
  | _, _, _ => none
def oMod : U → U → Mem → O U
  | .int i, .int j, m => if 0 < j then some (.int (i % j), m) else none
  | _, _, _ => none
def oPow : U → U → Mem → O U
  | .int i, .int j, m => if 0 ≤ j ∧ (Builtin.Int.intBits i : Int) * j ≤ 2 ^ 27 then some (.int (i ^ j.toNat), m) else none
  | _, _, _ => none
def oNeg : U → Mem → O U
  | .int i, m => some (.int (-i), m)
  | _, _ => none
section
variable {X : Cx}
theorem no_op {K : PySem.W.Frag} {μ : List Addr} {H : Hp} {α : Type} {P : List Addr → Hp → Mem → α → Prop} {Z : Prop} (h : PostO K μ H (none : O α) P) : Z := False.elim h
theorem x_add : OpR X (binaryOp .Add) (rd2 X.K oAdd) := by
  intro pins s σ H x y v u Q I rx ry h
  obtain ⟨u1, u2, m, μ, r1, r2, M, p⟩ := h
  unfold oAdd at p
  split at p
  · cases r1; cases r2
    exact op_add pins s σ H _ _ v u Q I rx ry ⟨_, _, rfl, rfl, p.val M (.int _)⟩
  · cases r1; cases r2
    exact op_add_ib pins s σ H _ _ v u Q I rx ry ⟨_, _, rfl, rfl, p.val M (.int _)⟩
  · cases r1; cases r2
    split at p
    · exact op_add_str pins s σ H _ _ v u Q I rx ry ⟨_, _, rfl, rfl, by assumption, p.val M (.str _)⟩
    · exact no_op p
  · cases r1 with
    | tup h1 t1 =>
      cases r2 with
      | tup h2 t2 =>
        split at p
        · rename_i hz
          refine op_catA pins s σ H _ _ v u Q I rx ry ⟨_, _, _, _, rfl, rfl, h1, h2, by rw [← t1.length, ← t2.length]; exact hz, fun e => ?_, fun _ e => ?_, fun _ _ a ha => p.tup M (t1.append t2) ha⟩
          · subst e
            cases t1
            exact p.val M (.tup h2 t2)
          · subst e
            cases t2
            refine p.val M (.tup h1 ?_)
            rw [List.append_nil]; exact t1
        · exact no_op p
  · cases r1 with
    | ref h1 =>
      cases r2 with
      | ref h2 =>
        split at p
        · rename_i xs ys e1 e2
          split at p
          · rename_i hz
            obtain ⟨vs, q1, t1⟩ := M.cell _ _ _ h1 e1
            obtain ⟨ws, q2, t2⟩ := M.cell _ _ _ h2 e2
            exact op_cat pins s σ H _ _ v u Q I rx ry ⟨_, _, _, _, rfl, rfl, q1, q2, by rw [← t1.length, ← t2.length]; exact hz, fun a ha => p.lst M (t1.append t2) ha⟩
          · exact no_op p
        · exact no_op p
  · exact no_op p
theorem x_sub : OpR X (binaryOp .Sub) (rd2 X.K oSub) := by
  intro pins s σ H x y v u Q I rx ry h
  obtain ⟨u1, u2, m, μ, r1, r2, M, p⟩ := h
  unfold oSub at p
  split at p
  · cases r1; cases r2
    exact op_sub pins s σ H _ _ v u Q I rx ry ⟨_, _, rfl, rfl, p.val M (.int _)⟩
  · exact no_op p
theorem mulOk_ok {i j : Int} (h : mulOk i j = true) : IntMulOk i j := by
  unfold mulOk at h
  rw [Bool.or_eq_true, Bool.or_eq_true] at h
  rcases h with (h | h) | h
  · have := of_decide_eq_true h; exact CMul.ok (.inl ⟨by omega, by omega⟩)
  · have := of_decide_eq_true h; exact CMul.ok (.inr ⟨by omega, by omega⟩)
  · exact CMulW.ok (show _ < 1000000 from of_decide_eq_true h)
theorem x_mul : OpR X (binaryOp .Mult) (rd2 X.K oMul) := by
  intro pins s σ H x y v u Q I rx ry h
  obtain ⟨u1, u2, m, μ, r1, r2, M, p⟩ := h
  unfold oMul at p
  split at p
  · cases r1; cases r2
    split at p
    · rename_i hz
      exact opI (C := fun i j => mulOk i j = true) (g := fun i j => i * j) (fun _ _ _ _ _ _ _ hc q => PyProof.Rows.mul_int q (mulOk_ok hc)) pins s σ H _ _ v u Q I rx ry ⟨_, _, rfl, rfl, hz, p.val M (.int _)⟩
    · exact no_op p
  · cases r1 with
    | ref h1 =>
      cases r2
      split at p
      · rename_i xs e1
        split at p
        · rename_i hz
          obtain ⟨vs, q1, t1⟩ := M.cell _ _ _ h1 e1
          exact op_rep pins s σ H _ _ v u Q I rx ry ⟨_, _, _, rfl, rfl, q1, hz.1, hz.2.1, by rw [← t1.length]; exact hz.2.2, fun a ha => p.lst M (t1.rep _) ha⟩
        · exact no_op p
      · exact no_op p
  · cases r1 with
    | tup h1 t1 =>
      cases r2
      split at p
      · rename_i hz
        exact op_repT pins s σ H _ _ v u Q I rx ry ⟨_, _, _, rfl, rfl, h1, (fun e => by subst e; have := t1.length; simp at this; simp [this] at hz), hz.2.2.1, hz.2.2.2, by have := t1.length; omega, fun a ha => p.tup M (t1.rep _) ha⟩
      · exact no_op p
  · exact no_op p
theorem x_div : OpR X (binaryOp .FloorDiv) (rd2 X.K oDiv) := by
  intro pins s σ H x y v u Q I rx ry h
  obtain ⟨u1, u2, m, μ, r1, r2, M, p⟩ := h
  unfold oDiv at p
  split at p
  · cases r1; cases r2
    split at p
    · rename_i hz
      exact op_fdivW pins s σ H _ _ v u Q I rx ry ⟨_, _, rfl, rfl, hz, p.val M (.int _)⟩
    · exact no_op p
  · exact no_op p
theorem x_mod : OpR X (binaryOp .Mod) (rd2 X.K oMod) := by
  intro pins s σ H x y v u Q I rx ry h
  obtain ⟨u1, u2, m, μ, r1, r2, M, p⟩ := h
  unfold oMod at p
  split at p
  · cases r1; cases r2
    split at p
    · rename_i hz
      exact op_mod pins s σ H _ _ v u Q I rx ry ⟨_, _, rfl, rfl, hz, p.val M (.int _)⟩
    · exact no_op p
  · exact no_op p
theorem x_pow : OpR X (binaryOp .Pow) (rd2 X.K oPow) := by
  intro pins s σ H x y v u Q I rx ry h
  obtain ⟨u1, u2, m, μ, r1, r2, M, p⟩ := h
  unfold oPow at p
  split at p
  · cases r1; cases r2
    split at p
    · rename_i hz
      exact opI (C := fun i j => 0 ≤ j ∧ (Builtin.Int.intBits i : Int) * j ≤ 2 ^ 27) (g := fun i j => i ^ j.toNat) (fun _ _ _ _ _ _ _ hc q => PyProof.Rows.pow_int hc.1 hc.2 q) pins s σ H _ _ v u Q I rx ry ⟨_, _, rfl, rfl, hz, p.val M (.int _)⟩
    · exact no_op p
  · exact no_op p
theorem x_neg : UnR X (unaryOp .USub) (rd1 X.K oNeg) := by
  intro pins s σ H x v Q I rx h
  obtain ⟨u1, m, μ, r1, M, p⟩ := h
  unfold oNeg at p
  split at p
  · cases r1
    exact un_neg pins s σ H _ v Q I rx ⟨_, rfl, p.val M (.int _)⟩
  · exact no_op p

/-! ### comparisons -/
def eqU (m : Mem) (u v : U) : Option Bool := match dat m u, dat m v with
  | some d, some e => if SeqAt.shaped d && SeqAt.shaped e then some (PyData.eqv d e) else none
  | _, _ => none
def oEq : U → U → Mem → O U := fun u v m => (eqU m u v).map fun b => (.bl b, m)
def oNe : U → U → Mem → O U := fun u v m => (eqU m u v).map fun b => (.bl (!b), m)
theorem eqU_of {m : Mem} {u v : U} {b : Bool} (h : eqU m u v = some b) : ∃ d e, dat m u = some d ∧ dat m v = some e ∧ SeqAt.shaped d = true ∧ SeqAt.shaped e = true ∧ b = PyData.eqv d e := by
  unfold eqU at h
  split at h
  · rename_i d e h1 h2
    split at h
    · rename_i hs
      rw [Bool.and_eq_true] at hs
      cases h
      exact ⟨d, e, h1, h2, hs.1, hs.2, rfl⟩
    · cases h
  · cases h
theorem x_eq (hu : X.A.units + 64 < cLine) : OpR X (compareOp .Eq) (rd2 X.K oEq) := by
  intro pins s σ H x y v u Q I rx ry h
  obtain ⟨u1, u2, m, μ, r1, r2, M, p⟩ := h
  unfold oEq at p
  cases e : eqU m u1 u2 with
  | none => rw [e] at p; exact no_op p
  | some b =>
    rw [e] at p
    obtain ⟨d, f, h1, h2, s1, s2, rfl⟩ := eqU_of e
    exact op_eqD hu pins s σ H _ _ v u Q I rx ry ⟨d, f, dat_ok M r1 h1, dat_ok M r2 h2, s1, s2, p.val M (.bl _)⟩
theorem x_ne (hu : X.A.units + 64 < cLine) : OpR X (compareOp .NotEq) (rd2 X.K oNe) := by
  intro pins s σ H x y v u Q I rx ry h
  obtain ⟨u1, u2, m, μ, r1, r2, M, p⟩ := h
  unfold oNe at p
  cases e : eqU m u1 u2 with
  | none => rw [e] at p; exact no_op p
  | some b =>
    rw [e] at p
    obtain ⟨d, f, h1, h2, s1, s2, rfl⟩ := eqU_of e
    exact op_neD hu pins s σ H _ _ v u Q I rx ry ⟨d, f, dat_ok M r1 h1, dat_ok M r2 h2, s1, s2, p.val M (.bl _)⟩
def oCmp (fi : Int → Int → Bool) (fs : List Nat → List Nat → Bool) : U → U → Mem → O U
  | .int i, .int j, m => some (.bl (fi i j), m)
  | .str x, .str y, m => some (.bl (fs x.cps.toList y.cps.toList), m)
  | _, _, _ => none
abbrev oLt := oCmp (fun i j => decide (i < j)) fun a b => decide (a < b)
abbrev oLe := oCmp (fun i j => decide (i ≤ j)) fun a b => !decide (b < a)
abbrev oGt := oCmp (fun i j => decide (j < i)) fun a b => decide (b < a)
abbrev oGe := oCmp (fun i j => decide (j ≤ i)) fun a b => !decide (a < b)
theorem x_cmp {op : CmpOp} {fi : Int → Int → Bool} {fs : List Nat → List Nat → Bool} (hi : OpR X (compareOp op) (rI0 fun i j => .bl (fi i j)))
    (hs : OpR X (compareOp op) (fun x y H Q => ∃ i j, x = .str i ∧ y = .str j ∧ Q (.bl (fs i.cps.toList j.cps.toList)) H)) : OpR X (compareOp op) (rd2 X.K (oCmp fi fs)) := by
  intro pins s σ H x y v u Q I rx ry h
  obtain ⟨u1, u2, m, μ, r1, r2, M, p⟩ := h
  unfold oCmp at p
  split at p
  · cases r1; cases r2
    exact hi pins s σ H _ _ v u Q I rx ry ⟨_, _, rfl, rfl, p.val M (.bl _)⟩
  · cases r1; cases r2
    exact hs pins s σ H _ _ v u Q I rx ry ⟨_, _, rfl, rfl, p.val M (.bl _)⟩
  · exact no_op p
theorem x_lt : OpR X (compareOp .Lt) (rd2 X.K oLt) := x_cmp op_lt op_lt_str
theorem x_le : OpR X (compareOp .LtE) (rd2 X.K oLe) := x_cmp op_le op_le_str
theorem x_gt : OpR X (compareOp .Gt) (rd2 X.K oGt) := x_cmp op_gt op_gt_str
theorem x_ge : OpR X (compareOp .GtE) (rd2 X.K oGe) := x_cmp op_ge op_ge_str
def isNon : U → Bool
  | .non => true
  | _ => false
/-- x is None -/
def oIsN : U → U → Mem → O U
  | .ob (.non), _, _ => none
  | u, .non, m => some (.bl (isNon u), m)
  | _, _, _ => none
def oNotN : U → U → Mem → O U
  | .ob (.non), _, _ => none
  | u, .non, m => some (.bl (!isNon u), m)
  | _, _, _ => none
theorem isNon_ok {K : PySem.W.Frag} {H : Hp} {μ : List Addr} {u : U} {x : V} (r : RU K H μ u x) (h : u ≠ .ob .non) : decide (x = .non) = isNon u := by
  cases r with
  | ob v =>
    have : x ≠ .non := fun e => h (by rw [e])
    rw [decide_eq_false this]; rfl
  | _ => rfl
theorem x_isN : OpR X (compareOp .Is) (rd2 X.K oIsN) := by
  intro pins s σ H x y v u Q I rx ry h
  obtain ⟨u1, u2, m, μ, r1, r2, M, p⟩ := h
  unfold oIsN at p
  split at p
  · exact no_op p
  · rename_i hn
    cases r2
    refine op_isN pins s σ H _ _ v u Q I rx ry ⟨rfl, ?_⟩
    rw [isNon_ok r1 hn]
    exact p.val M (.bl _)
  · exact no_op p
theorem x_notN : OpR X (compareOp .IsNot) (rd2 X.K oNotN) := by
  intro pins s σ H x y v u Q I rx ry h
  obtain ⟨u1, u2, m, μ, r1, r2, M, p⟩ := h
  unfold oNotN at p
  split at p
  · exact no_op p
  · rename_i hn
    cases r2
    refine op_notN pins s σ H _ _ v u Q I rx ry ⟨rfl, ?_⟩
    rw [isNon_ok r1 hn]
    exact p.val M (.bl _)
  · exact no_op p
end
end Ev

set_option Elab.async false
set_option linter.all false
set_option maxRecDepth 100000
set_option maxHeartbeats 2000000
/-! Ev: expressions. -/
namespace Ev
open PySem PySem.Spec L2

/-! ### what the pieces mean -/
def dSlot (i : Nat) : XD := fun ρ m => match ρ[i]? with
  | some (some u) => .ok u m
  | _ => .bad
def dC (u : U) : XD := fun _ m => .ok u m
def dOp (F : U → U → Mem → O U) (fa fb : XD) : XD := fun ρ m => (fa ρ m).bind fun u m1 => (fb ρ m1).bind fun v m2 => ofO (F u v m2)
def dUn (F : U → Mem → O U) (fa : XD) : XD := fun ρ m => (fa ρ m).bind fun u m1 => ofO (F u m1)
def dChain (F F' : U → U → Mem → O U) (fa fb fc : XD) : XD := fun ρ m => (fa ρ m).bind fun u m1 => (fb ρ m1).bind fun v m2 => (ofO (F u v m2)).bind fun z m3 => match z with
  | .bl true => (fc ρ m3).bind fun t m4 => ofO (F' v t m4)
  | .bl false => .ok (.bl false) m3
  | _ => .bad
/-- True or False, nothing else -/
def asB {α : Type} (z : U) (k : Bool → R α) : R α := match z with
  | .bl b => k b
  | _ => .bad
def dAnd (fa fb : XD) : XD := fun ρ m => (fa ρ m).bind fun z m1 => asB z fun b => if b then fb ρ m1 else .ok (.bl false) m1
def dOr (fa fb : XD) : XD := fun ρ m => (fa ρ m).bind fun z m1 => asB z fun b => if b then .ok (.bl true) m1 else fb ρ m1
def dNot (fa : XD) : XD := fun ρ m => (fa ρ m).bind fun z m1 => asB z fun b => .ok (.bl (!b)) m1
def dIf (t : XT) (fa fb : XD) : XD := fun ρ m => (t ρ m).bind fun b m1 => if b then fa ρ m1 else fb ρ m1
def lNil : XL := fun _ m => .ok [] m
def lCons (fa : XD) (fr : XL) : XL := fun ρ m => (fa ρ m).bind fun u m1 => (fr ρ m1).bind fun us m2 => .ok (u :: us) m2
def oTup (us : List U) (m : Mem) : O U := if us.length ≤ sizeLine then some (.tup us, m) else none
def oLst (us : List U) (m : Mem) : O U := if us.length ≤ sizeLine then some (.ref m.length, m ++ [.lst us]) else none
def dTup (fr : XL) : XD := fun ρ m => (fr ρ m).bind fun us m1 => ofO (oTup us m1)
def dLst (fr : XL) : XD := fun ρ m => (fr ρ m).bind fun us m1 => ofO (oLst us m1)
def dCall (F : List U → Mem → R U) (fr : XL) : XD := fun ρ m => (fr ρ m).bind fun us m1 => F us m1
def dB (F : List U → Mem → O U) (fr : XL) : XD := fun ρ m => (fr ρ m).bind fun us m1 => ofO (F us m1)
def pNone : Env → Mem → R (Option Int) := fun _ m => .ok none m
def pSome (fa : XD) : Env → Mem → R (Option Int) := fun ρ m => (fa ρ m).bind fun z m1 => match z with
  | .int i => .ok (some i) m1
  | _ => .bad
def cutU (xs : List U) (lo hi : Option Int) : List U := (xs.drop (HT.sIx xs.length 0 lo)).take (HT.sIx xs.length xs.length hi - HT.sIx xs.length 0 lo)
def oSlice (u : U) (lo hi : Option Int) (m : Mem) : O U := match u with
  | .tup us => some (.tup (cutU us lo hi), m)
  | .str z => if z.length ≤ sizeLine then some (.str (cutS z lo hi), m) else none
  | u => match itemsOf m u with
    | some us => some (.ref m.length, m ++ [.lst (cutU us lo hi)])
    | none => none
def dSlice (fa : XD) (lo hi : Env → Mem → R (Option Int)) : XD := fun ρ m => (fa ρ m).bind fun u m1 => (lo ρ m1).bind fun l m2 => (hi ρ m2).bind fun h m3 => ofO (oSlice u l h m3)
def oIx : U → U → Mem → O U
  | .str z, .int i, m => if z.length ≤ sizeLine then (atI z.cps.toList i).map fun c => (.str ⟨#[c]⟩, m) else none
  | u, .int i, m => match itemsOf m u with
    | some us => (atI us i).map fun x => (x, m)
    | none => none
  | _, _, _ => none
/-- truth -/
def truU (m : Mem) : U → Option Bool
  | .non => some false
  | .bl b => some b
  | .int i => some (i != 0)
  | .str z => if z.length ≤ sizeLine then some (z.length != 0) else none
  | .tup us => some (!us.isEmpty)
  | .rol us => some (!us.isEmpty)
  | .ref n => match m[n]? with
    | some (.lst us) => some (!us.isEmpty)
    | some (.dK kvs) => some (!kvs.isEmpty)
    | _ => none
  | .ob _ => none
def ofB {α : Type} (o : Option α) (m : Mem) : R α := match o with
  | some a => .ok a m
  | none => .bad
def tTru (fa : XD) : XT := fun ρ m => (fa ρ m).bind fun z m1 => ofB (truU m1 z) m1
def tBl (fa : XD) : XT := fun ρ m => (fa ρ m).bind fun z m1 => asB z fun b => .ok b m1
def tAn (t u : XT) : XT := fun ρ m => (t ρ m).bind fun b m1 => if b then u ρ m1 else .ok false m1
def tO (t u : XT) : XT := fun ρ m => (t ρ m).bind fun b m1 => if b then .ok true m1 else u ρ m1
def tN (t : XT) : XT := fun ρ m => (t ρ m).bind fun b m1 => .ok (!b) m1

/-! ### they are so -/
section
variable {X : Cx} {c : Nat → Addr} {W : WX} {a b d : Expr} {fa fb fc : XD} {ta tb : XT} {pos : Pos} {fr : XL} {es : List Expr}
theorem se_slot {i : Nat} {x : Str} {pos : Pos} (hN : X.N[i]? = some x) (hv : Vis X.env.scope x) (hd : (x == ("__debug__" : Str)) = false := by decide) (hcd : (x == ("__classdict__" : Str)) = false := by decide) : SE X c W (.Name x pos) (dSlot i) :=
  (pe_var hN hv hd hcd).imp fun σ H Q ⟨ρ, m, μ, E, M, p⟩ => by
    unfold dSlot at p
    split at p
    · rename_i u e
      obtain ⟨v, h1, h2⟩ := E.at_ i u e
      exact ⟨v, h1, p.ok_at M v h2⟩
    · exact False.elim p
theorem se_c {e : Expr} {v : V} {u : U} (h : PE X e (tC v)) (r : ∀ H μ, RU X.K H μ u v) : SE X c W e (dC u) :=
  h.imp fun σ H Q ⟨ρ, m, μ, E, M, p⟩ => p.ok_at M v (r H μ)
theorem se_int {i : Int} {j pos} : SE X c W (.Constant (.int i) j pos) (dC (.int i)) := se_c pe_int fun _ _ => .int i
theorem se_bl {i : Bool} {j pos} : SE X c W (.Constant (.bool i) j pos) (dC (.bl i)) := se_c pe_bl fun _ _ => .bl i
theorem se_non {j pos} : SE X c W (.Constant .none j pos) (dC .non) := se_c pe_non fun _ _ => .non
theorem se_str {x y : Str} {j pos} (h : x = y) : SE X c W (.Constant (.str x) j pos) (dC (.str y)) := by subst h; exact se_c pe_str fun _ _ => .str x
theorem rd2_of {F : U → U → Mem → O U} {σ : L2.St} {H : Hp} {Q : VK} {ρ : Env} {m : Mem} {μ : List Addr} (E : EOk X.K H μ ρ σ) (M : MOk X.K H μ m)
    (p : Post (wX X c) W σ μ H (dOp F fa fb ρ m) fun μ' H' _ u => ∀ v, RU X.K H' μ' u v → Q v H') : tOp (rd2 X.K F) (rdE (wX X c) W fa) (rdE (wX X c) W fb) σ H Q :=
  ⟨ρ, m, μ, E, M, p.bind.imp fun μ1 H1 m1 u s1 M1 p1 v r1 => ⟨ρ, m1, μ1, E.step s1, M1, p1.bind.imp fun μ2 H2 m2 u2 s2 M2 p2 v2 r2 => ⟨u, u2, m2, μ2, r1.step s2, r2, M2, p2.o⟩⟩⟩
theorem se_op {op : Operator} {F : U → U → Mem → O U} (ho : OpR X (binaryOp op) (rd2 X.K F)) (ha : SE X c W a fa) (hb : SE X c W b fb) : SE X c W (.BinOp a op b pos) (dOp F fa fb) :=
  (pe_op ho ha hb).imp fun σ H Q ⟨ρ, m, μ, E, M, p⟩ => rd2_of E M p
theorem se_cmp {op : CmpOp} {F : U → U → Mem → O U} (ho : OpR X (compareOp op) (rd2 X.K F)) (ha : SE X c W a fa) (hb : SE X c W b fb) (hm : behindInMarks op b = false) : SE X c W (.Compare a [op] [b] pos) (dOp F fa fb) :=
  (pe_cmpR ho ha hb hm).imp fun σ H Q ⟨ρ, m, μ, E, M, p⟩ => rd2_of E M p
theorem se_un {op : UnaryOp} {F : U → Mem → O U} (ho : UnR X (unaryOp op) (rd1 X.K F)) (ha : SE X c W a fa) : SE X c W (.UnaryOp op a pos) (dUn F fa) :=
  (pe_un ho ha).imp fun σ H Q ⟨ρ, m, μ, E, M, p⟩ => ⟨ρ, m, μ, E, M, p.bind.imp fun μ1 H1 m1 u s1 M1 p1 v r1 => ⟨u, m1, μ1, r1, M1, p1.o⟩⟩
theorem se_chain {op op' : CmpOp} {F F' : U → U → Mem → O U} (ho : OpR X (compareOp op) (rd2 X.K F)) (ho' : OpR X (compareOp op') (rd2 X.K F')) (ha : SE X c W a fa) (hb : SE X c W b fb) (hc : SE X c W d fc)
    (hm : lastMarks [op, op'] [b, d] = false := by with_unfolding_all rfl) : SE X c W (.Compare a [op, op'] [b, d] pos) (dChain F F' fa fb fc) :=
  (pe_chain ho ho' ha hb hc hm).imp fun σ H Q ⟨ρ, m, μ, E, M, p⟩ => ⟨ρ, m, μ, E, M, p.bind.imp fun μ1 H1 m1 u s1 M1 p1 v r1 => ⟨ρ, m1, μ1, E.step s1, M1, p1.bind.imp fun μ2 H2 m2 u2 s2 M2 p2 v2 r2 =>
    ⟨u, u2, m2, μ2, r1.step s2, r2, M2, by
      have q := p2.bind
      cases e : F u u2 m2 with
      | none => rw [e] at q; exact False.elim q
      | some zm =>
        obtain ⟨z, m3⟩ := zm
        rw [e] at q
        refine fun μ3 H3 s3 M3 w rw_ => ?_
        have q3 := q μ3 H3 s3 M3
        cases z with
        | bl k =>
          cases rw_
          refine ⟨k, rfl, ?_⟩
          cases k with
          | false => exact q3.ok_at M3 _ (.bl false)
          | true =>
            refine ⟨ρ, m3, μ3, ((E.step s1).step s2).step s3, M3, (Post.bind q3).imp fun μ4 H4 m4 t s4 M4 p4 v4 r4 => ?_⟩
            exact ⟨u2, t, m4, μ4, (r2.step s3).step s4, r4, M4, p4.o⟩
        | _ => exact False.elim q3⟩⟩⟩
theorem asB_post {α : Type} {w : W0} {σ : L2.St} {μ : List Addr} {H : Hp} {z : U} {k : Bool → R α} {P : List Addr → Hp → Mem → α → Prop} (p : Post w W σ μ H (asB z k) P) : ∃ b, z = .bl b ∧ Post w W σ μ H (k b) P := by
  cases z with
  | bl b => exact ⟨b, rfl, p⟩
  | _ => exact False.elim p
theorem se_one {op} (h : SE X c W a fa) : SE X c W (.BoolOp op [a] pos) fa := pe_one h
theorem se_and {rest : List Expr} (ha : SE X c W a fa) (hb : SE X c W (.BoolOp .And (b :: rest) pos) fb) : SE X c W (.BoolOp .And (a :: b :: rest) pos) (dAnd fa fb) :=
  (pe_and ha hb).imp fun σ H Q ⟨ρ, m, μ, E, M, p⟩ => ⟨ρ, m, μ, E, M, p.bind.imp fun μ1 H1 m1 u s1 M1 p1 v r1 => by
    obtain ⟨k, e, p2⟩ := asB_post p1
    subst e
    cases r1
    refine ⟨k, rfl, ?_⟩
    cases k with
    | true => exact ⟨ρ, m1, μ1, E.step s1, M1, p2⟩
    | false => exact p2.ok_at M1 _ (.bl false)⟩
theorem se_or {rest : List Expr} (ha : SE X c W a fa) (hb : SE X c W (.BoolOp .Or (b :: rest) pos) fb) : SE X c W (.BoolOp .Or (a :: b :: rest) pos) (dOr fa fb) :=
  (pe_or ha hb).imp fun σ H Q ⟨ρ, m, μ, E, M, p⟩ => ⟨ρ, m, μ, E, M, p.bind.imp fun μ1 H1 m1 u s1 M1 p1 v r1 => by
    obtain ⟨k, e, p2⟩ := asB_post p1
    subst e
    cases r1
    refine ⟨k, rfl, ?_⟩
    cases k with
    | false => exact ⟨ρ, m1, μ1, E.step s1, M1, p2⟩
    | true => exact p2.ok_at M1 _ (.bl true)⟩
theorem se_not (ha : SE X c W a fa) : SE X c W (.UnaryOp .Not a pos) (dNot fa) :=
  (pe_not ha).imp fun σ H Q ⟨ρ, m, μ, E, M, p⟩ => ⟨ρ, m, μ, E, M, p.bind.imp fun μ1 H1 m1 u s1 M1 p1 v r1 => by
    obtain ⟨k, e, p2⟩ := asB_post p1
    subst e
    cases r1
    exact ⟨k, rfl, p2.ok_at M1 _ (.bl _)⟩⟩
theorem se_if (ht : ST X c W d ta) (ha : SE X c W a fa) (hb : SE X c W b fb) : SE X c W (.IfExp d a b pos) (dIf ta fa fb) :=
  (pe_ifExp ht ha hb).imp fun σ H Q ⟨ρ, m, μ, E, M, p⟩ => ⟨ρ, m, μ, E, M, p.bind.imp fun μ1 H1 m1 k s1 M1 p1 => by
    cases k with
    | true => exact ⟨ρ, m1, μ1, E.step s1, M1, p1⟩
    | false => exact ⟨ρ, m1, μ1, E.step s1, M1, p1⟩⟩
theorem sl_nil : SL X c W [] lNil := pa_nil.imp fun σ H Q ⟨ρ, m, μ, E, M, p⟩ => p.ok_at M _ .nil
theorem sl_cons (ha : SE X c W a fa) (hr : SL X c W es fr) (hs : starEach (a :: es) X.env = (false, eval a X.env) :: starEach es X.env := by rfl) : SL X c W (a :: es) (lCons fa fr) :=
  (pa_cons ha hr hs).imp fun σ H Q ⟨ρ, m, μ, E, M, p⟩ => ⟨ρ, m, μ, E, M, p.bind.imp fun μ1 H1 m1 u s1 M1 p1 v r1 => ⟨ρ, m1, μ1, E.step s1, M1, p1.bind.imp fun μ2 H2 m2 us s2 M2 p2 vs rs =>
    p2.ok_at M2 _ (.cons (r1.step s2) rs)⟩⟩
theorem se_tup {x1} (h : SL X c W es fr) : SE X c W (.Tuple es x1 pos) (dTup fr) :=
  (pe_tup h).imp fun σ H Q ⟨ρ, m, μ, E, M, p⟩ => ⟨ρ, m, μ, E, M, p.bind.imp fun μ1 H1 m1 us s1 M1 p1 vs rs => by
    have q := p1.o
    unfold oTup at q
    split at q
    · rename_i hz
      exact ⟨by rw [← rs.length]; exact hz, fun a ha => q.tup M1 rs ha⟩
    · exact no_op q⟩
theorem se_lst (h : SL X c W es fr) : SE X c W (.List es pos) (dLst fr) :=
  (pe_lst h).imp fun σ H Q ⟨ρ, m, μ, E, M, p⟩ => ⟨ρ, m, μ, E, M, p.bind.imp fun μ1 H1 m1 us s1 M1 p1 vs rs => by
    have q := p1.o
    unfold oLst at q
    split at q
    · rename_i hz
      exact ⟨by rw [← rs.length]; exact hz, fun a ha => q.lst M1 rs ha⟩
    · exact no_op q⟩
theorem atI_u {K : PySem.W.Frag} {H : Hp} {μ : List Addr} {us : List U} {vs : List V} {i : Int} {x : U} (r : RUs K H μ us vs) (h : atI us i = some x) : ∃ v, atI vs i = some v ∧ RU K H μ x v := by
  unfold atI at h ⊢
  rw [← r.length]
  cases e : ixN us.length i with
  | none => rw [e] at h; cases h
  | some j =>
    rw [e] at h
    obtain ⟨v, h1, h2⟩ := r.get (i := j) (u := x) h
    exact ⟨v, h1, h2⟩
theorem x_ix : IxR X (rd2 X.K oIx) := by
  intro value slice pins s σ H x y v u Q I rx ry h hs
  obtain ⟨u1, u2, m, μ, r1, r2, M, p⟩ := h
  unfold oIx at p
  split at p
  · cases r1; cases r2
    split at p
    · rename_i hz
      cases e : atI _ _ with
      | none => rw [e] at p; exact no_op p
      | some k =>
        rw [e] at p
        exact ix_str value slice pins s σ H _ _ v u Q I rx ry ⟨_, _, k, rfl, rfl, hz, e, p.val M (.str _)⟩ hs
    · exact no_op p
  · cases r2
    split at p
    · rename_i us e1
      cases e : atI us _ with
      | none => rw [e] at p; exact no_op p
      | some k =>
        rw [e] at p
        obtain ⟨a, vs, rfl, hq, t, _, _⟩ := items_ok M r1 e1
        obtain ⟨z, h1, h2⟩ := atI_u t e
        rcases hq with hq | hq
        · exact ix_list value slice pins s σ H _ _ v u Q I rx ry ⟨_, _, _, z, rfl, rfl, hq, h1, p.val M h2⟩ hs
        · exact ix_tup value slice pins s σ H _ _ v u Q I rx ry ⟨_, _, _, z, rfl, rfl, hq, h1, p.val M h2⟩ hs
    · exact no_op p
  · exact no_op p
theorem se_ix (ha : SE X c W a fa) (hb : SE X c W b fb) (hs : PlainIx b) : SE X c W (.Subscript a b pos) (dOp oIx fa fb) :=
  (pe_ix x_ix ha hb hs).imp fun σ H Q ⟨ρ, m, μ, E, M, p⟩ => rd2_of E M p
/-! slices -/
def rdP (w : W0) (W : WX) (f : Env → Mem → R (Option Int)) : TO := fun σ H Q => ∃ ρ m μ, EOk w.K H μ ρ σ ∧ MOk w.K H μ m ∧ Post w W σ μ H (f ρ m) fun _ H' _ o => Q o H'
abbrev SP (X : Cx) (c : Nat → Addr) (W : WX) (e : Option Expr) (f : Env → Mem → R (Option Int)) : Prop := PO X e (rdP (wX X c) W f)
theorem _root_.L2.PO.imp {e : Option Expr} {t t' : TO} (h : PO X e t) (i : ∀ σ H Q, t' σ H Q → t σ H Q) : PO X e t' := ⟨fun p s σ H Q I q => h.run p s σ H Q I (i _ _ _ q)⟩
theorem sp_none : SP X c W none pNone := L2.PO.imp po_none fun σ H Q ⟨ρ, m, μ, E, M, p⟩ => p.ok_at M
theorem sp_some (h : SE X c W a fa) : SP X c W (some a) (pSome fa) := L2.PO.imp (po_some h) fun σ H Q ⟨ρ, m, μ, E, M, p⟩ => ⟨ρ, m, μ, E, M, p.bind.imp fun μ1 H1 m1 u s1 M1 p1 v r1 => by
  cases r1 with
  | int i => exact ⟨i, rfl, p1.ok_at M1⟩
  | _ => exact False.elim p1⟩
theorem cutU_ok {K : PySem.W.Frag} {H : Hp} {μ : List Addr} {us : List U} {vs : List V} (r : RUs K H μ us vs) (lo hi : Option Int) : RUs K H μ (cutU us lo hi) (cutV vs lo hi) := by
  unfold cutU cutV
  rw [← r.length]
  exact (r.drop _).take _
def rdSl (K : PySem.W.Frag) : V → Option Int → Option Int → Hp → VK → Prop := fun x lo hi H Q => ∃ u m μ, RU K H μ u x ∧ MOk K H μ m ∧ PostO K μ H (oSlice u lo hi m) fun μ' H' _ z => ∀ v, RU K H' μ' z v → Q v H'
theorem sIx_whole {n : Nat} {lo hi : Option Int} {α : Type} {xs : List α} (hn : xs.length = n) (h : HT.sIx n 0 lo = 0 ∧ HT.sIx n n hi = n) : (xs.drop (HT.sIx n 0 lo)).take (HT.sIx n n hi - HT.sIx n 0 lo) = xs := by
  rw [h.1, h.2, List.drop_zero, Nat.sub_zero, ← hn, List.take_length]
theorem x_slice : SlR X (rdSl X.K) := by
  intro pins s σ H x v vl vu lo hi sl Q I rx hs pl pu h
  obtain ⟨u, m, μ, r1, M, p⟩ := h
  unfold oSlice at p
  split at p
  · cases r1 with
    | tup hq t =>
      refine sl_tupA pins s σ H _ v vl vu lo hi sl Q I rx hs pl pu ⟨_, _, rfl, hq, fun hw => p.val M (.tup hq ?_), fun _ a ha => p.tup M (cutU_ok t lo hi) ha⟩
      rw [← t.length] at hw
      rw [cutU, sIx_whole rfl hw]
      exact t
  · cases r1
    split at p
    · rename_i hz
      exact sl_str pins s σ H _ v vl vu lo hi sl Q I rx hs pl pu ⟨_, rfl, hz, p.val M (.str _)⟩
    · exact no_op p
  · rename_i hn1 hn2
    split at p
    · rename_i us e1
      obtain ⟨a, vs, rfl, hq, t, _, h3⟩ := items_ok M r1 e1
      have hT : isT u = false := by
        cases u with
        | tup us => exact absurd rfl (hn1 us)
        | _ => rfl
      exact sl_list pins s σ H _ v vl vu lo hi sl Q I rx hs pl pu ⟨_, _, rfl, h3 hT, fun a ha => p.lst M (cutU_ok t lo hi) ha⟩
    · exact no_op p
theorem se_slice {lo hi : Option Expr} {fl fh : Env → Mem → R (Option Int)} {p2 : Pos} (he : SE X c W a fa) (hl : SP X c W lo fl) (hu : SP X c W hi fh) : SE X c W (.Subscript a (.Slice lo hi none p2) pos) (dSlice fa fl fh) :=
  (pe_slice x_slice he hl hu).imp fun σ H Q ⟨ρ, m, μ, E, M, p⟩ => ⟨ρ, m, μ, E, M, p.bind.imp fun μ1 H1 m1 u s1 M1 p1 v r1 => ⟨ρ, m1, μ1, E.step s1, M1, p1.bind.imp fun μ2 H2 m2 l s2 M2 p2 =>
    ⟨ρ, m2, μ2, (E.step s1).step s2, M2, p2.bind.imp fun μ3 H3 m3 h s3 M3 p3 => ⟨u, m3, μ3, (r1.step s2).step s3, M3, p3.o⟩⟩⟩⟩
/-! tests -/
theorem tru_u {K : PySem.W.Frag} {H : Hp} {μ : List Addr} {m : Mem} (M : MOk K H μ m) {u : U} {v : V} {k : Bool} (r : RU K H μ u v) (h : truU m u = some k) : TruV K v H k := by
  cases r with
  | non => cases h; rfl
  | bl b => cases h; rfl
  | int i => cases h; rfl
  | str x =>
    rw [truU] at h
    split at h
    · rename_i hz
      cases h
      refine ⟨hz, ?_⟩
      rw [Bool.eq_iff_iff]; simp
    · cases h
  | tup hq t =>
    cases h
    refine .inr (.inl ⟨_, hq, ?_⟩)
    cases t <;> rfl
  | rol hq t =>
    cases h
    refine .inl ⟨_, rol_sq hq, ?_⟩
    cases t <;> rfl
  | @ref n a hn =>
    rw [truU] at h
    split at h
    · rename_i us e
      cases h
      obtain ⟨vs, q, t⟩ := M.cell n a _ hn e
      refine .inl ⟨vs, SqL.of q, ?_⟩
      cases t <;> rfl
    · rename_i kvs e
      cases h
      obtain ⟨vs, q, t⟩ := M.cell n a _ hn e
      refine .inr (.inr ⟨vs, q, ?_⟩)
      cases t <;> rfl
    · cases h
  | ob v => cases h
theorem st_tru (ha : SE X c W a fa) (he : ∀ whole, isTrue a X.env whole = (do let v ← whole; standAt a.pos; holding [v] (truthy v))) : ST X c W a (tTru fa) :=
  (pt_truth ha he).imp fun σ H Q ⟨ρ, m, μ, E, M, p⟩ => ⟨ρ, m, μ, E, M, p.bind.imp fun μ1 H1 m1 u s1 M1 p1 v r1 => by
    cases e : truU m1 u with
    | none => rw [e] at p1; exact False.elim p1
    | some k =>
      rw [e] at p1
      exact ⟨k, tru_u M1 r1 e, p1.ok_at M1⟩⟩
theorem st_bl (ha : SE X c W a fa) (he : ∀ whole, isTrue a X.env whole = (do let v ← whole; standAt a.pos; holding [v] (truthy v)) := by intro _; rfl) : ST X c W a (tBl fa) :=
  (pt_val ha he).imp fun σ H Q ⟨ρ, m, μ, E, M, p⟩ => ⟨ρ, m, μ, E, M, p.bind.imp fun μ1 H1 m1 u s1 M1 p1 v r1 => by
    obtain ⟨k, e, p2⟩ := asB_post p1
    subst e
    cases r1
    exact ⟨k, rfl, p2.ok_at M1⟩⟩
theorem rdB_of {t : TE} {f : XD} (h : ∀ σ H Q, rdE (wX X c) W f σ H Q → t σ H Q) {σ : L2.St} {H : Hp} {Q : Bool → Hp → Prop} (q : rdT (wX X c) W (tBl f) σ H Q) : tTest t σ H Q := by
  obtain ⟨ρ, m, μ, E, M, p⟩ := q
  refine h σ H _ ⟨ρ, m, μ, E, M, p.bind.imp fun μ1 H1 m1 u s1 M1 p1 v r1 => ?_⟩
  obtain ⟨k, e, p2⟩ := asB_post p1
  subst e
  cases r1
  exact ⟨k, rfl, p2.ok_at M1⟩
theorem st_cmp {op : CmpOp} {F : U → U → Mem → O U} (ho : OpR X (compareOp op) (rd2 X.K F)) (ha : SE X c W a fa) (hb : SE X c W b fb) (hm : behindInMarks op b = false) : ST X c W (.Compare a [op] [b] pos) (tBl (dOp F fa fb)) :=
  (pt_cmpR ho ha hb hm).imp fun σ H Q q => rdB_of (fun σ H Q ⟨ρ, m, μ, E, M, p⟩ => rd2_of E M p) q
theorem chain_of {F F' : U → U → Mem → O U} {σ : L2.St} {H : Hp} {Q : VK} (h : rdE (wX X c) W (dChain F F' fa fb fc) σ H Q) : tChain (rd2 X.K F) (rd2 X.K F') (rdE (wX X c) W fa) (rdE (wX X c) W fb) (rdE (wX X c) W fc) σ H Q := by
  obtain ⟨ρ, m, μ, E, M, p⟩ := h
  exact ⟨ρ, m, μ, E, M, p.bind.imp fun μ1 H1 m1 u s1 M1 p1 v r1 => ⟨ρ, m1, μ1, E.step s1, M1, p1.bind.imp fun μ2 H2 m2 u2 s2 M2 p2 v2 r2 =>
    ⟨u, u2, m2, μ2, r1.step s2, r2, M2, by
      have q := p2.bind
      cases e : F u u2 m2 with
      | none => rw [e] at q; exact False.elim q
      | some zm =>
        obtain ⟨z, m3⟩ := zm
        rw [e] at q
        refine fun μ3 H3 s3 M3 w rw_ => ?_
        have q3 := q μ3 H3 s3 M3
        cases z with
        | bl k =>
          cases rw_
          refine ⟨k, rfl, ?_⟩
          cases k with
          | false => exact q3.ok_at M3 _ (.bl false)
          | true =>
            refine ⟨ρ, m3, μ3, ((E.step s1).step s2).step s3, M3, (Post.bind q3).imp fun μ4 H4 m4 t s4 M4 p4 v4 r4 => ?_⟩
            exact ⟨u2, t, m4, μ4, (r2.step s3).step s4, r4, M4, p4.o⟩
        | _ => exact False.elim q3⟩⟩⟩
theorem st_chain {op op' : CmpOp} {F F' : U → U → Mem → O U} (ho : OpR X (compareOp op) (rd2 X.K F)) (ho' : OpR X (compareOp op') (rd2 X.K F')) (ha : SE X c W a fa) (hb : SE X c W b fb) (hc : SE X c W d fc)
    (hm : lastMarks [op, op'] [b, d] = false := by with_unfolding_all rfl) : ST X c W (.Compare a [op, op'] [b, d] pos) (tBl (dChain F F' fa fb fc)) :=
  (pt_chain ho ho' ha hb hc hm).imp fun σ H Q q => rdB_of (fun σ H Q h => chain_of h) q
theorem st_not (ha : ST X c W a ta) : ST X c W (.UnaryOp .Not a pos) (tN ta) :=
  (pt_not ha).imp fun σ H Q ⟨ρ, m, μ, E, M, p⟩ => ⟨ρ, m, μ, E, M, p.bind.imp fun μ1 H1 m1 k s1 M1 p1 => p1.ok_at M1⟩
abbrev SW (X : Cx) (c : Nat → Addr) (W : WX) (e : Expr) (f : XT) : Prop := PW X e (rdT (wX X c) W f)
theorem sw_and1 (ha : ST X c W a ta) : SW X c W (.BoolOp .And [a] pos) ta := pw_and1 ha
theorem sw_or1 (ha : ST X c W a ta) : SW X c W (.BoolOp .Or [a] pos) ta := pw_or1 ha
theorem sw_and {rest : List Expr} (ha : ST X c W a ta) (hb : SW X c W (.BoolOp .And (b :: rest) pos) tb) : SW X c W (.BoolOp .And (a :: b :: rest) pos) (tAn ta tb) :=
  (pw_and ha hb).imp fun σ H Q ⟨ρ, m, μ, E, M, p⟩ => ⟨ρ, m, μ, E, M, p.bind.imp fun μ1 H1 m1 k s1 M1 p1 => by
    cases k with
    | true => exact ⟨ρ, m1, μ1, E.step s1, M1, p1⟩
    | false => exact p1.ok_at M1⟩
theorem sw_or {rest : List Expr} (ha : ST X c W a ta) (hb : SW X c W (.BoolOp .Or (b :: rest) pos) tb) : SW X c W (.BoolOp .Or (a :: b :: rest) pos) (tO ta tb) :=
  (pw_or ha hb).imp fun σ H Q ⟨ρ, m, μ, E, M, p⟩ => ⟨ρ, m, μ, E, M, p.bind.imp fun μ1 H1 m1 k s1 M1 p1 => by
    cases k with
    | false => exact ⟨ρ, m1, μ1, E.step s1, M1, p1⟩
    | true => exact p1.ok_at M1⟩
theorem st_w (h : SW X c W a ta) : ST X c W a ta := h.pt
end
end Ev

set_option Elab.async false
set_option linter.all false
set_option maxRecDepth 100000
set_option maxHeartbeats 2000000
/-! Ev: statements. -/
namespace Ev
open PySem PySem.Spec L2

inductive Fl where
  | nx | rt (u : U) | bk | ct
inductive RS where
  | ok (f : Fl) (ρ : Env) (m : Mem) | err (x : Ex) (ρ : Env) (m : Mem) | bad
abbrev SD := Env → Mem → RS
def PostS (w : W0) (W : WX) (μ : List Addr) (H : Hp) (r : RS) (D : Ends) : Prop := match r with
  | .ok f ρ' m' => ∀ μ' H' σ', Step w.K μ H μ' H' → MOk w.K H' μ' m' → EOk w.K H' μ' ρ' σ' → match f with
    | .nx => D.nx σ' H'
    | .bk => D.bk σ' H'
    | .ct => D.ct σ' H'
    | .rt u => ∀ v, RU w.K H' μ' u v → D.rt v H'
  | .err x ρ' m' => ∀ μ' H' σ' d, Step w.K μ H μ' H' → MOk w.K H' μ' m' → EOk w.K H' μ' ρ' σ' → ExOk w.K H' μ' x d → W (.ref (w.cls x.cls)) d σ' H'
  | .bad => False
def rdS (w : W0) (W : WX) (f : SD) : TS := fun D σ H => ∃ ρ m μ, EOk w.K H μ ρ σ ∧ MOk w.K H μ m ∧ PostS w W μ H (f ρ m) D
abbrev SS (X : Cx) (c : Nat → Addr) (W : WX) (s : Stmt) (f : SD) : Prop := PS X s (rdS (wX X c) W f)
abbrev SB (X : Cx) (c : Nat → Addr) (W : WX) (s : List Stmt) (f : SD) : Prop := PSs X s (rdS (wX X c) W f)
theorem _root_.L2.PS.imp {X : Cx} {e : Stmt} {t t' : TS} (h : PS X e t) (i : ∀ D σ H, t' D σ H → t D σ H) : PS X e t' := ⟨fun p s σ H D I q => h.run p s σ H D I (i _ _ _ q)⟩
theorem _root_.L2.PSs.imp {X : Cx} {e : List Stmt} {t t' : TS} (h : PSs X e t) (i : ∀ D σ H, t' D σ H → t D σ H) : PSs X e t' := ⟨fun p s σ H D I q => h.run p s σ H D I (i _ _ _ q)⟩
/-- an expression's result, what follows it -/
def thenE {α : Type} (r : R α) (ρ : Env) (k : α → Mem → RS) : RS := match r with
  | .ok a m => k a m
  | .err x m => .err x ρ m
  | .bad => .bad
def thenO {α : Type} (r : O α) (k : α → Mem → RS) : RS := match r with
  | some (a, m) => k a m
  | none => .bad
def thenS (r : RS) (k : Env → Mem → RS) : RS := match r with
  | .ok .nx ρ m => k ρ m
  | .ok f ρ m => .ok f ρ m
  | .err x ρ m => .err x ρ m
  | .bad => .bad
section
variable {w : W0} {W : WX} {σ : L2.St} {μ μ' : List Addr} {H H' : Hp} {α β : Type}
theorem PostS.from {r : RS} {D : Ends} (p : PostS w W μ H r D) (s : Step w.K μ H μ' H') : PostS w W μ' H' r D := by
  cases r with
  | ok f ρ m => exact fun μ2 H2 σ2 s2 M E => p μ2 H2 σ2 (s.trans s2) M E
  | err x ρ m => exact fun μ2 H2 σ2 d s2 M E e => p μ2 H2 σ2 d (s.trans s2) M E e
  | bad => exact p
theorem PostS.thenE {r : R α} {ρ : Env} {k : α → Mem → RS} {D : Ends} (E : EOk w.K H μ ρ σ) (p : PostS w W μ H (thenE r ρ k) D) : Post w W σ μ H r fun μ1 H1 m1 a => PostS w W μ1 H1 (k a m1) D := by
  cases r with
  | ok a m => exact fun μ1 H1 s1 M1 => PostS.from p s1
  | err x m => exact fun μ1 H1 d s1 M1 e => p μ1 H1 σ d s1 M1 (E.step s1) e
  | bad => exact p
theorem PostS.thenO {r : O α} {k : α → Mem → RS} {D : Ends} (p : PostS w W μ H (thenO r k) D) : PostO w.K μ H r fun μ1 H1 m1 a => PostS w W μ1 H1 (k a m1) D := by
  cases r with
  | none => exact p
  | some a => obtain ⟨a, m⟩ := a; exact fun μ1 H1 s1 M1 => PostS.from p s1
theorem PostS.thenS {r : RS} {k : Env → Mem → RS} {D : Ends} (p : PostS w W μ H (thenS r k) D) : PostS w W μ H r { D with nx := rdS w W (fun ρ m => k ρ m) D } := by
  cases r with
  | ok f ρ m =>
    cases f with
    | nx => exact fun μ1 H1 σ1 s1 M1 E1 => ⟨ρ, m, μ1, E1, M1, PostS.from p s1⟩
    | rt u => exact p
    | bk => exact p
    | ct => exact p
  | err x ρ m => exact p
  | bad => exact p
theorem PostS.nx {ρ : Env} {m : Mem} {D : Ends} (p : PostS w W μ H (.ok .nx ρ m) D) (M : MOk w.K H μ m) {σ : L2.St} (E : EOk w.K H μ ρ σ) : D.nx σ H := p μ H σ .refl M E
theorem PostS.imp {r : RS} {D D' : Ends} (p : PostS w W μ H r D) (h1 : ∀ σ H, D.nx σ H → D'.nx σ H) (h2 : ∀ σ H, D.bk σ H → D'.bk σ H) (h3 : ∀ σ H, D.ct σ H → D'.ct σ H) (h4 : ∀ v H, D.rt v H → D'.rt v H) : PostS w W μ H r D' := by
  cases r with
  | ok f ρ m =>
    cases f with
    | nx => exact fun μ1 H1 σ1 s1 M1 E1 => h1 _ _ (p μ1 H1 σ1 s1 M1 E1)
    | bk => exact fun μ1 H1 σ1 s1 M1 E1 => h2 _ _ (p μ1 H1 σ1 s1 M1 E1)
    | ct => exact fun μ1 H1 σ1 s1 M1 E1 => h3 _ _ (p μ1 H1 σ1 s1 M1 E1)
    | rt u => exact fun μ1 H1 σ1 s1 M1 E1 v r => h4 _ _ (p μ1 H1 σ1 s1 M1 E1 v r)
  | err x ρ m => exact p
  | bad => exact p
end

/-! ### what they mean -/
def sNext : SD := fun ρ m => .ok .nx ρ m
def sBreak : SD := fun ρ m => .ok .bk ρ m
def sCont : SD := fun ρ m => .ok .ct ρ m
def sExpr (f : XD) : SD := fun ρ m => thenE (f ρ m) ρ fun _ m1 => .ok .nx ρ m1
def sRet (f : XD) : SD := fun ρ m => thenE (f ρ m) ρ fun u m1 => .ok (.rt u) ρ m1
def sRetN : SD := fun ρ m => .ok (.rt .non) ρ m
def sSeq (a b : SD) : SD := fun ρ m => thenS (a ρ m) b
def sIf (t : XT) (a b : SD) : SD := fun ρ m => thenE (t ρ m) ρ fun k m1 => if k then a ρ m1 else b ρ m1
/-- targets -/
abbrev GD := U → Env → Mem → O Env
abbrev GL := List U → Env → Mem → O Env
def gName (i : Nat) : GD := fun u ρ m => some (ρ.set i (some u), m)
def gNil : GL := fun us ρ m => match us with
  | [] => some (ρ, m)
  | _ => none
def gCons (g : GD) (gs : GL) : GL := fun us ρ m => match us with
  | [] => none
  | u :: r => match g u ρ m with
    | some (ρ1, m1) => gs r ρ1 m1
    | none => none
def gTup (n : Nat) (gs : GL) : GD := fun u ρ m => match u with
  | .tup us => if us.length = n then gs us ρ m else none
  | _ => none
def toO {α : Type} : R α → O α
  | .ok a m => some (a, m)
  | _ => none
/-- a store at a place: the object, the index, the value -/
def gSub (S : U → U → U → Mem → O Unit) (fo fi : XD) : GD := fun u ρ m => match toO (fo ρ m) with
  | some (o, m1) => match toO (fi ρ m1) with
    | some (i, m2) => (S o i u m2).map fun x => (ρ, x.2)
    | none => none
  | none => none
def oSetL : U → U → U → Mem → O Unit := fun o i v m => match o, i with
  | .ref n, .int k => match m[n]? with
    | some (.lst us) => (ixN us.length k).map fun j => ((), m.set n (.lst (us.set j v)))
    | _ => none
  | _, _ => none
def sAsg (f : XD) (g : GD) : SD := fun ρ m => thenE (f ρ m) ρ fun u m1 => thenO (g u ρ m1) fun ρ1 m2 => .ok .nx ρ1 m2
def sPar (i j : Nat) (f : XL) : SD := fun ρ m => thenE (f ρ m) ρ fun us m1 => match us with
  | [u, v] => .ok .nx ((ρ.set i (some u)).set j (some v)) m1
  | _ => .bad
def sAug (i : Nat) (F : U → U → Mem → O U) (f : XD) : SD := fun ρ m => match ρ[i]? with
  | some (some u) => thenE (f ρ m) ρ fun v m1 => thenO (F u v m1) fun z m2 => .ok .nx (ρ.set i (some z)) m2
  | _ => .bad

/-! ### they are so -/
section
variable {X : Cx} {c : Nat → Addr} {W : WX} {e : Expr} {f : XD} {t : XT} {pos : Pos} {st : Stmt} {rest A B : List Stmt} {sa sb : SD}
theorem sb_nil : SB X c W [] sNext := pss_nil.imp fun D σ H ⟨ρ, m, μ, E, M, p⟩ => p.nx M E
theorem sb_cons (h1 : SS X c W st sa) (h2 : SB X c W rest sb) : SB X c W (st :: rest) (sSeq sa sb) := (pss_cons h1 h2).imp fun D σ H ⟨ρ, m, μ, E, M, p⟩ => ⟨ρ, m, μ, E, M, p.thenS⟩
theorem sb_one (h1 : SS X c W st sa) : SB X c W [st] sa := pss_one h1
theorem ss_pass : SS X c W (.Pass pos) sNext := ps_pass.imp fun D σ H ⟨ρ, m, μ, E, M, p⟩ => p.nx M E
theorem ss_break : SS X c W (.Break pos) sBreak := ps_break.imp fun D σ H ⟨ρ, m, μ, E, M, p⟩ => p μ H σ .refl M E
theorem ss_cont : SS X c W (.Continue pos) sCont := ps_continue.imp fun D σ H ⟨ρ, m, μ, E, M, p⟩ => p μ H σ .refl M E
theorem ss_doc {x j pos pos'} : SS X c W (.Expr (.Constant (.str x) j pos) pos') sNext := ps_doc.imp fun D σ H ⟨ρ, m, μ, E, M, p⟩ => p.nx M E
theorem ss_expr (he : SE X c W e f) (hs : swapsWith e none pos.line X.env = pure false := by rfl) : SS X c W (.Expr e pos) (sExpr f) :=
  (ps_expr he hs).imp fun D σ H ⟨ρ, m, μ, E, M, p⟩ => ⟨ρ, m, μ, E, M, (PostS.thenE E p).imp fun μ1 H1 m1 u s1 M1 p1 v r => p1.nx M1 (E.step s1)⟩
theorem ss_ret (he : SE X c W e f) : SS X c W (.Return (some e) pos) (sRet f) :=
  (ps_ret he).imp fun D σ H ⟨ρ, m, μ, E, M, p⟩ => ⟨ρ, m, μ, E, M, (PostS.thenE E p).imp fun μ1 H1 m1 u s1 M1 p1 v r => p1 μ1 H1 σ .refl M1 (E.step s1) v r⟩
theorem ss_retN : SS X c W (.Return none pos) sRetN := ps_retN.imp fun D σ H ⟨ρ, m, μ, E, M, p⟩ => p μ H σ .refl M E _ .non
theorem ss_if {d : Expr} (hc : ST X c W d t) (ha : SB X c W A sa) (hb : SB X c W B sb) : SS X c W (.If d A B pos) (sIf t sa sb) :=
  (ps_if hc ha hb).imp fun D σ H ⟨ρ, m, μ, E, M, p⟩ => ⟨ρ, m, μ, E, M, (PostS.thenE E p).imp fun μ1 H1 m1 k s1 M1 p1 => by
    cases k with
    | true => exact ⟨ρ, m1, μ1, E.step s1, M1, p1⟩
    | false => exact ⟨ρ, m1, μ1, E.step s1, M1, p1⟩⟩
/-! targets -/
def rdG (K : PySem.W.Frag) (g : GD) : TG := fun v σ H Q => ∃ u ρ m μ, RU K H μ u v ∧ EOk K H μ ρ σ ∧ MOk K H μ m ∧ PostO K μ H (g u ρ m) fun μ' H' _ ρ' => ∀ σ', EOk K H' μ' ρ' σ' → Q σ' H'
def rdGs (K : PySem.W.Frag) (g : GL) : TGs := fun vs σ H Q => ∃ us ρ m μ, RUs K H μ us vs ∧ EOk K H μ ρ σ ∧ MOk K H μ m ∧ PostO K μ H (g us ρ m) fun μ' H' _ ρ' => ∀ σ', EOk K H' μ' ρ' σ' → Q σ' H'
abbrev SG (X : Cx) (tg : Expr) (g : GD) : Prop := PG X tg (rdG X.K g)
abbrev SGs (X : Cx) (tg : List Expr) (g : GL) : Prop := PGs X tg (rdGs X.K g)
theorem _root_.L2.PG.imp {X : Cx} {e : Expr} {t t' : TG} (h : PG X e t) (i : ∀ v σ H Q, t' v σ H Q → t v σ H Q) : PG X e t' := ⟨fun p s σ H v u Q I r q => h.run p s σ H v u Q I r (i _ _ _ _ q)⟩
theorem _root_.L2.PGs.imp {X : Cx} {e : List Expr} {t t' : TGs} (h : PGs X e t) (i : ∀ v σ H Q, t' v σ H Q → t v σ H Q) : PGs X e t' := ⟨fun p s σ H v u Q I r q => h.run p s σ H v u Q I r (i _ _ _ _ q)⟩
theorem sg_name {i : Nat} {x : Str} (hN : X.N.Nodup) (hi : X.N[i]? = some x) (hx : Loc X.env.scope x) (hf : X.fn x = true ∨ X.env.scope.names.lookup x = some .local := by first | exact .inl rfl | exact .inr rfl | assumption) : SG X (.Name x pos) (gName i) :=
  (pg_name hN hi hx hf).imp fun v σ H Q ⟨u, ρ, m, μ, r, E, M, p⟩ => p.here M _ (E.set r)
theorem sgs_nil : SGs X [] gNil := pgs_nil.imp fun v σ H Q ⟨us, ρ, m, μ, r, E, M, p⟩ => by
  cases r with
  | nil => exact ⟨rfl, p.here M _ E⟩
  | cons _ _ => exact no_op p
theorem sgs_cons {e : Expr} {es : List Expr} {g : GD} {gs : GL} (h : PGs X (e :: es) (L2.gCons (rdG X.K g) (rdGs X.K gs))) : SGs X (e :: es) (gCons g gs) := h.imp fun v σ H Q ⟨us, ρ, m, μ, r, E, M, p⟩ => by
  cases r with
  | nil => exact no_op p
  | @cons u us v vs r1 r2 =>
    refine ⟨_, _, rfl, u, ρ, m, μ, r1, E, M, ?_⟩
    unfold gCons at p
    simp only at p
    cases q : g u ρ m with
    | none => rw [q] at p; exact no_op p
    | some z =>
      obtain ⟨ρ1, m1⟩ := z
      rw [q] at p
      simp only at p
      exact fun μ1 H1 s1 M1 σ1 E1 => ⟨us, ρ1, m1, μ1, r2.step s1, E1, M1, (by
        cases q2 : gs us ρ1 m1 with
        | none => rw [q2] at p; exact no_op p
        | some z => rw [q2] at p; exact fun μ2 H2 s2 M2 => p μ2 H2 (s1.trans s2) M2)⟩
theorem sg_tup {es : List Expr} {k : Nat} {n : Nat} {gs : GL} (hn : PG X (.Tuple es k pos) (L2.gTup X.K n (rdGs X.K gs))) : SG X (.Tuple es k pos) (gTup n gs) := hn.imp fun v σ H Q ⟨u, ρ, m, μ, r, E, M, p⟩ => by
  cases r with
  | tup hq t =>
    unfold gTup at p
    simp only at p
    split at p
    · rename_i hl
      exact ⟨_, _, rfl, hq, by rw [← t.length]; exact hl, _, ρ, m, μ, t, E, M, p⟩
    · exact no_op p
  | _ => exact no_op p
def rdSet (K : PySem.W.Frag) (S : U → U → U → Mem → O Unit) : TSet := fun o i v H Q => ∃ uo ui uv m μ, RU K H μ uo o ∧ RU K H μ ui i ∧ RU K H μ uv v ∧ MOk K H μ m ∧ PostO K μ H (S uo ui uv m) fun μ' H' _ _ => Q H'
theorem toO_post {α : Type} {w : W0} {σ : L2.St} {μ : List Addr} {H : Hp} {r : R α} {a : α} {m : Mem} {P : List Addr → Hp → Mem → α → Prop} (h : toO r = some (a, m)) (p : ∀ μ' H', Step w.K μ H μ' H' → MOk w.K H' μ' m → P μ' H' m a) : Post w W σ μ H r P := by
  cases r with
  | ok b n => cases h; exact p
  | err x n => cases h
  | bad => cases h
theorem sg_sub {o i : Expr} {fo fi : XD} {S : U → U → U → Mem → O Unit} (hg : PG X (.Subscript o i pos) (L2.gSub (rdE (wX X c) W fo) (rdE (wX X c) W fi) (rdSet X.K S))) : SG X (.Subscript o i pos) (gSub S fo fi) :=
  hg.imp fun v σ H Q ⟨u, ρ, m, μ, r, E, M, p⟩ => by
    unfold gSub at p
    cases q1 : toO (fo ρ m) with
    | none => rw [q1] at p; exact no_op p
    | some z =>
      obtain ⟨x, m1⟩ := z
      rw [q1] at p
      simp only at p
      cases q2 : toO (fi ρ m1) with
      | none => rw [q2] at p; exact no_op p
      | some z =>
        obtain ⟨y, m2⟩ := z
        rw [q2] at p
        simp only at p
        refine ⟨ρ, m, μ, E, M, toO_post (w := wX X c) q1 fun μ1 H1 s1 M1 v1 r1 => ⟨ρ, m1, μ1, E.step s1, M1, toO_post (w := wX X c) q2 fun μ2 H2 s2 M2 v2 r2 => ?_⟩⟩
        refine ⟨x, y, u, m2, μ2, r1.step s2, r2, (r.step s1).step s2, M2, ?_⟩
        cases q3 : S x y u m2 with
        | none => rw [q3] at p; exact no_op p
        | some z =>
          rw [q3] at p
          exact fun μ3 H3 s3 M3 => p μ3 H3 ((s1.trans s2).trans s3) M3 σ (((E.step s1).step s2).step s3)
theorem x_setL : PSet X (rdSet X.K oSetL) := by
  intro pins s σ H o i v u1 u2 u3 Q I ro ri rv h
  obtain ⟨uo, ui, uv, m, μ, r1, r2, r3, M, p⟩ := h
  unfold oSetL at p
  split at p
  · rename_i n k
    cases r2
    cases r1 with
    | @ref _ a hn =>
      split at p
      · rename_i us e
        cases q : ixN us.length k with
        | none => rw [q] at p; exact no_op p
        | some j =>
          rw [q] at p
          obtain ⟨vs, hq, t⟩ := M.cell _ _ _ hn e
          refine set_list pins s σ H _ _ v u1 u2 u3 Q I ro ri rv ⟨a, vs, k, j, rfl, rfl, hq, by rw [← t.length]; exact q, ?_⟩
          exact p μ _ (.set (List.mem_of_getElem? hn) hq rfl) (M.set hn hq rfl ⟨_, upd_same, (t.set j r3).step (.set (List.mem_of_getElem? hn) hq rfl)⟩)
      · exact no_op p
  · exact no_op p
theorem ss_asg {tg : Expr} {g : GD} (hps : PS X (.Assign [tg] e pos) (tAsg (rdE (wX X c) W f) (rdG X.K g))) : SS X c W (.Assign [tg] e pos) (sAsg f g) :=
  hps.imp fun D σ H ⟨ρ, m, μ, E, M, p⟩ => ⟨ρ, m, μ, E, M, (PostS.thenE E p).imp fun μ1 H1 m1 u s1 M1 p1 v r => by
    refine ⟨u, ρ, m1, μ1, r, E.step s1, M1, ?_⟩
    have p2 := PostS.thenO p1
    cases q : g u ρ m1 with
    | none => rw [q] at p2; exact no_op p2
    | some z =>
      obtain ⟨ρ2, m2⟩ := z
      rw [q] at p2
      exact fun μ2 H2 s2 M2 σ2 E2 => (p2 μ2 H2 s2 M2).nx M2 E2⟩
theorem ss_set {i : Nat} {x : Str} {pos' : Pos} (hN : X.N.Nodup) (hi : X.N[i]? = some x) (hx : Loc X.env.scope x) (he : SE X c W e f) (hs : swapsWith e (some (.Name x pos')) pos.line X.env = pure false := by rfl) (hf : X.fn x = true ∨ X.env.scope.names.lookup x = some .local := by first | exact .inl rfl | exact .inr rfl | assumption) :
    SS X c W (.Assign [.Name x pos'] e pos) (sAsg f (gName i)) :=
  (ps_set hN hi hx he hs hf).imp fun D σ H ⟨ρ, m, μ, E, M, p⟩ => ⟨ρ, m, μ, E, M, (PostS.thenE E p).imp fun μ1 H1 m1 u s1 M1 p1 v r => by
    have p2 := PostS.thenO p1
    exact (p2 μ1 H1 .refl M1).nx M1 ((E.step s1).set r)⟩
def rdIp (K : PySem.W.Frag) (F : U → U → Mem → O U) : TIp := rd2 K F
theorem ss_aug {i : Nat} {x : Str} {op : Operator} {F : U → U → Mem → O U} {pos' : Pos} (hps : PS X (.AugAssign (.Name x pos') op e pos) (tAug i (rdE (wX X c) W f) (rd2 X.K F))) :
    SS X c W (.AugAssign (.Name x pos') op e pos) (sAug i F f) :=
  hps.imp fun D σ H ⟨ρ, m, μ, E, M, p⟩ => by
    unfold sAug at p
    split at p
    · rename_i u e1
      obtain ⟨v, h1, r1⟩ := E.at_ i u e1
      refine ⟨v, h1, ρ, m, μ, E, M, (PostS.thenE E p).imp fun μ1 H1 m1 u2 s1 M1 p1 v2 r2 => ⟨u, u2, m1, μ1, r1.step s1, r2, M1, ?_⟩⟩
      have p2 := PostS.thenO p1
      cases q : F u u2 m1 with
      | none => rw [q] at p2; exact no_op p2
      | some z =>
        obtain ⟨z, m2⟩ := z
        rw [q] at p2
        exact fun μ2 H2 s2 M2 v3 r3 => (p2 μ2 H2 s2 M2).nx M2 (((E.step s1).step s2).set r3)
    · exact False.elim p
theorem ss_par {i j : Nat} {st : Stmt} {fl : XL} (hps : PS X st (tPar i j (rdL (wX X c) W fl))) : SS X c W st (sPar i j fl) :=
  hps.imp fun D σ H ⟨ρ, m, μ, E, M, p⟩ => ⟨ρ, m, μ, E, M, (PostS.thenE E p).imp fun μ1 H1 m1 us s1 M1 p1 vs r => by
    cases r with
    | nil => exact False.elim p1
    | cons r1 r =>
      cases r with
      | nil => exact False.elim p1
      | cons r2 r =>
        cases r with
        | nil => exact ⟨_, _, rfl, p1.nx M1 (((E.step s1).set r1).set r2)⟩
        | cons _ _ => exact False.elim p1⟩
end
end Ev

set_option Elab.async false
set_option linter.all false
set_option maxRecDepth 100000
set_option maxHeartbeats 2000000
/-! Ev: loops and comprehensions. -/
namespace Ev
open PySem PySem.Spec L2

/-- what is walked: written items, or what the memory has at each turn (with a bound of the turns) -/
inductive Src where
  | fix (us : List U) | dyn (k : Nat) (nx : Nat → Mem → Option (Option U))
def Src.next : Src → Nat → Mem → Option (Option U)
  | .fix us => fun i _ => if i ≤ us.length then some us[i]? else none
  | .dyn _ nx => nx
abbrev ID := Env → Mem → R Src
/-- the iterator gives what the source says -/
def WkOk (K : PySem.W.Frag) (J : It) (μ0 : List Addr) (H0 : Hp) (nx : Nat → Mem → Option (Option U)) : Prop :=
  ∀ (i : Nat) (μ : List Addr) (H : Hp) (m : Mem), Mono K μ0 H0 μ H → MOk K H μ m → match nx i m with
    | none => True
    | some none => J.stop i H
    | some (some u) => J.go i H ∧ ∀ x H', J.yld i H x H' → Step K μ H μ H' ∧ MOk K H' μ m ∧ RU K H' μ u x
def rdI (w : W0) (W : WX) (f : ID) : TI := fun σ H R => ∃ ρ m μ, EOk w.K H μ ρ σ ∧ MOk w.K H μ m ∧ Post w W σ μ H (f ρ m) fun μ' H' _ s => ∀ J, WkOk w.K J μ' H' s.next → R J H'
abbrev SI (X : Cx) (c : Nat → Addr) (W : WX) (tg e : Expr) (f : ID) : Prop := PI X tg e (rdI (wX X c) W f)
theorem _root_.L2.PI.imp {X : Cx} {tg e : Expr} {t t' : TI} (h : PI X tg e t) (i : ∀ σ H R, t' σ H R → t σ H R) : PI X tg e t' := ⟨fun p s σ H R I q => h.run p s σ H R I (i _ _ _ q)⟩

/-! ### loops -/
def loopS (r : RS) (k : Env → Mem → RS) : RS := match r with
  | .ok .nx ρ m => k ρ m
  | .ok .ct ρ m => k ρ m
  | .ok .bk ρ m => .ok .nx ρ m
  | r => r
def forL (g : GD) (b : SD) : List U → SD
  | [] => sNext
  | u :: us => fun ρ m => thenO (g u ρ m) fun ρ1 m1 => loopS (b ρ1 m1) (forL g b us)
def forN (nx : Nat → Mem → Option (Option U)) (g : GD) (b : SD) : Nat → Nat → SD
  | 0, _ => fun _ _ => .bad
  | k + 1, i => fun ρ m => match nx i m with
    | none => .bad
    | some none => .ok .nx ρ m
    | some (some u) => thenO (g u ρ m) fun ρ1 m1 => loopS (b ρ1 m1) (forN nx g b k (i + 1))
def forR (g : GD) (b : SD) : Src → SD
  | .fix us => forL g b us
  | .dyn k nx => forN nx g b k 0
def sFor (f : ID) (g : GD) (b : SD) : SD := fun ρ m => thenE (f ρ m) ρ fun s m1 => forR g b s ρ m1
def whileN (t : XT) (b : SD) : Nat → SD
  | 0 => fun _ _ => .bad
  | k + 1 => fun ρ m => thenE (t ρ m) ρ fun c m1 => if c then loopS (b ρ m1) (whileN t b k) else .ok .nx ρ m1
def sWhile (t : XT) (b : SD) : SD := whileN t b 1000000
theorem fix_next {us : List U} {i : Nat} {m : Mem} (h : i ≤ us.length) : (Src.fix us).next i m = some us[i]? := if_pos h
theorem forL_N {us : List U} {g : GD} {b : SD} : ∀ (k i : Nat), i ≤ us.length → us.length < i + k → forL g b (us.drop i) = forN (Src.fix us).next g b k i
  | 0, i, h, h2 => by omega
  | k + 1, i, h, h2 => by
    by_cases hi : i < us.length
    · have e : us.drop i = us[i] :: us.drop (i + 1) := List.drop_eq_getElem_cons hi
      have e2 : us[i]? = some us[i] := List.getElem?_eq_getElem hi
      rw [e, forL, forL_N k (i + 1) hi (by omega)]
      funext ρ m
      rw [forN]
      simp only [fix_next h, e2]
    · have e : us.drop i = [] := List.drop_eq_nil_of_le (by omega)
      have e2 : us[i]? = none := List.getElem?_eq_none (by omega)
      rw [e]
      funext ρ m
      rw [forN]
      simp only [fix_next h, e2]
      rfl
theorem forR_N (s : Src) (g : GD) (b : SD) : ∃ k, forR g b s = forN s.next g b k 0 := by
  cases s with
  | fix us => exact ⟨us.length + 1, by have := forL_N (us := us) (g := g) (b := b) (us.length + 1) 0 (Nat.zero_le _) (by omega); rw [List.drop_zero] at this; exact this⟩
  | dyn k nx => exact ⟨k, rfl⟩
section
variable {w : W0} {W : WX} {σ : L2.St} {μ : List Addr} {H : Hp}
theorem PostS.loop {r : RS} {k : Env → Mem → RS} {D : Ends} {N : L2.St → Hp → Prop} (p : PostS w W μ H (loopS r k) D)
    (hN : ∀ ρ m μ' H' σ', Step w.K μ H μ' H' → MOk w.K H' μ' m → EOk w.K H' μ' ρ σ' → PostS w W μ' H' (k ρ m) D → N σ' H') : PostS w W μ H r { D with nx := N, ct := N, bk := D.nx } := by
  cases r with
  | ok f ρ m =>
    cases f with
    | nx => exact fun μ1 H1 σ1 s1 M1 E1 => hN ρ m μ1 H1 σ1 s1 M1 E1 (PostS.from p s1)
    | ct => exact fun μ1 H1 σ1 s1 M1 E1 => hN ρ m μ1 H1 σ1 s1 M1 E1 (PostS.from p s1)
    | bk => exact p
    | rt u => exact p
  | err x ρ m => exact p
  | bad => exact p
end
section
variable {X : Cx} {c : Nat → Addr} {W : WX} {st : Stmt} {f : ID} {g : GD} {sb : SD} {t : XT}
theorem ss_for (h : PS X st (tFor (rdI (wX X c) W f) (rdG X.K g) (rdS (wX X c) W sb))) : SS X c W st (sFor f g sb) :=
  h.imp fun D σ H ⟨ρ, m, μ, E, M, p⟩ => ⟨ρ, m, μ, E, M, (PostS.thenE E p).imp fun μ1 H1 m1 src s1 M1 p1 J hJ => by
    obtain ⟨k, hk⟩ := forR_N src g sb
    rw [hk] at p1
    refine ⟨fun i n σ H => ∃ ρ m μ, Mono X.K μ1 H1 μ H ∧ EOk X.K H μ ρ σ ∧ MOk X.K H μ m ∧ PostS (wX X c) W μ H (forN src.next g sb n i ρ m) D, ⟨k, ρ, m1, μ1, .refl, E.step s1, M1, p1⟩, ?_⟩
    rintro i n σ H ⟨ρ, m, μ, mo, E, M, p⟩
    cases n with
    | zero => exact False.elim p
    | succ n =>
      have hj := hJ i μ H m mo M
      rw [forN] at p
      cases e : src.next i m with
      | none => simp only [e] at p; exact False.elim p
      | some o =>
        cases o with
        | none =>
          simp only [e] at p hj
          exact .inl ⟨hj, p.nx M E⟩
        | some u =>
          simp only [e] at p hj
          refine .inr ⟨hj.1, fun σ' H' => ∃ ρ m μ, Mono X.K μ1 H1 μ H' ∧ EOk X.K H' μ ρ σ' ∧ MOk X.K H' μ m ∧ PostS (wX X c) W μ H' (forN src.next g sb n (i + 1) ρ m) D, fun σ' H' z => ⟨n, Nat.lt_succ_self n, z⟩, fun x H' y => ?_⟩
          obtain ⟨s2, M2, r2⟩ := hj.2 x H' y
          refine ⟨u, ρ, m, μ, r2, E.step s2, M2, ?_⟩
          have p2 := PostS.thenO (PostS.from p s2)
          cases q : g u ρ m with
          | none => rw [q] at p2; exact False.elim p2
          | some z =>
            obtain ⟨ρ3, m3⟩ := z
            rw [q] at p2
            exact fun μ3 H3 s3 M3 σ3 E3 => ⟨ρ3, m3, μ3, E3, M3, PostS.loop (p2 μ3 H3 s3 M3) fun ρ4 m4 μ4 H4 σ4 s4 M4 E4 p4 => ⟨ρ4, m4, μ4, ((mo.trans s2.mono).trans s3.mono).trans s4.mono, E4, M4, p4⟩⟩⟩
theorem ss_while (h : PS X st (tWhile (rdT (wX X c) W t) (rdS (wX X c) W sb))) : SS X c W st (sWhile t sb) :=
  h.imp fun D σ H ⟨ρ, m, μ, E, M, p⟩ => by
    refine ⟨fun n σ H => ∃ ρ m μ, EOk X.K H μ ρ σ ∧ MOk X.K H μ m ∧ PostS (wX X c) W μ H (whileN t sb n ρ m) D, ⟨_, ρ, m, μ, E, M, p⟩, ?_⟩
    rintro n σ H ⟨ρ, m, μ, E, M, p⟩
    cases n with
    | zero => exact False.elim p
    | succ n =>
      rw [whileN] at p
      refine ⟨ρ, m, μ, E, M, (PostS.thenE E p).imp fun μ1 H1 m1 b s1 M1 p1 => ?_⟩
      cases b with
      | false => exact p1.nx M1 (E.step s1)
      | true =>
        exact ⟨fun σ' H' => ∃ ρ m μ, EOk X.K H' μ ρ σ' ∧ MOk X.K H' μ m ∧ PostS (wX X c) W μ H' (whileN t sb n ρ m) D, fun σ' H' z => ⟨n, Nat.lt_succ_self n, z⟩, ρ, m1, μ1, E.step s1, M1, PostS.loop p1 fun ρ4 m4 μ4 H4 σ4 s4 M4 E4 p4 => ⟨ρ4, m4, μ4, E4, M4, p4⟩⟩
end

/-! ### what is walked -/
def srcOf (m : Mem) (u : U) : Option Src := match u with
  | .tup us => some (.fix us)
  | .rol us => some (.fix us)
  | .ref n => match m[n]? with
    | some (.lst us) => some (.dyn (us.length + 1) fun i m => match m[n]? with
      | some (.lst us) => some us[i]?
      | _ => none)
    | _ => none
  | _ => none
def iOf (f : XD) : ID := fun ρ m => (f ρ m).bind fun u m1 => ofB (srcOf m1 u) m1
def signs (z : Str) : List U := z.cps.toList.map fun c => .str ⟨#[c]⟩
def iStr (f : XD) : ID := fun ρ m => (f ρ m).bind fun u m1 => match u with
  | .str z => .ok (.fix (signs z)) m1
  | _ => .bad
/-- lo, lo + 1, .. (n of them) -/
def runI (lo : Int) : Nat → List U
  | 0 => []
  | n + 1 => .int lo :: runI (lo + 1) n
def iRange1 (f : XL) : ID := fun ρ m => (f ρ m).bind fun us m1 => match us with
  | [.int j] => if -(2 ^ 62) ≤ j ∧ j < 2 ^ 62 then .ok (.fix (runI 0 j.toNat)) m1 else .bad
  | _ => .bad
def iRange2 (f : XL) : ID := fun ρ m => (f ρ m).bind fun us m1 => match us with
  | [.int i, .int j] => if -(2 ^ 62) ≤ i ∧ i < 2 ^ 62 ∧ -(2 ^ 62) ≤ j ∧ j < 2 ^ 62 then .ok (.fix (runI i (j - i).toNat)) m1 else .bad
  | _ => .bad
theorem runI_get : ∀ (n : Nat) (lo : Int) (i : Nat), (runI lo n)[i]? = if i < n then some (.int (lo + i)) else none
  | 0, lo, i => by simp [runI]
  | n + 1, lo, 0 => by simp [runI]
  | n + 1, lo, i + 1 => by
    rw [runI, List.getElem?_cons_succ, runI_get n]
    have e : (lo + 1 + (i : Int)) = lo + ((i + 1 : Nat) : Int) := by omega
    rw [e]
    by_cases h : i < n
    · rw [if_pos h, if_pos (by omega)]
    · rw [if_neg h, if_neg (by omega)]
section
variable {X : Cx} {c : Nat → Addr} {W : WX} {tg e : Expr} {f : XD} {fl : XL}
theorem wk_fix {K : PySem.W.Frag} {J : It} {H : Hp} {μ : List Addr} {us : List U} (h : ∀ (i : Nat) (μ1 : List Addr) (H1 : Hp) (m : Mem), Mono K μ H μ1 H1 → MOk K H1 μ1 m → i ≤ us.length → match us[i]? with
    | none => J.stop i H1
    | some u => J.go i H1 ∧ ∀ x H', J.yld i H1 x H' → Step K μ1 H1 μ1 H' ∧ MOk K H' μ1 m ∧ RU K H' μ1 u x) : WkOk K J μ H (Src.fix us).next := fun i μ1 H1 m mo M => by
  by_cases hi : i ≤ us.length
  · have h1 := h i μ1 H1 m mo M hi
    rw [fix_next hi]
    cases e : us[i]? with
    | none => rw [e] at h1; exact h1
    | some u => rw [e] at h1; exact h1
  · rw [show (Src.fix us).next i m = none from if_neg hi]
    trivial
/-- written items of a tuple or of a list that stands still -/
theorem wk_t {K : PySem.W.Frag} {H : Hp} {μ : List Addr} {us : List U} {vs : List V} {a : Addr} (hq : SqT K H a vs) (t : RUs K H μ us vs) : WkOk K (Itt K a) μ H (Src.fix us).next := wk_fix fun i μ1 H1 m mo M _ => by
  have hq1 := mo.kt _ _ hq
  have t1 := t.mo mo
  cases e : us[i]? with
  | none => exact ⟨vs, hq1, by rw [← t.length]; exact List.getElem?_eq_none_iff.mp e⟩
  | some u =>
    obtain ⟨v, h1, h2⟩ := t1.get e
    refine ⟨⟨vs, v, hq1, h1⟩, fun x H' y => ?_⟩
    obtain ⟨eH, y⟩ := y
    subst eH
    have := y vs hq1
    rw [h1] at this; cases this
    exact ⟨.refl, M, h2⟩
theorem wk_l {K : PySem.W.Frag} {H : Hp} {μ : List Addr} {us : List U} {vs : List V} {a : Addr} (hq : ∀ H1, Mono K μ H μ H1 → SqL K H1 a vs) (hq2 : ∀ μ1 H1, Mono K μ H μ1 H1 → SqL K H1 a vs) (t : RUs K H μ us vs) : WkOk K (Itl K a) μ H (Src.fix us).next := wk_fix fun i μ1 H1 m mo M _ => by
  have hq1 := hq2 _ _ mo
  have t1 := t.mo mo
  cases e : us[i]? with
  | none => exact ⟨vs, hq1, by rw [← t.length]; exact List.getElem?_eq_none_iff.mp e⟩
  | some u =>
    obtain ⟨v, h1, h2⟩ := t1.get e
    refine ⟨⟨vs, v, hq1, h1⟩, fun x H' y => ?_⟩
    obtain ⟨eH, y⟩ := y
    subst eH
    have := y vs hq1
    rw [h1] at this; cases this
    exact ⟨.refl, M, h2⟩
/-- a cell's items -/
theorem wk_c {K : PySem.W.Frag} {H : Hp} {μ : List Addr} {n : Nat} {a : Addr} (hn : μ[n]? = some a) : WkOk K (Itl K a) μ H (fun i m => match m[n]? with | some (.lst us) => some us[i]? | _ => none) := fun i μ1 H1 m mo M => by
  have hn1 := mo.at hn
  show match (match m[n]? with | some (.lst us) => some us[i]? | _ => none) with | none => True | some none => _ | some (some u) => _
  split
  · trivial
  · rename_i h
    split at h
    · rename_i us e1
      obtain ⟨vs, hq, t⟩ := M.cell _ _ _ hn1 e1
      injection h with h
      exact ⟨vs, SqL.of hq, by rw [← t.length]; exact List.getElem?_eq_none_iff.mp h⟩
    · cases h
  · rename_i u h
    split at h
    · rename_i us e1
      obtain ⟨vs, hq, t⟩ := M.cell _ _ _ hn1 e1
      injection h with h
      obtain ⟨v, h1, h2⟩ := t.get h
      refine ⟨⟨vs, v, SqL.of hq, h1⟩, fun x H' y => ?_⟩
      obtain ⟨eH, y⟩ := y
      subst eH
      have := y vs (SqL.of hq)
      rw [h1] at this; cases this
      exact ⟨.refl, M, h2⟩
    · cases h
theorem wk_of {K : PySem.W.Frag} {H : Hp} {μ : List Addr} {m : Mem} {u : U} {v : V} {s : Src} (M : MOk K H μ m) (r : RU K H μ u v) (h : srcOf m u = some s) :
    ∃ a, v = .ref a ∧ ((isT u = true ∧ (∃ xs, SqT K H a xs) ∧ WkOk K (Itt K a) μ H s.next) ∨ (isT u = false ∧ (∃ xs, SqL K H a xs) ∧ WkOk K (Itl K a) μ H s.next)) := by
  cases r with
  | tup hq t => cases h; exact ⟨_, rfl, .inl ⟨rfl, ⟨_, hq⟩, wk_t hq t⟩⟩
  | rol hq t =>
    cases h
    have st : ∀ μ1 H1, Mono K μ H μ1 H1 → SqL K H1 _ _ := fun μ1 H1 mo => rol_sq (hq.imp (fun ⟨o, z⟩ => ⟨o, mo.fz _ _ _ z⟩) id)
    exact ⟨_, rfl, .inr ⟨rfl, ⟨_, rol_sq hq⟩, wk_l (fun H1 mo => st _ _ mo) st t⟩⟩
  | @ref n a hn =>
    unfold srcOf at h
    simp only at h
    split at h
    · rename_i us e1
      cases h
      obtain ⟨vs, hq, t⟩ := M.cell _ _ _ hn e1
      exact ⟨a, rfl, .inr ⟨rfl, ⟨vs, SqL.of hq⟩, wk_c hn⟩⟩
    · cases h
  | _ => cases h
/-- for .. in a tuple -/
def iTupOf (f : XD) : ID := fun ρ m => (f ρ m).bind fun u m1 => if isT u then ofB (srcOf m1 u) m1 else .bad
/-- for .. in a list -/
def iLstOf (f : XD) : ID := fun ρ m => (f ρ m).bind fun u m1 => if isT u then .bad else ofB (srcOf m1 u) m1
theorem si_tup (h : SE X c W e f) : SI X c W tg e (iTupOf f) := (pi_tup h).imp fun σ H R ⟨ρ, m, μ, E, M, p⟩ => ⟨ρ, m, μ, E, M, p.bind.imp fun μ1 H1 m1 u s1 M1 p1 v r => by
  split at p1
  · rename_i hT
    cases q : srcOf m1 u with
    | none => rw [q] at p1; exact False.elim p1
    | some s =>
      rw [q] at p1
      obtain ⟨a, e1, h1⟩ := wk_of M1 r q
      rcases h1 with ⟨_, h2, h3⟩ | ⟨h2, _⟩
      · exact ⟨a, e1, h2, p1.ok_at M1 _ h3⟩
      · rw [hT] at h2; cases h2
  · exact False.elim p1⟩
theorem si_lst (h : SE X c W e f) : SI X c W tg e (iLstOf f) := (pi_list h).imp fun σ H R ⟨ρ, m, μ, E, M, p⟩ => ⟨ρ, m, μ, E, M, p.bind.imp fun μ1 H1 m1 u s1 M1 p1 v r => by
  split at p1
  · exact False.elim p1
  · rename_i hT
    cases q : srcOf m1 u with
    | none => rw [q] at p1; exact False.elim p1
    | some s =>
      rw [q] at p1
      obtain ⟨a, e1, h1⟩ := wk_of M1 r q
      rcases h1 with ⟨h2, _⟩ | ⟨_, h2, h3⟩
      · exact absurd h2 hT
      · exact ⟨a, e1, h2, p1.ok_at M1 _ h3⟩⟩
theorem wk_r {K : PySem.W.Frag} {H : Hp} {μ : List Addr} {lo : Int} {n : Nat} : WkOk K (Itr lo n) μ H (Src.fix (runI lo n)).next := wk_fix fun i μ1 H1 m mo M _ => by
  rw [runI_get]
  by_cases h : i < n
  · rw [if_pos h]
    refine ⟨h, fun x H' y => ?_⟩
    obtain ⟨e1, e2⟩ := y
    subst e1 e2
    exact ⟨.refl, M, .int _⟩
  · rw [if_neg h]
    exact Nat.le_of_not_lt h
theorem si_range1 {a : Expr} {p pos : Pos} (hp : PI X tg (.Call (.Name "range" p) [a] [] pos) (iRng1 (rdL (wX X c) W fl))) : SI X c W tg (.Call (.Name "range" p) [a] [] pos) (iRange1 fl) := hp.imp fun σ H R ⟨ρ, m, μ, E, M, p⟩ => ⟨ρ, m, μ, E, M, p.bind.imp fun μ1 H1 m1 us s1 M1 p1 vs r => by
  split at p1
  · rename_i j
    cases r with
    | cons r1 r2 =>
      cases r1; cases r2
      split at p1
      · rename_i hz
        exact ⟨j, rfl, hz.1, hz.2, p1.ok_at M1 _ wk_r⟩
      · exact False.elim p1
  · exact False.elim p1⟩
theorem si_range2 {a b : Expr} {p pos : Pos} (hp : PI X tg (.Call (.Name "range" p) [a, b] [] pos) (iRng2 (rdL (wX X c) W fl))) : SI X c W tg (.Call (.Name "range" p) [a, b] [] pos) (iRange2 fl) := hp.imp fun σ H R ⟨ρ, m, μ, E, M, p⟩ => ⟨ρ, m, μ, E, M, p.bind.imp fun μ1 H1 m1 us s1 M1 p1 vs r => by
  split at p1
  · rename_i i j
    cases r with
    | cons r1 r2 =>
      cases r2 with
      | cons r2 r3 =>
        cases r1; cases r2; cases r3
        split at p1
        · rename_i hz
          exact ⟨i, j, rfl, hz, p1.ok_at M1 _ wk_r⟩
        · exact False.elim p1
  · exact False.elim p1⟩
end
end Ev

set_option Elab.async false
set_option linter.all false
set_option maxRecDepth 100000
set_option maxHeartbeats 2000000
/-! Ev: list comprehensions. -/
namespace Ev
open PySem PySem.Spec L2

def wipeU (ρ : Env) : List Nat → Env
  | [] => ρ
  | v :: vs => (wipeU ρ vs).set v none
theorem wipeU_len (ρ : Env) : ∀ vs : List Nat, (wipeU ρ vs).length = ρ.length
  | [] => rfl
  | v :: vs => by rw [wipeU, List.length_set, wipeU_len ρ vs]
theorem wipeU_some {ρ : Env} {i : Nat} {x : U} : ∀ {vs : List Nat}, (wipeU ρ vs)[i]? = some (some x) → ρ[i]? = some (some x) ∧ i ∉ vs
  | [], h => ⟨h, by simp⟩
  | v :: vs, h => by
    rw [wipeU] at h
    by_cases hi : v = i
    · subst hi
      by_cases hv : v < (wipeU ρ vs).length
      · rw [List.getElem?_set_self hv] at h; cases h
      · rw [List.getElem?_eq_none (by simpa using hv)] at h; cases h
    · rw [List.getElem?_set_ne hi] at h
      obtain ⟨h1, h2⟩ := wipeU_some h
      exact ⟨h1, by simp only [List.mem_cons, not_or]; exact ⟨fun e => hi e.symm, h2⟩⟩
theorem EOk.wipe {K : PySem.W.Frag} {H : Hp} {μ : List Addr} {ρ : Env} {σ : L2.St} (E : EOk K H μ ρ σ) (vs : List Nat) : EOk K H μ (wipeU ρ vs) (wipe σ vs) :=
  ⟨by rw [wipeU_len, wipe_length, E.len], fun i u h => by
    obtain ⟨h1, h2⟩ := wipeU_some h
    obtain ⟨v, e, r⟩ := E.at_ i u h1
    exact ⟨v, by rw [wipe_out h2]; exact e, r⟩⟩
/-- a target that stores at vs alone -/
def GW (K : PySem.W.Frag) (g0 : TG) (g : GD) (vs : List Nat) : Prop := ∀ (u : U) (ρ : Env) (m : Mem) (v : V) (σ : L2.St) (H : Hp) (μ : List Addr) (Q : L2.St → Hp → Prop), RU K H μ u v → EOk K H μ ρ σ → MOk K H μ m →
  PostO K μ H (g u ρ m) (fun μ' H' _ ρ' => ∀ σ', EOk K H' μ' ρ' σ' → wipe σ' vs = wipe σ vs → Q σ' H') → g0 v σ H Q
def GWs (K : PySem.W.Frag) (g0 : TGs) (g : GL) (vs : List Nat) : Prop := ∀ (u : List U) (ρ : Env) (m : Mem) (v : List V) (σ : L2.St) (H : Hp) (μ : List Addr) (Q : L2.St → Hp → Prop), RUs K H μ u v → EOk K H μ ρ σ → MOk K H μ m →
  PostO K μ H (g u ρ m) (fun μ' H' _ ρ' => ∀ σ', EOk K H' μ' ρ' σ' → wipe σ' vs = wipe σ vs → Q σ' H') → g0 v σ H Q
theorem wipe_set {σ : L2.St} {i : Nat} {x : Option V} : ∀ {vs : List Nat}, i ∈ vs → wipe (σ.set i x) vs = wipe σ vs
  | v :: vs, h => by
    rw [L2.wipe, L2.wipe]
    by_cases hv : i ∈ vs
    · rw [wipe_set hv]
    · have e : i = v := by simpa [hv] using h
      subst e
      have com : ∀ (ws : List Nat), i ∉ ws → wipe (σ.set i x) ws = (wipe σ ws).set i x := by
        intro ws
        induction ws with
        | nil => intro _; rfl
        | cons w ws ih =>
          intro hw
          simp only [List.mem_cons, not_or] at hw
          rw [L2.wipe, L2.wipe, ih hw.2, List.set_comm]
          exact hw.1
      rw [com vs hv, List.set_set]
theorem gw_name {K : PySem.W.Frag} {i : Nat} {vs : List Nat} (h : i ∈ vs) : GW K (L2.gName i) (gName i) vs := fun u ρ m v σ H μ Q r E M p => p.here M _ (E.set r) (wipe_set h)
theorem gw_nil {K : PySem.W.Frag} {vs : List Nat} : GWs K L2.gNil gNil vs := fun u ρ m v σ H μ Q r E M p => by
  cases r with
  | nil => exact ⟨rfl, p.here M _ E rfl⟩
  | cons _ _ => exact no_op p
theorem gw_cons {K : PySem.W.Frag} {g0 : TG} {gs0 : TGs} {g : GD} {gs : GL} {vs : List Nat} (h1 : GW K g0 g vs) (h2 : GWs K gs0 gs vs) : GWs K (L2.gCons g0 gs0) (gCons g gs) vs := fun us ρ m v σ H μ Q r E M p => by
  cases r with
  | nil => exact no_op p
  | @cons u us v vs r1 r2 =>
    refine ⟨_, _, rfl, h1 u ρ m _ _ _ μ _ r1 E M ?_⟩
    unfold gCons at p
    simp only at p
    cases q : g u ρ m with
    | none => rw [q] at p; exact no_op p
    | some z =>
      obtain ⟨ρ1, m1⟩ := z
      rw [q] at p
      simp only at p
      exact fun μ1 H1 s1 M1 σ1 E1 w1 => h2 us ρ1 m1 _ _ _ μ1 _ (r2.step s1) E1 M1 (by
        cases q2 : gs us ρ1 m1 with
        | none => rw [q2] at p; exact no_op p
        | some z => rw [q2] at p; exact fun μ2 H2 s2 M2 σ2 E2 w2 => p μ2 H2 (s1.trans s2) M2 σ2 E2 (w2.trans w1))
theorem gw_tup {K : PySem.W.Frag} {gs0 : TGs} {gs : GL} {n : Nat} {vs : List Nat} (h : GWs K gs0 gs vs) : GW K (L2.gTup K n gs0) (gTup n gs) vs := fun u ρ m v σ H μ Q r E M p => by
  cases r with
  | tup hq t =>
    unfold gTup at p
    simp only at p
    split at p
    · rename_i hl
      exact ⟨_, _, rfl, hq, by rw [← t.length]; exact hl, h _ ρ m _ _ _ μ _ t E M p⟩
    · exact no_op p
  | _ => exact no_op p

/-! ### [e for g in s if t] -/
def compL (g : GD) (t : XT) (e : XD) (ρ : Env) : List U → Mem → O (List U)
  | [], m => some ([], m)
  | u :: us, m => match g u ρ m with
    | none => none
    | some (ρ1, m1) => match toO (t ρ1 m1) with
      | none => none
      | some (b, m2) => if b then match toO (e ρ1 m2) with
          | none => none
          | some (y, m3) => match compL g t e ρ us m3 with
            | none => none
            | some (ys, m4) => some (y :: ys, m4)
        else compL g t e ρ us m2
def compN (nx : Nat → Mem → Option (Option U)) (g : GD) (t : XT) (e : XD) (ρ : Env) : Nat → Nat → Mem → O (List U)
  | 0, _, _ => none
  | k + 1, i, m => match nx i m with
    | none => none
    | some none => some ([], m)
    | some (some u) => match g u ρ m with
      | none => none
      | some (ρ1, m1) => match toO (t ρ1 m1) with
        | none => none
        | some (b, m2) => if b then match toO (e ρ1 m2) with
            | none => none
            | some (y, m3) => match compN nx g t e ρ k (i + 1) m3 with
              | none => none
              | some (ys, m4) => some (y :: ys, m4)
          else compN nx g t e ρ k (i + 1) m2
def compR (g : GD) (t : XT) (e : XD) (ρ : Env) : Src → Mem → O (List U)
  | .fix us => compL g t e ρ us
  | .dyn k nx => compN nx g t e ρ k 0
def oList (o : O (List U)) : O U := match o with
  | some (us, m) => if us.length ≤ sizeLine then some (.ref m.length, m ++ [.lst us]) else none
  | none => none
def dLc (f : ID) (g : GD) (t : XT) (e : XD) (vs : List Nat) : XD := fun ρ m => (f ρ m).bind fun s m1 => ofO (oList (compR g t e (wipeU ρ vs) s m1))
def tYesU : XT := fun _ m => .ok true m
theorem compL_N {us : List U} {g : GD} {t : XT} {e : XD} {ρ : Env} : ∀ (k i : Nat), i ≤ us.length → us.length < i + k → compL g t e ρ (us.drop i) = compN (Src.fix us).next g t e ρ k i
  | 0, i, h, h2 => by omega
  | k + 1, i, h, h2 => by
    funext m
    rw [compN, fix_next h]
    by_cases hi : i < us.length
    · have e : us.drop i = us[i] :: us.drop (i + 1) := List.drop_eq_getElem_cons hi
      have e2 : us[i]? = some us[i] := List.getElem?_eq_getElem hi
      rw [e, compL, compL_N k (i + 1) hi (by omega), e2]
    · have e : us.drop i = [] := List.drop_eq_nil_of_le (by omega)
      have e2 : us[i]? = none := List.getElem?_eq_none (by omega)
      rw [e, e2]
      rfl
theorem compR_N (s : Src) (g : GD) (t : XT) (e : XD) (ρ : Env) : ∃ k, compR g t e ρ s = compN s.next g t e ρ k 0 := by
  cases s with
  | fix us => exact ⟨us.length + 1, by have := compL_N (us := us) (g := g) (t := t) (e := e) (ρ := ρ) (us.length + 1) 0 (Nat.zero_le _) (by omega); rw [List.drop_zero] at this; exact this⟩
  | dyn k nx => exact ⟨k, rfl⟩
section
variable {K : PySem.W.Frag} {H H1 : Hp} {μ μ1 : List Addr} {D : Addr} {xs ys : List V}
/-- the new list grows: what was ahead of it is as it was -/
theorem Step.grow (s : Step K μ1 H1 μ H) (hD : H1 D = none) (hL : H D = some (.lst xs)) : Step K μ1 H1 μ (upd H D (.lst ys)) := by
  have ne : ∀ b o, H1 b = some o → b ≠ D := fun b o h => ne_of_none h hD
  refine ⟨s.ext, fun b o h n hp => by rw [upd_ne (ne b o h)]; exact s.keep b o h n hp, fun b o h n => ?_, fun a vs h => kt_set hL rfl a vs (s.kt a vs h), fun b o u h => by rw [upd_ne (ne b _ h)]; exact s.fz b o u h⟩
  obtain ⟨h1, o', h2⟩ := s.stay b o h n
  exact ⟨h1, o', by rw [upd_ne (ne b o h)]; exact h2⟩
theorem Mono.grow (hL : H D = some (.lst xs)) : Mono K μ H μ (upd H D (.lst ys)) := ⟨⟨[], by simp⟩, kt_set hL rfl, fun b o u h => by
  rw [upd_ne fun z => by subst z; rw [hL] at h; cases h]; exact h⟩
end
section
variable {X : Cx} {c : Nat → Addr} {W : WX} {e : Expr} {f : ID} {g0 : TG} {g : GD} {t : XT} {fe : XD} {vs : List Nat}
/-- the reading of a comprehension, by its function -/
theorem lc_of (hg : GW X.K g0 g vs) {σ : L2.St} {H : Hp} {Q : VK} (q : rdE (wX X c) W (dLc f g t fe vs) σ H Q) :
    tLc (rdI (wX X c) W f) g0 (rdT (wX X c) (fun _ _ _ _ => False) t) (rdE (wX X c) (fun _ _ _ _ => False) fe) vs σ H Q := by
  obtain ⟨ρ, m, μ, E, M, p⟩ := q
  refine ⟨ρ, m, μ, E, M, p.bind.imp fun μ1 H1 m1 src s1 M1 p1 J hJ D hD => ?_⟩
  obtain ⟨k, hk⟩ := compR_N src g t fe (wipeU ρ vs)
  rw [hk] at p1
  have p1 := p1.o
  have E1 := (E.step s1).wipe vs
  -- acc ahead, what is left behind
  let Fin : List U → O (List U) → Prop := fun acc o => match o with
    | some (ys, m') => (acc ++ ys).length ≤ sizeLine ∧ ∀ μ' H', Step X.K μ1 H1 μ' H' → MOk X.K H' μ' (m' ++ [.lst (acc ++ ys)]) → ∀ v, RU X.K H' μ' (.ref m'.length) v → Q v H'
    | none => False
  have fin0 : Fin [] (compN src.next g t fe (wipeU ρ vs) k 0 m1) := by
    cases q : compN src.next g t fe (wipeU ρ vs) k 0 m1 with
    | none => rw [q] at p1; exact p1
    | some z =>
      obtain ⟨ys, m'⟩ := z
      rw [q] at p1
      unfold oList at p1
      simp only at p1
      split at p1
      · rename_i hz
        exact ⟨hz, fun μ' H' s' M' => p1 μ' H' s' M'⟩
      · exact no_op p1
  refine ⟨fun i n H => ∃ (m : Mem) (μ : List Addr) (acc : List U) (accV : List V), Step X.K μ1 H1 μ H ∧ D ∉ μ ∧ H D = some (.lst accV) ∧ RUs X.K H μ acc accV ∧ MOk X.K H μ m ∧ Fin acc (compN src.next g t fe (wipeU ρ vs) n i m),
    ⟨k, m1, μ1, [], [], .newT hD, M1.nin hD, upd_same, .nil, M1.newT hD, fin0⟩, ?_⟩
  rintro i n H ⟨m, μ, acc, accV, st, nD, hL, ra, M, fin⟩
  cases n with
  | zero => exact False.elim fin
  | succ n =>
    have hj := hJ i μ H m st.mono M
    rw [compN] at fin
    cases e : src.next i m with
    | none => simp only [e] at fin; exact False.elim fin
    | some o =>
      cases o with
      | none =>
        simp only [e] at fin hj
        refine .inl ⟨hj, ?_⟩
        obtain ⟨hz, fin⟩ := fin
        rw [List.append_nil] at fin
        refine fin (μ ++ [D]) H ⟨?_, st.keep, fun b o h n => ?_, st.kt, st.fz⟩ ?_ _ (.ref (by rw [← M.len]; simp))
        · obtain ⟨tt, e2⟩ := st.ext
          exact ⟨tt ++ [D], by rw [e2, List.append_assoc]⟩
        · obtain ⟨h1, h2⟩ := st.stay b o h n
          exact ⟨fun z => by
            rcases List.mem_append.mp z with z | z
            · exact h1 z
            · exact ne_of_none h hD (by simpa using z), h2⟩
        · have mo : Mono X.K μ H (μ ++ [D]) H := ⟨⟨[D], rfl⟩, fun _ _ h => h, fun _ _ _ h => h⟩
          refine ⟨by simp [M.len], ?_, fun k a d h1 h2 => ?_⟩
          · rw [List.nodup_append]
            exact ⟨M.nd, by simp, fun x hx y hy e => nD (by rw [← (by simpa using hy : y = D), ← e]; exact hx)⟩
          · by_cases hn : k < μ.length
            · rw [List.getElem?_append_left hn] at h1
              rw [List.getElem?_append_left (by rw [← M.len]; exact hn)] at h2
              exact (M.cell k a d h1 h2).mo mo rfl
            · rw [List.getElem?_append_right (Nat.le_of_not_lt hn)] at h1
              rw [List.getElem?_append_right (by rw [← M.len]; exact Nat.le_of_not_lt hn)] at h2
              have h1' : a = D ∧ k - μ.length = 0 := by
                cases e : k - μ.length with
                | zero => rw [e] at h1; simp at h1; exact ⟨h1.symm, rfl⟩
                | succ k => rw [e] at h1; simp at h1
              rw [M.len] at h1'
              rw [h1'.2] at h2
              simp at h2
              subst h2
              rw [h1'.1]
              exact ⟨accV, hL, ra.mo mo⟩
      | some u =>
        simp only [e] at fin hj
        refine .inr ⟨hj.1, fun H' => ∃ (m : Mem) (μ : List Addr) (acc : List U) (accV : List V), Step X.K μ1 H1 μ H' ∧ D ∉ μ ∧ H' D = some (.lst accV) ∧ RUs X.K H' μ acc accV ∧ MOk X.K H' μ m ∧ Fin acc (compN src.next g t fe (wipeU ρ vs) n (i + 1) m), fun H' z => ⟨n, Nat.lt_succ_self n, z⟩, fun x H' y => ?_⟩
        obtain ⟨s2, M2, r2⟩ := hj.2 x H' y
        have E2 := (E1.step st).step s2
        refine hg u (wipeU ρ vs) m x _ H' μ _ r2 E2 M2 ?_
        cases q1 : g u (wipeU ρ vs) m with
        | none => simp only [q1] at fin; exact False.elim fin
        | some z =>
          obtain ⟨ρ3, m3⟩ := z
          simp only [q1] at fin
          refine fun μ3 H3 s3 M3 σ3 E3 w3 => ⟨w3.trans ?_, ?_⟩
          · -- wiped twice
            have idem : ∀ (σ : L2.St) (ws us : List Nat), (∀ i ∈ ws, i ∈ us) → wipe (wipe σ ws) us = wipe σ us := by
              intro σ ws
              induction ws with
              | nil => intro us _; rfl
              | cons w ws ih =>
                intro us h
                rw [show wipe σ (w :: ws) = (wipe σ ws).set w none from rfl, wipe_set (h w (by simp)), ih us fun i hi => h i (by simp [hi])]
            exact idem σ vs vs fun _ h => h
          cases q2 : toO (t ρ3 m3) with
          | none => simp only [q2] at fin; exact False.elim fin
          | some z =>
            obtain ⟨b, m4⟩ := z
            simp only [q2] at fin
            refine ⟨ρ3, m3, μ3, E3, M3, toO_post (w := wX X c) q2 fun μ4 H4 s4 M4 => ?_⟩
            have st4 := ((st.trans s2).trans s3).trans s4
            have stay4 := ((s2.trans s3).trans s4)
            have hL4 : H4 D = some (.lst accV) := stay4.keep D _ hL nD (fun ps z => by cases z)
            have nD4 := (stay4.stay D _ hL nD).1
            have ra4 := ra.step stay4
            cases b with
            | false => exact ⟨m4, μ4, acc, accV, st4, nD4, hL4, ra4, M4, fin⟩
            | true =>
              simp only [if_true] at fin ⊢
              cases q3 : toO (fe ρ3 m4) with
              | none => simp only [q3] at fin; exact False.elim fin
              | some z =>
                obtain ⟨y, m5⟩ := z
                simp only [q3] at fin
                refine ⟨ρ3, m4, μ4, E3.step s4, M4, toO_post (w := wX X c) q3 fun μ5 H5 s5 M5 v5 r5 => ?_⟩
                have hL5 : H5 D = some (.lst accV) := s5.keep D _ hL4 nD4 (fun ps z => by cases z)
                have nD5 := (s5.stay D _ hL4 nD4).1
                have ra5 := ra4.step s5
                have st5 := st4.trans s5
                have mo := Mono.grow (K := X.K) (μ := μ5) (ys := accV ++ [v5]) hL5
                cases q4 : compN src.next g t fe (wipeU ρ vs) n (i + 1) m5 with
                | none => rw [q4] at fin; exact False.elim fin
                | some z =>
                  obtain ⟨ys, m6⟩ := z
                  rw [q4] at fin
                  obtain ⟨hz, fin⟩ := fin
                  refine ⟨accV, hL5, ?_, m5, μ5, acc ++ [y], accV ++ [v5], st5.grow hD hL5, nD5, upd_same, (ra5.append (.cons r5 .nil)).mo mo, M5.mo mo fun a ha => by rw [upd_ne fun z : a = D => nD5 (by rw [← z]; exact ha)], ?_⟩
                  · have := ra5.length
                    rw [List.length_append, List.length_cons] at hz
                    omega
                  · rw [q4]
                    refine ⟨?_, ?_⟩
                    · rw [List.append_assoc]; exact hz
                    · rw [List.append_assoc]; exact fin
theorem se_lc (hg : GW X.K g0 g vs) (h : PE X e (tLc (rdI (wX X c) W f) g0 (rdT (wX X c) (fun _ _ _ _ => False) t) (rdE (wX X c) (fun _ _ _ _ => False) fe) vs)) : SE X c W e (dLc f g t fe vs) := h.imp fun σ H Q q => lc_of hg q
/-- name = [..] -/
theorem ss_lc {i : Nat} {st : Stmt} (hg : GW X.K g0 g vs) (h : PS X st (tAsg (tLc (rdI (wX X c) W f) g0 (rdT (wX X c) (fun _ _ _ _ => False) t) (rdE (wX X c) (fun _ _ _ _ => False) fe) vs) (L2.gName i))) : SS X c W st (sAsg (dLc f g t fe vs) (gName i)) :=
  h.imp fun D σ H ⟨ρ, m, μ, E, M, p⟩ => lc_of (W := W) hg ⟨ρ, m, μ, E, M, (PostS.thenE E p).imp fun μ1 H1 m1 u s1 M1 p1 v r => by
    have p2 := PostS.thenO p1
    exact (p2 μ1 H1 .refl M1).nx M1 ((E.step s1).set r)⟩
def rdTs (w : W0) (W : WX) (f : XT) : TT := rdT w W f
theorem sts_nil : PTs X [] (rdT (wX X c) W tYesU) := ⟨fun p s σ H Q I ⟨ρ, m, μ, E, M, q⟩ => pts_nil.run p s σ H Q I (q.ok_at M)⟩
theorem sts_one {d : Expr} (h : ST X c W d t) : PTs X [d] (rdT (wX X c) W t) := pts_one h
end
end Ev

set_option Elab.async false
set_option linter.all false
set_option maxRecDepth 100000
set_option maxHeartbeats 2000000
/-! Ev: defs, their calls, raise; calls of built-ins. -/
namespace Ev
open PySem PySem.Spec L2

/-! ### a def -/
def finS : RS → R U
  | .ok (.rt u) _ m => .ok u m
  | .ok .nx _ m => .ok .non m
  | .err x _ m => .err x m
  | _ => .bad
/-- a body with l names, called with us -/
def runB (l n : Nat) (b : SD) (us : List U) (m : Mem) : R U := if us.length = n then finS (b (us.map some ++ List.replicate (l - us.length) none) m) else .bad
def spF (K : PySem.W.Frag) (c : Nat → Addr) (n : Nat) (F : List U → Mem → R U) : Sp := fun vs H Q E => vs.length = n ∧ ∃ us m μ, RUs K H μ us vs ∧ MOk K H μ m ∧ Post ⟨K, c⟩ (fun cls d _ H' => E cls d H') [] μ H (F us m) fun μ' H' _ u => ∀ v, RU K H' μ' u v → Q v H'
theorem start_ok {K : PySem.W.Frag} {H : Hp} {μ : List Addr} {us : List U} {vs : List V} {N : List Str} (r : RUs K H μ us vs) : EOk K H μ (us.map some ++ List.replicate (N.length - us.length) none) (L2.start N vs) := by
  unfold L2.start
  refine ⟨by simp [r.length], fun i u h => ?_⟩
  by_cases hi : i < us.length
  · rw [List.getElem?_append_left (by simpa using hi), List.getElem?_map] at h
    cases e : us[i]? with
    | none => rw [e] at h; cases h
    | some x =>
      rw [e] at h
      cases h
      obtain ⟨v, h1, h2⟩ := r.get e
      refine ⟨v, ?_, h2⟩
      rw [List.getElem?_append_left (by rw [List.length_map, ← r.length]; exact hi), List.getElem?_map, h1]
      rfl
  · rw [List.getElem?_append_right (by simpa using Nat.le_of_not_lt hi)] at h
    have := List.mem_of_getElem? h
    rw [List.mem_replicate] at this
    cases this.2
section
variable {P : Program} {w : World} {K : PySem.W.Frag} {mg : Str → Option Value} {base : Heap} {c : Nat → Addr}
theorem fn_ev {x qual : Str} {st : Stmt} {f : Addr} {fd : FuncData} {N ps : List Str} {k : Nat} {b : SD} (F : Fun K x qual st f fd) (S : FnScope N ps (defScope st))
    (hbody : ∀ (cdv : Value) (A : Around) (outer : List PySem.Env) (s : Shared) (H : Hp) (E : XK), Room k (A.deeper (PyProof.Rows.envOfC qual (defScope st) s.heap.objs.size f cdv)) →
      SB (cxOf (L2.CX P w) P w K mg base N qual (defScope st) f cdv A outer s H E) c (fun cls d _ H' => E cls d H') (defBody st) b) : FnOk P w K mg base (L2.CX P w) (k + 1) f fd ps (spF K c ps.length (runB N.length ps.length b)) :=
  F.okX S (fun vs H Q E h => h.1) fun cdv A outer s H vs Q E hr h => ⟨_, hbody cdv A outer s H E hr, by
    obtain ⟨hl, us, m, μ, r, M, p⟩ := h
    have hu : us.length = ps.length := r.length.trans hl
    unfold runB at p
    rw [if_pos hu] at p
    refine ⟨_, m, μ, start_ok r, M, ?_⟩
    cases e : b (us.map some ++ List.replicate (N.length - us.length) none) m with
    | bad => rw [e] at p; exact False.elim p
    | err x ρ' m' => rw [e] at p; exact fun μ' H' σ' d s' M' _ ex => p μ' H' d s' M' ex
    | ok fl ρ' m' =>
      rw [e] at p
      cases fl with
      | nx => exact fun μ' H' σ' s' M' _ => p μ' H' s' M' _ .non
      | rt u => exact fun μ' H' σ' s' M' _ => p μ' H' s' M'
      | bk => exact False.elim p
      | ct => exact False.elim p⟩
theorem fn_ev2 {x qual : Str} {st : Stmt} {f : Addr} {fd : FuncData} {N ps : List Str} {k l n : Nat} {b : SD} {F0 : List U → Mem → R U} (F : Fun K x qual st f fd) (S : FnScope N ps (defScope st)) (hl : N.length = l) (hn : ps.length = n) (hF : F0 = runB l n b)
    (hbody : ∀ (cdv : Value) (A : Around) (outer : List PySem.Env) (s : Shared) (H : Hp) (E : XK), Room k (A.deeper (PyProof.Rows.envOfC qual (defScope st) s.heap.objs.size f cdv)) →
      SB (cxOf (L2.CX P w) P w K mg base N qual (defScope st) f cdv A outer s H E) c (fun cls d _ H' => E cls d H') (defBody st) b) : FnOk P w K mg base (L2.CX P w) (k + 1) f fd ps (spF K c n F0) := by
  subst hl hn hF
  exact fn_ev F S hbody
end
section
variable {X : Cx} {c : Nat → Addr} {W : WX} {e : Expr} {f : XD} {fr : XL} {es : List Expr}
theorem se_call {st : Expr} {n : Nat} {F : List U → Mem → R U} (h : PE X st (tCallS (spF X.K c n F) (WE W) (rdL (wX X c) W fr))) (hn : ∀ us m, us.length ≠ n → F us m = .bad) : SE X c W st (dCall F fr) :=
  h.imp fun σ H Q ⟨ρ, m, μ, E, M, p⟩ => ⟨ρ, m, μ, E, M, p.bind.imp fun μ1 H1 m1 us s1 M1 p1 vs rs => by
    have hu : us.length = n := by
      by_cases h : us.length = n
      · exact h
      · rw [hn us m1 h] at p1; exact False.elim p1
    refine ⟨rs.length.symm.trans hu, us, m1, μ1, rs, M1, ?_⟩
    cases q : F us m1 with
    | ok u m2 => rw [q] at p1; exact p1
    | err x m2 => rw [q] at p1; exact p1
    | bad => rw [q] at p1; exact p1⟩
theorem runB_bad {l n : Nat} {b : SD} : ∀ us m, us.length ≠ n → runB l n b us m = .bad := fun us m h => by unfold runB; rw [if_neg h]
/-! raise X('..') of a class without an own __init__ -/
def sRaise (k : Nat) : SD := fun ρ m => .err ⟨k, none⟩ ρ m
def sBad : SD := fun _ _ => .bad
theorem ss_raise {k : Nat} {st : Stmt} (h : PS X st (fun _ σ H => W (.ref (c k)) none σ H)) : SS X c W st (sRaise k) :=
  h.imp fun D σ H ⟨ρ, m, μ, E, M, p⟩ => p μ H σ none .refl M E rfl
theorem ss_never {st : Stmt} : SS X c W st sBad := ps_never.imp fun D σ H ⟨ρ, m, μ, E, M, p⟩ => p
/-! ### built-ins -/
theorem se_b {st : Expr} {F : List U → Mem → O U} (h : PE X st (tCB (rdC X.K F) (rdL (wX X c) W fr))) : SE X c W st (dB F fr) :=
  h.imp fun σ H Q ⟨ρ, m, μ, E, M, p⟩ => ⟨ρ, m, μ, E, M, p.bind.imp fun μ1 H1 m1 us s1 M1 p1 vs rs => ⟨us, m1, μ1, rs, M1, p1.o⟩⟩
end

def oLen : List U → Mem → O U
  | [.str z], m => if z.length ≤ sizeLine then some (.int z.length, m) else none
  | [.ref n], m => match m[n]? with
    | some (.lst us) => some (.int us.length, m)
    | some (.dK kvs) => some (.int kvs.length, m)
    | _ => none
  | [.tup us], m => some (.int us.length, m)
  | [.rol us], m => some (.int us.length, m)
  | _, _ => none
def oAbs : List U → Mem → O U
  | [.int i], m => some (.int (if i < 0 then -i else i), m)
  | _, _ => none
def oInt : List U → Mem → O U
  | [.int i], m => some (.int i, m)
  | [.bl b], m => some (.int (if b then 1 else 0), m)
  | _, _ => none
def oMax2 : List U → Mem → O U
  | [.int i, .int j], m => some (.int (if j > i then j else i), m)
  | _, _ => none
def oMin2 : List U → Mem → O U
  | [.int i, .int j], m => some (.int (if j < i then j else i), m)
  | _, _ => none
def oToTup : List U → Mem → O U
  | [u], m => (itemsOf m u).map fun us => (.tup us, m)
  | _, _ => none
def oToLst : List U → Mem → O U
  | [u], m => (itemsOf m u).map fun us => (.ref m.length, m ++ [.lst us])
  | _, _ => none
def bools : List U → Option (List Bool)
  | [] => some []
  | .bl b :: r => (bools r).map (b :: ·)
  | _ :: _ => none
def nums : List U → Option (List Int)
  | [] => some []
  | .int b :: r => (nums r).map (b :: ·)
  | _ :: _ => none
def oAll : List U → Mem → O U
  | [.ref n], m => match m[n]? with
    | some (.lst us) => (bools us).map fun bs => (.bl (bs.all id), m)
    | _ => none
  | _, _ => none
def oAny : List U → Mem → O U
  | [.ref n], m => match m[n]? with
    | some (.lst us) => (bools us).map fun bs => (.bl (bs.any id), m)
    | _ => none
  | _, _ => none
theorem bools_ok {K : PySem.W.Frag} {H : Hp} {μ : List Addr} : ∀ {us : List U} {vs : List V} {bs : List Bool}, RUs K H μ us vs → bools us = some bs → vs = bs.map V.bl
  | _, _, _, .nil, h => by cases h; rfl
  | _, _, _, .cons r t, h => by
    cases r with
    | bl b =>
      rw [bools] at h
      cases q : bools _ with
      | none => rw [q] at h; cases h
      | some bs => rw [q] at h; cases h; rw [bools_ok t q]; rfl
    | _ => cases h
theorem nums_ok {K : PySem.W.Frag} {H : Hp} {μ : List Addr} : ∀ {us : List U} {vs : List V} {bs : List Int}, RUs K H μ us vs → nums us = some bs → vs = bs.map V.int
  | _, _, _, .nil, h => by cases h; rfl
  | _, _, _, .cons r t, h => by
    cases r with
    | int b =>
      rw [nums] at h
      cases q : nums _ with
      | none => rw [q] at h; cases h
      | some bs => rw [q] at h; cases h; rw [nums_ok t q]; rfl
    | _ => cases h
theorem RUs.one {K : PySem.W.Frag} {H : Hp} {μ : List Addr} {u : U} {vs : List V} (r : RUs K H μ [u] vs) : ∃ v, vs = [v] ∧ RU K H μ u v := by
  cases r with | cons r t => cases t; exact ⟨_, rfl, r⟩
theorem RUs.two {K : PySem.W.Frag} {H : Hp} {μ : List Addr} {u z : U} {vs : List V} (r : RUs K H μ [u, z] vs) : ∃ v y, vs = [v, y] ∧ RU K H μ u v ∧ RU K H μ z y := by
  cases r with | cons r t => cases t with | cons r2 t => cases t; exact ⟨_, _, rfl, r, r2⟩
theorem RU.i {K : PySem.W.Frag} {H : Hp} {μ : List Addr} {i : Int} {v : V} (r : RU K H μ (.int i) v) : v = .int i := by cases r; rfl
theorem RU.s {K : PySem.W.Frag} {H : Hp} {μ : List Addr} {i : Str} {v : V} (r : RU K H μ (.str i) v) : v = .str i := by cases r; rfl
theorem RU.b {K : PySem.W.Frag} {H : Hp} {μ : List Addr} {i : Bool} {v : V} (r : RU K H μ (.bl i) v) : v = .bl i := by cases r; rfl
theorem RU.cl {K : PySem.W.Frag} {H : Hp} {μ : List Addr} {m : Mem} (M : MOk K H μ m) {n : Nat} {v : V} {us : List U} (r : RU K H μ (.ref n) v) (e : m[n]? = some (.lst us)) : ∃ a vs, v = .ref a ∧ μ[n]? = some a ∧ H a = some (.lst vs) ∧ RUs K H μ us vs := by
  cases r with
  | ref h =>
    obtain ⟨vs, q, t⟩ := M.cell _ _ _ h e
    exact ⟨_, vs, rfl, h, q, t⟩
section
variable {X : Cx}
theorem b_len : CallR X (.builtin "len") (rdC X.K oLen) := by
  intro pins s σ H xs us Q I rx h
  obtain ⟨vs, m, μ, r, M, p⟩ := h
  unfold oLen at p
  split at p
  · obtain ⟨v, rfl, r1⟩ := r.one
    cases r1.s
    split at p
    · rename_i hz
      exact call_len pins s σ H _ us Q I rx ⟨_, _, rfl, ⟨hz, rfl⟩, p.val M (.int _)⟩
    · exact no_op p
  · obtain ⟨v, rfl, r1⟩ := r.one
    split at p
    · rename_i e1
      obtain ⟨a, ws, rfl, _, hq, t⟩ := r1.cl M e1
      refine call_len_seq pins s σ H _ us Q I rx ⟨a, ws, rfl, .inl (SqL.of hq), ?_⟩
      rw [← t.length]
      exact p.val M (.int _)
    · rename_i e1
      cases r1 with
      | ref h =>
        obtain ⟨ws, hq, t⟩ := M.cell _ _ _ h e1
        refine call_lenD pins s σ H _ us Q I rx ⟨_, ws, rfl, hq, ?_⟩
        have : ws.length = _ := (Paired.length t).symm
        rw [this]
        exact p.val M (.int _)
    · exact no_op p
  · obtain ⟨v, rfl, r1⟩ := r.one
    cases r1 with
    | tup hq t =>
      refine call_len_seq pins s σ H _ us Q I rx ⟨_, _, rfl, .inr hq, ?_⟩
      rw [← t.length]
      exact p.val M (.int _)
  · obtain ⟨v, rfl, r1⟩ := r.one
    cases r1 with
    | rol hq t =>
      refine call_len_seq pins s σ H _ us Q I rx ⟨_, _, rfl, .inl (rol_sq hq), ?_⟩
      rw [← t.length]
      exact p.val M (.int _)
  · exact no_op p
theorem b_abs : CallR X (.builtin "abs") (rdC X.K oAbs) := by
  intro pins s σ H xs us Q I rx h
  obtain ⟨vs, m, μ, r, M, p⟩ := h
  unfold oAbs at p
  split at p
  · obtain ⟨v, rfl, r1⟩ := r.one
    cases r1.i
    exact call_abs pins s σ H _ us Q I rx ⟨_, rfl, p.val M (.int _)⟩
  · exact no_op p
theorem b_int : CallR X (.type "int") (rdC X.K oInt) := by
  intro pins s σ H xs us Q I rx h
  obtain ⟨vs, m, μ, r, M, p⟩ := h
  unfold oInt at p
  split at p
  · obtain ⟨v, rfl, r1⟩ := r.one
    cases r1.i
    exact call_int1 pins s σ H _ us Q I rx (.inl ⟨_, rfl, p.val M (.int _)⟩)
  · obtain ⟨v, rfl, r1⟩ := r.one
    cases r1.b
    exact call_int1 pins s σ H _ us Q I rx (.inr ⟨_, rfl, p.val M (.int _)⟩)
  · exact no_op p
theorem b_max2 (hc : X.calm = true) : CallR X (.builtin "max") (rdC X.K oMax2) := by
  intro pins s σ H xs us Q I rx h
  obtain ⟨vs, m, μ, r, M, p⟩ := h
  unfold oMax2 at p
  split at p
  · obtain ⟨v, y, rfl, r1, r2⟩ := r.two
    cases r1.i; cases r2.i
    exact call_max2 hc pins s σ H _ us Q I rx ⟨_, _, rfl, p.val M (.int _)⟩
  · exact no_op p
theorem b_min2 (hc : X.calm = true) : CallR X (.builtin "min") (rdC X.K oMin2) := by
  intro pins s σ H xs us Q I rx h
  obtain ⟨vs, m, μ, r, M, p⟩ := h
  unfold oMin2 at p
  split at p
  · obtain ⟨v, y, rfl, r1, r2⟩ := r.two
    cases r1.i; cases r2.i
    exact call_min2 hc pins s σ H _ us Q I rx ⟨_, _, rfl, p.val M (.int _)⟩
  · exact no_op p
theorem b_tuple : CallR X (.type "tuple") (rdC X.K oToTup) := by
  intro pins s σ H xs us Q I rx h
  obtain ⟨vs, m, μ, r, M, p⟩ := h
  unfold oToTup at p
  split at p
  · obtain ⟨v, rfl, r1⟩ := r.one
    cases e : itemsOf m _ with
    | none => rw [e] at p; exact no_op p
    | some ws =>
      rw [e] at p
      obtain ⟨a, zs, rfl, hq, t, h1, h2⟩ := items_ok M r1 e
      cases hT : isT _ with
      | true => exact call_tuple_of pins s σ H _ us Q I rx ⟨a, zs, rfl, .inr ⟨h1 hT, p.val M (.tup (h1 hT) t)⟩⟩
      | false => exact call_tuple_of pins s σ H _ us Q I rx ⟨a, zs, rfl, .inl ⟨h2 hT, fun l hl => p.tup M t hl⟩⟩
  · exact no_op p
theorem b_list : CallR X (.type "list") (rdC X.K oToLst) := by
  intro pins s σ H xs us Q I rx h
  obtain ⟨vs, m, μ, r, M, p⟩ := h
  unfold oToLst at p
  split at p
  · obtain ⟨v, rfl, r1⟩ := r.one
    cases e : itemsOf m _ with
    | none => rw [e] at p; exact no_op p
    | some ws =>
      rw [e] at p
      obtain ⟨a, zs, rfl, hq, t, h1, h2⟩ := items_ok M r1 e
      exact call_list_of pins s σ H _ us Q I rx ⟨a, zs, rfl, hq, fun l hl => p.lst M t hl⟩
  · exact no_op p
theorem b_all (hc : X.calm = true) : CallR X (.builtin "all") (rdC X.K oAll) := by
  intro pins s σ H xs us Q I rx h
  obtain ⟨vs, m, μ, r, M, p⟩ := h
  unfold oAll at p
  split at p
  · obtain ⟨v, rfl, r1⟩ := r.one
    split at p
    · rename_i e1
      obtain ⟨a, ws, rfl, _, hq, t⟩ := r1.cl M e1
      cases e2 : bools _ with
      | none => rw [e2] at p; exact no_op p
      | some bs =>
        rw [e2] at p
        have := bools_ok t e2
        subst this
        exact cr_all hc pins s σ H _ us Q I rx ⟨a, bs, rfl, SqL.of hq, p.val M (.bl _)⟩
    · exact no_op p
  · exact no_op p
theorem b_any (hc : X.calm = true) : CallR X (.builtin "any") (rdC X.K oAny) := by
  intro pins s σ H xs us Q I rx h
  obtain ⟨vs, m, μ, r, M, p⟩ := h
  unfold oAny at p
  split at p
  · obtain ⟨v, rfl, r1⟩ := r.one
    split at p
    · rename_i e1
      obtain ⟨a, ws, rfl, _, hq, t⟩ := r1.cl M e1
      cases e2 : bools _ with
      | none => rw [e2] at p; exact no_op p
      | some bs =>
        rw [e2] at p
        have := bools_ok t e2
        subst this
        exact cr_any hc pins s σ H _ us Q I rx ⟨a, bs, rfl, SqL.of hq, p.val M (.bl _)⟩
    · exact no_op p
  · exact no_op p
end

/-! ### isinstance -/
inductive Ty where
  | int | str | tuple | list | dict | bool
def Ty.nm : Ty → String
  | .int => "int" | .str => "str" | .tuple => "tuple" | .list => "list" | .dict => "dict" | .bool => "bool"
def Ty.isL : Ty → Bool
  | .list => true
  | _ => false
def Ty.isD : Ty → Bool
  | .dict => true
  | _ => false
def isTy (m : Mem) : Ty → U → Option Bool
  | t, .non => some false
  | .int, .bl _ => some true
  | .bool, .bl _ => some true
  | _, .bl _ => some false
  | .int, .int _ => some true
  | _, .int _ => some false
  | .str, .str _ => some true
  | _, .str _ => some false
  | .tuple, .tup _ => some true
  | _, .tup _ => some false
  | .list, .rol _ => some true
  | _, .rol _ => some false
  | t, .ref n => match m[n]? with
    | some (.lst _) => some t.isL
    | some (.dF _) => none
    | some _ => some t.isD
    | none => none
  | _, .ob _ => none
def dIsi (T : Ty) (f : XD) : XD := fun ρ m => (f ρ m).bind fun u m1 => match isTy m1 T u with
  | some b => .ok (.bl b) m1
  | none => .bad
theorem tyX_tup {K : PySem.W.Frag} {H : Hp} {a : Addr} {xs : List V} (h : SqT K H a xs) : TyX K H (.ref a) (.type "tuple") := by
  rcases h with (h | ⟨o, h⟩) | ⟨o, its, n, h, hc, _⟩
  · exact .base (.tup h)
  · exact .fTuple h
  · exact .kTuple h hc
theorem tyX_lst {K : PySem.W.Frag} {H : Hp} {a : Addr} {xs : List V} (h : SqL K H a xs) : TyX K H (.ref a) (.type "list") := by
  rcases h with (h | ⟨o, h⟩) | ⟨o, its, n, h, hc, _⟩
  · exact .base (.lst h)
  · exact .base (.frz h)
  · exact .kList h hc
section
variable {X : Cx} {c : Nat → Addr} {W : WX} {f : XD}
theorem se_isi {T : Ty} {st : Expr} (h : PE X st (tCB (rIsi X.K) (tCons (rdE (wX X c) W f) (tCons (tC (.ty T.nm)) tNil)))) : SE X c W st (dIsi T f) :=
  h.imp fun σ H Q ⟨ρ, m, μ, E, M, p⟩ => ⟨ρ, m, μ, E, M, p.bind.imp fun μ1 H1 m1 u s1 M1 p1 v r => by
    have fin : ∀ {b : Bool} {n : String}, isTy m1 T u = some b → TyX X.K H1 v (.type n) → kitB n T.nm = some b → rIsi X.K [v, .ty T.nm] H1 Q := fun {b n} e ty k => by
      rw [e] at p1
      exact ⟨v, _, _, _, b, rfl, .ty _, ty, kit_ty k, p1.ok_at M1 _ (.bl b)⟩
    show rIsi X.K [v, .ty T.nm] H1 Q
    cases r with
    | non => cases T <;> exact fin rfl (.base .non) (by decide +kernel)
    | bl b => cases T <;> exact fin rfl (.base (.bl b)) (by decide +kernel)
    | int i => cases T <;> exact fin rfl (.base (.int i)) (by decide +kernel)
    | str i => cases T <;> exact fin rfl (.base (.str i)) (by decide +kernel)
    | tup hq t => cases T <;> exact fin rfl (tyX_tup hq) (by decide +kernel)
    | rol hq t => cases T <;> exact fin rfl (tyX_lst (rol_sq hq)) (by decide +kernel)
    | @ref n a hn =>
      have M1' := M1.cell n a
      cases e : m1[n]? with
      | none => cases T <;> (simp only [isTy, e] at p1; exact False.elim p1)
      | some k =>
        cases k with
        | lst us =>
          obtain ⟨vs, hq, t⟩ := M1' _ hn e
          have e' : isTy m1 T (.ref n) = some T.isL := by cases T <;> simp [isTy, e]
          cases T <;> exact fin e' (tyX_lst (SqL.of hq)) (by decide +kernel)
        | dK us =>
          obtain ⟨vs, hq, t⟩ := M1' _ hn e
          have e' : isTy m1 T (.ref n) = some T.isD := by cases T <;> simp [isTy, e]
          cases T <;> exact fin e' (.base (.dK hq)) (by decide +kernel)
        | dT us =>
          obtain ⟨vs, hq, t⟩ := M1' _ hn e
          have e' : isTy m1 T (.ref n) = some T.isD := by cases T <;> simp [isTy, e]
          cases T <;> exact fin e' (.base (.dT hq)) (by decide +kernel)
        | dF us => cases T <;> (simp only [isTy, e] at p1; exact False.elim p1)
    | ob w => cases T <;> (simp only [isTy] at p1; exact False.elim p1)⟩
end
end Ev

set_option Elab.async false
set_option linter.all false
set_option maxRecDepth 100000
set_option maxHeartbeats 2000000
/-! Ev: methods of built-in types; sums, orders, walks of several things. -/
namespace Ev
open PySem PySem.Spec L2

def rdM (K : PySem.W.Frag) (F : U → List U → Mem → O U) : V → List V → Hp → VK → Prop := fun x xs H Q => ∃ u us m μ, RU K H μ u x ∧ RUs K H μ us xs ∧ MOk K H μ m ∧ PostO K μ H (F u us m) fun μ' H' _ z => ∀ v, RU K H' μ' z v → Q v H'
inductive MTy where
  | list | str | dict
def MTy.nm : MTy → String
  | .list => "list" | .str => "str" | .dict => "dict"
def isMT (m : Mem) : MTy → U → Bool
  | .list, .rol _ => true
  | .list, .ref n => match m[n]? with
    | some (.lst _) => true
    | _ => false
  | .dict, .ref n => match m[n]? with
    | some (.dK _) => true
    | some (.dT _) => true
    | _ => false
  | .str, .str _ => true
  | _, _ => false
theorem isMT_ok {K : PySem.W.Frag} {H : Hp} {μ : List Addr} {m : Mem} (M : MOk K H μ m) {T : MTy} {u : U} {v : V} (r : RU K H μ u v) (h : isMT m T u = true) : tyV K T.nm v H := by
  unfold isMT at h
  split at h
  · cases r with | rol hq t => exact .inl ⟨rfl, _, rol_sq hq⟩
  · split at h
    · rename_i e
      obtain ⟨a, vs, rfl, _, hq, _⟩ := r.cl M e
      exact .inl ⟨rfl, _, SqL.of hq⟩
    · cases h
  · cases r with
    | ref hn =>
      split at h
      · rename_i e
        obtain ⟨vs, hq, _⟩ := M.cell _ _ _ hn e
        exact .inr (.inr (.inl ⟨rfl, .inl ⟨_, hq⟩⟩))
      · rename_i e
        obtain ⟨vs, hq, _⟩ := M.cell _ _ _ hn e
        exact .inr (.inr (.inl ⟨rfl, .inr ⟨_, hq⟩⟩))
      · cases h
  · cases r; rfl
  · cases h
def dM (T : MTy) (F : U → List U → Mem → O U) (fo : XD) (fr : XL) : XD := fun ρ m => (fo ρ m).bind fun o m1 => if isMT m1 T o then (fr ρ m1).bind fun us m2 => ofO (F o us m2) else .bad
def dM0 (T : MTy) (F : U → List U → Mem → O U) (fo : XD) : XD := fun ρ m => (fo ρ m).bind fun o m1 => if isMT m1 T o then ofO (F o [] m1) else .bad
section
variable {X : Cx} {c : Nat → Addr} {W : WX} {fo : XD} {fr : XL}
theorem se_m {T : MTy} {F : U → List U → Mem → O U} {st : Expr} (h : PE X st (tBM X.K T.nm (rdM X.K F) (rdE (wX X c) W fo) (rdL (wX X c) W fr))) : SE X c W st (dM T F fo fr) :=
  h.imp fun σ H Q ⟨ρ, m, μ, E, M, p⟩ => ⟨ρ, m, μ, E, M, p.bind.imp fun μ1 H1 m1 u s1 M1 p1 v r => by
    split at p1
    · rename_i hT
      exact ⟨isMT_ok M1 r hT, ρ, m1, μ1, E.step s1, M1, p1.bind.imp fun μ2 H2 m2 us s2 M2 p2 vs rs => ⟨u, us, m2, μ2, r.step s2, rs, M2, p2.o⟩⟩
    · exact False.elim p1⟩
theorem se_m0 {T : MTy} {F : U → List U → Mem → O U} {st : Expr} (h : PE X st (tBM0 X.K T.nm (rdM X.K F) (rdE (wX X c) W fo))) : SE X c W st (dM0 T F fo) :=
  h.imp fun σ H Q ⟨ρ, m, μ, E, M, p⟩ => ⟨ρ, m, μ, E, M, p.bind.imp fun μ1 H1 m1 u s1 M1 p1 v r => by
    split at p1
    · rename_i hT
      exact ⟨isMT_ok M1 r hT, u, [], m1, μ1, r, .nil, M1, p1.o⟩
    · exact False.elim p1⟩
end
/-! ### of lists -/
def oAppend : U → List U → Mem → O U
  | .ref n, [u], m => match m[n]? with
    | some (.lst us) => if us.length < sizeLine then some (.non, m.set n (.lst (us ++ [u]))) else none
    | _ => none
  | _, _, _ => none
def oExtend : U → List U → Mem → O U
  | .ref n, [.ref k], m => match m[n]?, m[k]? with
    | some (.lst us), some (.lst ws) => if us.length + ws.length ≤ sizeLine then some (.non, m.set n (.lst (us ++ ws))) else none
    | _, _ => none
  | _, _, _ => none
def oPop : U → List U → Mem → O U
  | .ref n, [], m => match m[n]? with
    | some (.lst us) => (us[us.length - 1]?).map fun u => (u, m.set n (.lst us.dropLast))
    | _ => none
  | .ref n, [.int i], m => match m[n]? with
    | some (.lst us) => if -(2 ^ 63) ≤ i ∧ i < 2 ^ 63 then (match seqIndex? i us.length with
      | some k => (us[k]?).map fun u => (u, m.set n (.lst (us.eraseIdx k)))
      | none => none) else none
    | _ => none
  | _, _, _ => none
def oCountI : U → List U → Mem → O U
  | u, [.int k], m => match itemsOf m u with
    | some us => if isT u then none else (nums us).map fun ns => (.int (ns.count k : Nat), m)
    | none => none
  | _, _, _ => none
theorem RUs.dropLast {K : PySem.W.Frag} {H : Hp} {μ : List Addr} {us : List U} {vs : List V} (r : RUs K H μ us vs) : RUs K H μ us.dropLast vs.dropLast := by
  rw [List.dropLast_eq_take, List.dropLast_eq_take, r.length]
  exact r.take _
theorem RUs.erase {K : PySem.W.Frag} {H : Hp} {μ : List Addr} : ∀ {us : List U} {vs : List V} (k : Nat), RUs K H μ us vs → RUs K H μ (us.eraseIdx k) (vs.eraseIdx k)
  | _, _, _, .nil => .nil
  | _, _, 0, .cons _ t => t
  | _, _, k + 1, .cons r t => .cons r (RUs.erase k t)
section
variable {X : Cx}
/-- a cell's list becomes another one -/
theorem PostO.setL {K : PySem.W.Frag} {μ : List Addr} {H : Hp} {m : Mem} {n : Nat} {a : Addr} {vs vs' : List V} {us' : List U} {z : U} {v : V} {Q : VK} (p : PostO K μ H (some (z, m.set n (.lst us'))) fun μ' H' _ z => ∀ v, RU K H' μ' z v → Q v H') (M : MOk K H μ m) (hn : μ[n]? = some a) (hq : H a = some (.lst vs)) (t : RUs K H μ us' vs')
    (r : RU K H μ z v) : Q v (upd H a (.lst vs')) :=
  p μ _ (.set (List.mem_of_getElem? hn) hq rfl) (M.set hn hq rfl ⟨vs', upd_same, t.step (.set (List.mem_of_getElem? hn) hq rfl)⟩) v (r.step (.set (List.mem_of_getElem? hn) hq rfl))
theorem m_append : MtR X "list.append" (rdM X.K oAppend) := by
  intro pins s σ H x xs v us Q I rx rxs h
  obtain ⟨u, ws, m, μ, r, rs, M, p⟩ := h
  unfold oAppend at p
  split at p
  · split at p
    · rename_i e
      split at p
      · rename_i hz
        obtain ⟨y, rfl, ry⟩ := rs.one
        obtain ⟨a, vs, rfl, hn, hq, t⟩ := r.cl M e
        exact mt_append pins s σ H _ _ v us Q I rx rxs ⟨a, vs, y, rfl, rfl, hq, by rw [← t.length]; exact hz, p.setL M hn hq (t.append (.cons ry .nil)) .non⟩
      · exact no_op p
    · exact no_op p
  · exact no_op p
theorem m_extend : MtR X "list.extend" (rdM X.K oExtend) := by
  intro pins s σ H x xs v us Q I rx rxs h
  obtain ⟨u, ws, m, μ, r, rs, M, p⟩ := h
  unfold oExtend at p
  split at p
  · split at p
    · rename_i e e2
      split at p
      · rename_i hz
        obtain ⟨y, rfl, ry⟩ := rs.one
        obtain ⟨a, vs, rfl, hn, hq, t⟩ := r.cl M e
        obtain ⟨b, zs, rfl, hn2, hq2, t2⟩ := ry.cl M e2
        exact mt_extend pins s σ H _ _ v us Q I rx rxs ⟨a, b, vs, zs, rfl, rfl, hq, hq2, by rw [← t.length, ← t2.length]; exact hz, p.setL M hn hq (t.append t2) .non⟩
      · exact no_op p
    · exact no_op p
  · exact no_op p
theorem m_pop : MtR X "list.pop" (rdM X.K oPop) := by
  intro pins s σ H x xs v us Q I rx rxs h
  obtain ⟨u, ws, m, μ, r, rs, M, p⟩ := h
  unfold oPop at p
  split at p
  · split at p
    · rename_i us1 e
      cases e3 : us1[us1.length - 1]? with
      | none => rw [e3] at p; exact no_op p
      | some z =>
        rw [e3] at p
        obtain ⟨a, vs, rfl, hn, hq, t⟩ := r.cl M e
        obtain ⟨y, h1, ry⟩ := t.get e3
        cases rs
        exact mt_pop pins s σ H _ _ v us Q I rx rxs ⟨a, vs, y, rfl, rfl, hq, by rw [← t.length]; exact h1, p.setL M hn hq t.dropLast ry⟩
    · exact no_op p
  · split at p
    · rename_i us1 e
      split at p
      · rename_i hz
        split at p
        · rename_i k ek
          cases e3 : us1[k]? with
          | none => rw [e3] at p; exact no_op p
          | some z =>
            rw [e3] at p
            obtain ⟨a, vs, rfl, hn, hq, t⟩ := r.cl M e
            obtain ⟨y, h1, ry⟩ := t.get e3
            obtain ⟨y2, rfl, r2⟩ := rs.one
            cases r2.i
            exact mt_popAt pins s σ H _ _ v us Q I rx rxs ⟨a, vs, _, k, y, rfl, rfl, hq, hz.1, hz.2, by rw [← t.length]; exact ek, h1, p.setL M hn hq (t.erase k) ry⟩
        · exact no_op p
      · exact no_op p
    · exact no_op p
  · exact no_op p
theorem m_countI : MtR X "list.count" (rdM X.K oCountI) := by
  intro pins s σ H x xs v us Q I rx rxs h
  obtain ⟨u, ws, m, μ, r, rs, M, p⟩ := h
  unfold oCountI at p
  split at p
  · split at p
    · rename_i us1 e
      split at p
      · exact no_op p
      · rename_i hT
        cases e2 : nums us1 with
        | none => rw [e2] at p; exact no_op p
        | some ns =>
          rw [e2] at p
          obtain ⟨y, rfl, ry⟩ := rs.one
          cases ry.i
          obtain ⟨a, vs, rfl, hq, t, h1, h2⟩ := items_ok M r e
          have hl := h2 (by simpa using hT)
          rw [nums_ok t e2] at hl
          exact mt_lcount pins s σ H _ _ v us Q I rx rxs ⟨a, ns, _, rfl, rfl, hl, p.val M (.int _)⟩
    · exact no_op p
  · exact no_op p
end
/-! ### of texts -/
def txts : List U → Option (List Str)
  | [] => some []
  | .str b :: r => (txts r).map (b :: ·)
  | _ :: _ => none
theorem txts_ok {K : PySem.W.Frag} {H : Hp} {μ : List Addr} : ∀ {us : List U} {vs : List V} {bs : List Str}, RUs K H μ us vs → txts us = some bs → vs = bs.map V.str
  | _, _, _, .nil, h => by cases h; rfl
  | _, _, _, .cons r t, h => by
    cases r with
    | str b =>
      rw [txts] at h
      cases q : txts _ with
      | none => rw [q] at h; cases h
      | some bs => rw [q] at h; cases h; rw [txts_ok t q]; rfl
    | _ => cases h
/-- a text's method without arguments -/
def oS0 (ok : Str → Bool) (f : Str → U) : U → List U → Mem → O U
  | .str z, [], m => if ok z then some (f z, m) else none
  | _, _, _ => none
def oS1 (ok : Str → Str → Bool) (f : Str → Str → U) : U → List U → Mem → O U
  | .str z, [.str y], m => if ok z y then some (f z y, m) else none
  | _, _, _ => none
def oSI (f : Str → Str → Int → U) : U → List U → Mem → O U
  | .str z, [.str y, .int i], m => some (f z y i, m)
  | _, _, _ => none
def lenOk (z : Str) : Bool := decide (z.length ≤ sizeLine)
def oStrip := oS0 lenOk fun z => .str (Txt.strip z)
def oRstrip := oS0 lenOk fun z => .str (Txt.rstrip z)
def oLower := oS0 (fun z => decide (z.length ≤ 5592405)) fun z => .str (Txt.lower z)
def oIsdigit := oS0 (fun _ => true) fun z => .bl (Txt.isdigit z)
def oIsalpha := oS0 (fun _ => true) fun z => .bl (Txt.isalpha z)
def oIsascii := oS0 (fun _ => true) fun z => .bl (Txt.isascii z)
def oIsprintable := oS0 (fun _ => true) fun z => .bl (Txt.isprintable z)
def oFind := oS1 (fun _ _ => true) fun z y => .int (Txt.find z y)
def oFind3 := oSI fun z y i => .int (Txt.find3 z y i)
section
variable {X : Cx}
theorem m_s0 {id : String} {ok : Str → Bool} {f : Str → U} {C : Str → Prop} {g : Str → V} (h : MtR X id (fun x xs H Q => ∃ a, x = .str a ∧ xs = [] ∧ C a ∧ Q (g a) H)) (hc : ∀ z, ok z = true → C z) (hr : ∀ (K : PySem.W.Frag) H μ z, RU K H μ (f z) (g z)) : MtR X id (rdM X.K (oS0 ok f)) := by
  intro pins s σ H x xs v us Q I rx rxs q
  obtain ⟨u, ws, m, μ, r, rs, M, p⟩ := q
  unfold oS0 at p
  split at p
  · split at p
    · rename_i hz
      cases r.s; cases rs
      exact h pins s σ H _ _ v us Q I rx rxs ⟨_, rfl, rfl, hc _ hz, p.val M (hr _ _ _ _)⟩
    · exact no_op p
  · exact no_op p
theorem m_s1 {id : String} {ok : Str → Str → Bool} {f : Str → Str → U} {g : Str → Str → V} (h : MtR X id (fun x xs H Q => ∃ a b, x = .str a ∧ xs = [.str b] ∧ Q (g a b) H)) (hr : ∀ (K : PySem.W.Frag) H μ z y, RU K H μ (f z y) (g z y)) : MtR X id (rdM X.K (oS1 ok f)) := by
  intro pins s σ H x xs v us Q I rx rxs q
  obtain ⟨u, ws, m, μ, r, rs, M, p⟩ := q
  unfold oS1 at p
  split at p
  · split at p
    · obtain ⟨y, rfl, ry⟩ := rs.one
      cases r.s; cases ry.s
      exact h pins s σ H _ _ v us Q I rx rxs ⟨_, _, rfl, rfl, p.val M (hr _ _ _ _ _)⟩
    · exact no_op p
  · exact no_op p
theorem m_strip : MtR X "str.strip" (rdM X.K oStrip) := m_s0 (C := fun a => a.length ≤ sizeLine) (g := fun a => .str (Txt.strip a)) mt_strip (fun z h => of_decide_eq_true h) fun _ _ _ _ => .str _
theorem m_rstrip : MtR X "str.rstrip" (rdM X.K oRstrip) := m_s0 (C := fun a => a.length ≤ sizeLine) (g := fun a => .str (Txt.rstrip a)) mt_rstrip (fun z h => of_decide_eq_true h) fun _ _ _ _ => .str _
theorem m_lower : MtR X "str.lower" (rdM X.K oLower) := m_s0 (C := fun a => a.length ≤ 5592405) (g := fun a => .str (Txt.lower a)) mt_lower (fun z h => of_decide_eq_true h) fun _ _ _ _ => .str _
theorem m_isdigit : MtR X "str.isdigit" (rdM X.K oIsdigit) := m_s0 (C := fun _ => True) (g := fun a => .bl (Txt.isdigit a)) mt_isdigit (fun z h => trivial) fun _ _ _ _ => .bl _
theorem m_isalpha : MtR X "str.isalpha" (rdM X.K oIsalpha) := m_s0 (C := fun _ => True) (g := fun a => .bl (Txt.isalpha a)) mt_isalpha (fun z h => trivial) fun _ _ _ _ => .bl _
theorem m_isascii : MtR X "str.isascii" (rdM X.K oIsascii) := m_s0 (C := fun _ => True) (g := fun a => .bl (Txt.isascii a)) mt_isascii (fun z h => trivial) fun _ _ _ _ => .bl _
theorem m_isprintable : MtR X "str.isprintable" (rdM X.K oIsprintable) := m_s0 (C := fun _ => True) (g := fun a => .bl (Txt.isprintable a)) mt_isprintable (fun z h => trivial) fun _ _ _ _ => .bl _
theorem m_find : MtR X "str.find" (rdM X.K oFind) := m_s1 (g := fun a b => .int (Txt.find a b)) mt_find fun _ _ _ _ _ => .int _
theorem m_find3 : MtR X "str.find" (rdM X.K oFind3) := by
  intro pins s σ H x xs v us Q I rx rxs q
  obtain ⟨u, ws, m, μ, r, rs, M, p⟩ := q
  unfold oFind3 oSI at p
  split at p
  · obtain ⟨y, y2, rfl, ry, r2⟩ := rs.two
    cases r.s; cases ry.s; cases r2.i
    exact mt_find3 pins s σ H _ _ v us Q I rx rxs ⟨_, _, _, rfl, rfl, p.val M (.int _)⟩
  · exact no_op p
end
/-! ### sum, max, min of ints -/
def oSum : List U → Mem → O U
  | [u], m => match itemsOf m u with
    | some us => if isT u then none else (nums us).map fun ns => (.int ns.sum, m)
    | none => none
  | _, _ => none
def maxL : Int → List Int → Int
  | x, [] => x
  | x, y :: r => maxL (if y > x then y else x) r
def minL : Int → List Int → Int
  | x, [] => x
  | x, y :: r => minL (if y < x then y else x) r
def oMaxL : List U → Mem → O U
  | [u], m => match itemsOf m u with
    | some us => if isT u then none else match nums us with
      | some (n :: ns) => some (.int (maxL n ns), m)
      | _ => none
    | none => none
  | _, _ => none
def oMinL : List U → Mem → O U
  | [u], m => match itemsOf m u with
    | some us => if isT u then none else match nums us with
      | some (n :: ns) => some (.int (minL n ns), m)
      | _ => none
    | none => none
  | _, _ => none
theorem maxL_ok : ∀ (l : List Int) (x : Int), maxL x l ∈ x :: l ∧ ∀ y ∈ x :: l, y ≤ maxL x l
  | [], x => by simp [maxL]
  | y :: r, x => by
    obtain ⟨h1, h2⟩ := maxL_ok r (if y > x then y else x)
    rw [maxL]
    refine ⟨?_, fun z hz => ?_⟩
    · rcases List.mem_cons.mp h1 with e | e
      · rw [e]; split <;> simp
      · exact List.mem_cons_of_mem _ (List.mem_cons_of_mem _ e)
    · have h3 := h2 (if y > x then y else x) (by simp)
      have h4 : x ≤ (if y > x then y else x) ∧ y ≤ (if y > x then y else x) := by split <;> omega
      rcases List.mem_cons.mp hz with e | hz
      · subst e; exact Int.le_trans h4.1 h3
      · rcases List.mem_cons.mp hz with e | hz
        · subst e; exact Int.le_trans h4.2 h3
        · exact h2 z (List.mem_cons_of_mem _ hz)
theorem minL_ok : ∀ (l : List Int) (x : Int), minL x l ∈ x :: l ∧ ∀ y ∈ x :: l, minL x l ≤ y
  | [], x => by simp [minL]
  | y :: r, x => by
    obtain ⟨h1, h2⟩ := minL_ok r (if y < x then y else x)
    rw [minL]
    refine ⟨?_, fun z hz => ?_⟩
    · rcases List.mem_cons.mp h1 with e | e
      · rw [e]; split <;> simp
      · exact List.mem_cons_of_mem _ (List.mem_cons_of_mem _ e)
    · have h3 := h2 (if y < x then y else x) (by simp)
      have h4 : x ≥ (if y < x then y else x) ∧ y ≥ (if y < x then y else x) := by split <;> omega
      rcases List.mem_cons.mp hz with e | hz
      · subst e; exact Int.le_trans h3 h4.1
      · rcases List.mem_cons.mp hz with e | hz
        · subst e; exact Int.le_trans h3 h4.2
        · exact h2 z (List.mem_cons_of_mem _ hz)
section
variable {X : Cx}
theorem b_sum (hc : X.calm = true) : CallR X (.builtin "sum") (rdC X.K oSum) := by
  intro pins s σ H xs us Q I rx h
  obtain ⟨vs, m, μ, r, M, p⟩ := h
  unfold oSum at p
  split at p
  · obtain ⟨v, rfl, r1⟩ := r.one
    split at p
    · rename_i us1 e
      split at p
      · exact no_op p
      · rename_i hT
        cases e2 : nums us1 with
        | none => rw [e2] at p; exact no_op p
        | some ns =>
          rw [e2] at p
          obtain ⟨a, vs, rfl, hq, t, h1, h2⟩ := items_ok M r1 e
          have hl := h2 (by simpa using hT)
          rw [nums_ok t e2] at hl
          exact cr_sum hc pins s σ H _ us Q I rx ⟨a, ns, rfl, hl, p.val M (.int _)⟩
    · exact no_op p
  · exact no_op p
theorem b_maxL (hc : X.calm = true) : CallR X (.builtin "max") (rdC X.K oMaxL) := by
  intro pins s σ H xs us Q I rx h
  obtain ⟨vs, m, μ, r, M, p⟩ := h
  unfold oMaxL at p
  split at p
  · obtain ⟨v, rfl, r1⟩ := r.one
    split at p
    · rename_i us1 e
      split at p
      · exact no_op p
      · rename_i hT
        split at p
        · rename_i n ns e2
          obtain ⟨a, vs, rfl, hq, t, h1, h2⟩ := items_ok M r1 e
          have hl := h2 (by simpa using hT)
          rw [nums_ok t e2] at hl
          refine cr_max hc pins s σ H _ us Q I rx ⟨a, n :: ns, rfl, hl, Nat.succ_pos _, fun k hk hy => ?_⟩
          obtain ⟨g1, g2⟩ := maxL_ok ns n
          have : k = maxL n ns := Int.le_antisymm (g2 k hk) (hy _ g1)
          rw [this]
          exact p.val M (.int _)
        · exact no_op p
    · exact no_op p
  · exact no_op p
theorem b_minL (hc : X.calm = true) : CallR X (.builtin "min") (rdC X.K oMinL) := by
  intro pins s σ H xs us Q I rx h
  obtain ⟨vs, m, μ, r, M, p⟩ := h
  unfold oMinL at p
  split at p
  · obtain ⟨v, rfl, r1⟩ := r.one
    split at p
    · rename_i us1 e
      split at p
      · exact no_op p
      · rename_i hT
        split at p
        · rename_i n ns e2
          obtain ⟨a, vs, rfl, hq, t, h1, h2⟩ := items_ok M r1 e
          have hl := h2 (by simpa using hT)
          rw [nums_ok t e2] at hl
          refine cr_min hc pins s σ H _ us Q I rx ⟨a, n :: ns, rfl, hl, Nat.succ_pos _, fun k hk hy => ?_⟩
          obtain ⟨g1, g2⟩ := minL_ok ns n
          have : k = minL n ns := Int.le_antisymm (hy _ g1) (g2 k hk)
          rw [this]
          exact p.val M (.int _)
        · exact no_op p
    · exact no_op p
  · exact no_op p
def oDivmod : List U → Mem → O U
  | [.int i, .int j], m => if 0 < j ∧ j < 1073741824 then some (.tup [.int (i / j), .int (i % j)], m) else none
  | _, _ => none
theorem b_divmod : CallR X (.builtin "divmod") (rdC X.K oDivmod) := by
  intro pins s σ H xs us Q I rx h
  obtain ⟨vs, m, μ, r, M, p⟩ := h
  unfold oDivmod at p
  split at p
  · obtain ⟨v, y, rfl, r1, r2⟩ := r.two
    cases r1.i; cases r2.i
    split at p
    · rename_i hz
      exact call_divmod pins s σ H _ us Q I rx ⟨_, _, rfl, hz, fun a ha => p.tup M (.cons (.int _) (.cons (.int _) .nil)) ha⟩
    · exact no_op p
  · exact no_op p
end
end Ev

set_option Elab.async false
set_option linter.all false
set_option maxRecDepth 100000
set_option maxHeartbeats 4000000
namespace EvF
open PySem L2 PyProof.Rows
/-! ### walks over lists, tuples and texts alike -/
def signsV (z : Str) : List V := z.cps.toList.map fun c => .str ⟨#[c]⟩
/-- what an iterator over such a value stands on -/
inductive IK | lst (a : Addr) | tup (a : Addr) | str (z : Str) (t : Tok)
def IK.At (it : Addr) (i : Nat) (h : Heap) : IK → Prop
  | .lst a => h.IsListIter it a i
  | .tup a => h.IsTupleIter it a i
  | .str z t => h.IsStrIter it (strIterType z) z t i
def IK.obj : IK → Obj
  | .lst a => { cls := .type "list_iterator", data := .fields #[.ref a, .int 0 0] }
  | .tup a => { cls := .type "tuple_iterator", data := .fields #[.ref a, .int 0 0] }
  | .str z t => { cls := .type (strIterType z), data := .fields #[.str z t, .int 0 0] }
def IK.val : IK → Value
  | .lst a => .ref a
  | .tup a => .ref a
  | .str z t => .str z t
/-- the kind fits what the value is -/
inductive IK.Fits (K : PySem.W.Frag) (H : Hp) (xs : List V) : IK → Prop
  | lst {a : Addr} (h : SqL K H a xs) : Fits K H xs (.lst a)
  | tup {a : Addr} (h : SqT K H a xs) : Fits K H xs (.tup a)
  | str (z : Str) (t : Tok) (e : xs = signsV z) : Fits K H xs (.str z t)
theorem strIter_ne (z : Str) : strIterType z ≠ "list" ∧ strIterType z ≠ "tuple" ∧ strIterType z ≠ "enumerate" ∧ strIterType z ≠ "zip" := by
  unfold strIterType
  split <;> decide
theorem IK.has {k : IK} {it : Addr} {i : Nat} {h : Heap} (a : k.At it i h) : ∃ (o : Obj) (n : String), h.get? it = some o ∧ o.cls = .type n ∧ n ≠ "list" ∧ n ≠ "tuple" ∧ n ≠ "enumerate" ∧ n ≠ "zip" ∧ ∀ v, o.data ≠ .cell v := by
  cases k with
  | lst l => obtain ⟨o, ho, hc, hd⟩ := a; exact ⟨o, _, ho, hc, by decide, by decide, by decide, by decide, fun v q => by rw [hd] at q; cases q⟩
  | tup l => obtain ⟨o, ho, hc, hd⟩ := a; exact ⟨o, _, ho, hc, by decide, by decide, by decide, by decide, fun v q => by rw [hd] at q; cases q⟩
  | str z t => obtain ⟨o, ho, hc, hd⟩ := a; have s := strIter_ne z; exact ⟨o, _, ho, hc, s.1, s.2.1, s.2.2.1, s.2.2.2, fun v q => by rw [hd] at q; cases q⟩
theorem IK.keep {k : IK} {it : Addr} {i : Nat} {h h' : Heap} (a : k.At it i h) (q : ∀ o, h.get? it = some o → h'.get? it = some o) : k.At it i h' := by
  cases k <;> (obtain ⟨o, ho, r⟩ := a; exact ⟨o, q o ho, r⟩)
theorem IK.first {k : IK} {it : Addr} {h : Heap} (e : h.get? it = some k.obj) : k.At it 0 h := by
  cases k <;> exact ⟨_, e, rfl, rfl⟩
theorem cls_ne {h : Heap} {a b : Addr} {o p : Obj} {m n : String} (ho : h.get? a = some o) (hc : o.cls = .type m) (hp : h.get? b = some p) (hd : p.cls = .type n) (hmn : m ≠ n) : a ≠ b := by
  rintro rfl
  rw [ho] at hp
  obtain rfl := Option.some.inj hp
  rw [hc] at hd
  exact hmn (by injection hd)
section
variable {X : Cx} {pins : List (Addr × Obj)} {σ : L2.St} {H : Hp} {s : Shared}
/-- the iterator's own law -/
theorem IK.draws {k : IK} {xs : List V} {it : Addr} {i : Nat} (I : Inv X pins σ H s) (hA : X.A.handled = none) (f : k.Fits X.K H xs) (st : k.At it i s.heap) :
    ∃ (fp : List Addr) (P : Nat → Value → Prop) (Sn : Nat → Heap → Prop), Draws X.prog X.w X.A.in1 it fp xs.length P Sn ∧ Sn i s.heap ∧ it ∈ fp ∧ (∀ b ∈ fp, ∃ (o : Obj) (n : String), s.heap.get? b = some o ∧ o.cls = .type n ∧ n ≠ "enumerate" ∧ n ≠ "zip") ∧
      (∀ j u, P j u → ∃ x, xs[j]? = some x ∧ RelV x u) ∧ (∀ j h, Sn j h → k.At it j h) := by
  obtain ⟨oi, ni, hi1, hi2, h1, h2, h3, h4, _⟩ := IK.has st
  cases f with
  | @lst a h =>
    obtain ⟨its, r, p, z⟩ := I.list h
    obtain ⟨ol, hl1, hl2⟩ := p.isList
    have ne : a ≠ it := cls_ne hl1 hl2.1 hi1 hi2 (Ne.symm h1)
    have D := Draws.list (prog := X.prog) (w := X.w) (A := X.A.in1) hA it a ne its.toArray
    rw [List.size_toArray, ← r.length] at D
    refine ⟨_, _, _, D, ⟨st, p.isList⟩, by simp, fun b hb => ?_, fun j u hu => ?_, fun j h st => st.1⟩
    · rcases List.mem_cons.mp hb with rfl | hb
      · exact ⟨oi, ni, hi1, hi2, h3, h4⟩
      · obtain rfl := List.mem_singleton.mp hb
        exact ⟨ol, _, hl1, hl2.1, by decide, by decide⟩
    · have hu' : its[j]? = some u := by simpa using hu
      have hj : j < xs.length := by rw [r.length]; exact (List.getElem?_eq_some_iff.mp hu').1
      obtain ⟨u', e', r'⟩ := r.get (List.getElem?_eq_getElem hj)
      rw [hu'] at e'
      obtain rfl := Option.some.inj e'
      exact ⟨_, List.getElem?_eq_getElem hj, r'⟩
  | @tup a h =>
    obtain ⟨its, r, p, z⟩ := I.tuple h
    obtain ⟨ol, hl1, hl2⟩ := id p
    have ne : a ≠ it := cls_ne hl1 hl2.1 hi1 hi2 (Ne.symm h2)
    have D := Draws.tuple (prog := X.prog) (w := X.w) (A := X.A.in1) hA it a ne its.toArray
    rw [List.size_toArray, ← r.length] at D
    refine ⟨_, _, _, D, ⟨st, p⟩, by simp, fun b hb => ?_, fun j u hu => ?_, fun j h st => st.1⟩
    · rcases List.mem_cons.mp hb with rfl | hb
      · exact ⟨oi, ni, hi1, hi2, h3, h4⟩
      · obtain rfl := List.mem_singleton.mp hb
        exact ⟨ol, _, hl1, hl2.1, by decide, by decide⟩
    · have hu' : its[j]? = some u := by simpa using hu
      have hj : j < xs.length := by rw [r.length]; exact (List.getElem?_eq_some_iff.mp hu').1
      obtain ⟨u', e', r'⟩ := r.get (List.getElem?_eq_getElem hj)
      rw [hu'] at e'
      obtain rfl := Option.some.inj e'
      exact ⟨_, List.getElem?_eq_getElem hj, r'⟩
  | str z t e =>
    subst e
    have D := Draws.text (prog := X.prog) (w := X.w) (A := X.A.in1) hA it z t
    rw [show z.cps.size = (signsV z).length by unfold signsV; simp] at D
    refine ⟨_, _, _, D, st, by simp, fun b hb => ?_, fun j u hu => ?_, fun j h st => st⟩
    · obtain rfl := List.mem_singleton.mp hb
      exact ⟨oi, ni, hi1, hi2, h3, h4⟩
    · obtain ⟨c, tk, hc, rfl⟩ := hu
      refine ⟨.str ⟨#[c]⟩, ?_, ⟨_, rfl⟩⟩
      unfold signsV
      rw [List.getElem?_map, Array.getElem?_toList, hc]
      rfl
end
end EvF
namespace EvF
open PySem L2 PyProof.Rows
open PySem.Sem (wp)
/-- the heap behind enumerate(v): its iterator o, and itself -/
abbrev enH (h : Heap) (o : Obj) : Heap := (h.push o).push { cls := .type "enumerate", data := .fields #[.none, .bool false, .ref h.objs.size, rawInt 0, .none, .none] }
theorem meets_enum1 {v : Value} {o : Obj} {G : Heap → Prop} (B : Begins v o G) :
    Meets (Builtin.«enumerate.__new__» ⟨[.type "enumerate", v], []⟩) (fun _ R s => G s.heap ∧ R (.ok (.ret (.ref (s.heap.push o).objs.size))) { s with heap := enH s.heap o }) :=
  .of_wp fun prog w A R s h => by
    obtain ⟨hp, gs, dr, tk, os⟩ := s; obtain ⟨hg, h⟩ := h
    have sub1 := sub_enumerate
    have it1 : ∀ {A' : Around} {E' : Value → Shared → Prop} {Q' : Value → Shared → Prop}, Q' (.ref hp.objs.size) ⟨hp.push o, gs, dr, tk, os⟩ → wpAny (model prog w) A' (pyIter v) Q' E' ⟨hp, gs, dr, tk, os⟩ :=
      fun q => B.iter prog w _ _ _ _ hg q
    wp_walk using it1
    refine wpAny_stack_any fun st => wpAny_pure ?_; split
    · rename_i c _ _ _ _ _; cases (c == Value.type "enumerate") <;> (wp_walk using it1; exact ⟨_, rfl, h⟩)
    · wp_walk using it1
      exact ⟨_, rfl, h⟩
theorem call_enum1 {prog : Program} {w : World} {A : Around} {E : Value → Shared → Prop} {s : Shared} {v : Value} {o : Obj} {G : Heap → Prop} {Q : Value → Shared → Prop} (B : Begins v o G) (hg : G s.heap)
    (h : ∀ h', IsEnum h' (s.heap.objs.size + 1) s.heap.objs.size 0 .none → h'.get? s.heap.objs.size = some o → (∀ b u, s.heap.get? b = some u → h'.get? b = some u) → Q (.ref (s.heap.objs.size + 1)) { s with heap := h' }) :
    wpAny (model prog w) A (call (.type "enumerate") [v]) Q E s := by
  refine callType_new F.called_enumerate (by decide) (F.typeCall_enumerate_1 _) (F.newCall_enumerate_1 _) (fun obj => F.args_object_init_2 obj _) F.entry_enumerate_new (meets_enum1 B) ⟨hg, ?_⟩
  have z1 : (s.heap.push o).objs.size = s.heap.objs.size + 1 := Heap.size_push ..
  show _ ∧ _
  rw [z1]
  have en : IsEnum (enH s.heap o) (s.heap.objs.size + 1) s.heap.objs.size 0 .none := by
    rw [← z1]
    exact Heap.get?_push_size _ rfl
  exact ⟨⟨_, en, rfl⟩, h _ en (Heap.get?_push_of_some _ (Heap.get?_push_size _ B.free)) fun b u x => Heap.get?_push_of_some _ (Heap.get?_push_of_some _ x)⟩
/-- enumerate over v, which stands for xs: at turn i a new pair of i and the item -/
def Iqe (K : PySem.W.Frag) (k : IK) (xs : List V) : It :=
  ⟨fun i H => i < xs.length ∧ k.Fits K H xs, fun i H v H' => ∃ T x, v = .ref T ∧ H T = none ∧ xs[i]? = some x ∧ H' = upd H T (.tup [.int (i : Nat), x]), fun i H => i = xs.length ∧ k.Fits K H xs⟩
theorem enum_ne {fp : List Addr} {e it : Addr} {i : Int} {old : Value} {s : Shared} (he : IsEnum s.heap e it i old) (h : ∀ b ∈ fp, ∃ (o : Obj) (n : String), s.heap.get? b = some o ∧ o.cls = .type n ∧ n ≠ "enumerate" ∧ n ≠ "zip") : e ∉ fp := fun hm => by
  obtain ⟨o, n, h1, h2, h3, _⟩ := h e hm
  rw [he] at h1
  obtain rfl := Option.some.inj h1
  injection h2 with h2
  exact h3 h2.symm
theorem turn_enumA {P : Program} {w : World} {K : PySem.W.Frag} {elts : List Expr} {kk : Nat} {tpos : Pos} (k : IK) (xs : List V) (e it : Addr) :
    Turn P w K (.Tuple elts kk tpos) (Iqe K k xs) [e, it] e (fun i h => (∃ old, IsEnum h e it ((i : Nat) : Int) old) ∧ k.At it i h ∧ e ≠ it) := by
  refine ⟨by simp, fun i h st b hb => ?_, fun i h h' st q => ?_, ?_, ?_, fun A i s Q E st h => wpAny_pyIter_enum st.1.choose_spec h⟩
  · obtain ⟨⟨old, he⟩, hi, _⟩ := st
    rcases List.mem_cons.mp hb with rfl | hb
    · exact ⟨_, he, fun v q => by cases q⟩
    · obtain rfl := List.mem_singleton.mp hb
      obtain ⟨o, n, h1, h2, _, _, _, _, h3⟩ := IK.has hi
      exact ⟨o, h1, h3⟩
  · obtain ⟨⟨old, he⟩, hi, ne⟩ := st
    exact ⟨⟨old, q e (by simp) _ he⟩, IK.keep hi fun o ho => q it (by simp) o ho, ne⟩
  · intro X hP hw hK hc i pins s σ H E I hf st hg
    subst hP hw hK
    obtain ⟨⟨old, he⟩, hi, ne⟩ := st
    obtain ⟨fp, Pr, Sn, D, st1, m1, m2, m3, m4⟩ := IK.draws I (I.ok.hd hc) hg.2 hi
    refine wpAny_pyNext_enum_itemD D he st1 hg.1 ne (enum_ne he m2) fun u h1 tk hu ho st2 hT hz hk => ?_
    obtain ⟨x, hx, rx⟩ := m3 i u hu
    have el : e < s.heap.objs.size := Heap.lt_size he
    have il : it < s.heap.objs.size := by obtain ⟨o, n, q, _⟩ := IK.has hi; exact Heap.lt_size q
    refine ⟨_, rfl, wpAny_letOwnedTupleGo_enum (s := { s with heap := h1, toks := tk + 1 }) ho fun h2 he2 sb => ?_⟩
    have hT2 := (sb.2 _ (Nat.ne_of_gt el)).trans hT
    have new : ObjOk X.prog X.w (upd H s.heap.objs.size (.tup [.int (i : Nat), x])) h2 s.heap.objs.size (.tup [.int (i : Nat), x]) :=
      ⟨by show 2 ≤ sizeLine; decide, [.int i tk, u], .cons ⟨_, rfl⟩ (.cons rx .nil), ⟨_, hT2, rfl, _, rfl⟩⟩
    have I1 : Inv X pins σ (upd H s.heap.objs.size (.tup [.int (i : Nat), x])) { s with heap := h2, toks := tk + 1 } :=
      I.turnedNew (ch := [e, it]) (fun b ob hb q => (sb.2 b fun z => hb (by simp [z])).trans (hk b ob (fun z => hb (by simp [z])) (fun z => hb (by simp [z])) q)) hf (Nat.le_refl _) new
    refine ⟨.ref s.heap.objs.size, _, I1, rfl, ⟨_, x, rfl, I.hok.fresh (Nat.le_refl _), hx, rfl⟩, ⟨⟨u, ?_⟩, IK.keep (m4 _ _ st2) fun o q => (sb.2 it (Ne.symm ne)).trans q, ne⟩, fun b hb => ?_⟩
    · rw [show ((i + 1 : Nat) : Int) = (i : Int) + 1 by omega]
      exact he2
    · have bl : b < s.heap.objs.size := by
        rcases List.mem_cons.mp hb with rfl | hb
        · exact el
        · rw [List.mem_singleton.mp hb]; exact il
      rw [upd_ne (Nat.ne_of_lt bl)]
      exact (hf b hb).1
  · intro X hP hw hK hc i pins s σ H E I hf st hg
    subst hP hw hK
    obtain ⟨⟨old, he⟩, hi, ne⟩ := st
    obtain ⟨fp, Pr, Sn, D, st1, m1, m2, m3, m4⟩ := IK.draws I (I.ok.hd hc) hg.2 hi
    obtain ⟨f0, f1, f2, f3, f4, f5⟩ := hf it (by simp)
    rw [hg.1] at st1
    exact wpAny_pyNext_enum_endD D he st1 fun h1 eb => ⟨rfl, I.turned (t' := s.toks) (fun b o hb q => eb b o hb q) f0 f1 f3 f4 f5⟩
/-- the ways of v to be walked: a list, a tuple, a text -/
def wayV (K : PySem.W.Frag) (v : V) (H : Hp) (R : IK → List V → Prop) : Prop :=
  (∃ a xs, v = .ref a ∧ SqL K H a xs ∧ R (.lst a) xs) ∨ (∃ a xs, v = .ref a ∧ SqT K H a xs ∧ R (.tup a) xs) ∨ ∃ z, v = .str z ∧ ∀ t, R (.str z t) (signsV z)
theorem wayV.kind {X : Cx} {pins : List (Addr × Obj)} {σ : L2.St} {H : Hp} {s : Shared} {v : V} {R : IK → List V → Prop} {u : Value} (I : Inv X pins σ H s) (h : wayV X.K v H R) (r : RelV v u) :
    ∃ (k : IK) (xs : List V) (G : Heap → Prop), u = k.val ∧ Begins u k.obj G ∧ G s.heap ∧ R k xs := by
  rcases h with ⟨a, xs, rfl, h, q⟩ | ⟨a, xs, rfl, h, q⟩ | ⟨z, rfl, q⟩
  · cases r
    obtain ⟨its, r, p, z⟩ := I.list h
    exact ⟨.lst a, xs, _, rfl, begins_list a its.toArray, p.isList, q⟩
  · cases r
    obtain ⟨its, r, p, z⟩ := I.tuple h
    exact ⟨.tup a, xs, _, rfl, begins_tuple a its.toArray, p, q⟩
  · obtain ⟨t, rfl⟩ := r
    exact ⟨.str z t, _, _, rfl, begins_text z t, trivial, q t⟩
def iEnumA (K : PySem.W.Frag) (ta : TA) : TI := fun σ H R => ta σ H fun vs H1 => ∃ v, vs = [v] ∧ wayV K v H1 fun k xs => R (Iqe K k xs) H1
theorem pi_enumA {X : Cx} {e : Expr} {ta : TA} {p pos tpos : Pos} {elts : List Expr} {kk : Nat} (hg : Gl X "enumerate") (hm : X.mg "enumerate" = none) (ha : PA X [e] ta) (hs : starEach [e] X.env = [(false, eval e X.env)] := by rfl) :
    PI X (.Tuple elts kk tpos) (.Call (.Name "enumerate" p) [e] [] pos) (iEnumA X.K ta) := by
  refine ⟨fun pins s σ H R I h => Call_ (ld_blt I hg hm boot_enumerate (PyProof.Rows.callWith_type1 (thn (ha.run pos pins s σ H _ I h) fun us s1 hv => ?_) hs rfl))⟩
  obtain ⟨vs, H1, I1, r1, v, rfl, q⟩ := hv
  cases r1 with
  | cons r rr =>
    cases rr
    obtain ⟨k, xs, G, rfl, B, g, q⟩ := q.kind I1 r
    refine call_enum1 B g fun h2 he hit hk => wpAny_pyIter_enum he ?_
    have I2 : Inv X pins σ H1 { s1 with heap := h2 } := I1.kept (t' := s1.toks) hk
    refine ⟨s1.heap.objs.size + 1, [s1.heap.objs.size + 1, s1.heap.objs.size], _, _, H1, rfl, I2, turn_enumA k xs (s1.heap.objs.size + 1) s1.heap.objs.size, ⟨⟨.none, he⟩, IK.first hit, Nat.succ_ne_self _⟩, fun b hb => ?_, q⟩
    have le : s1.heap.objs.size ≤ b := by
      rcases List.mem_cons.mp hb with rfl | hb
      · exact Nat.le_add_right _ _
      · rw [List.mem_singleton.mp hb]; exact Nat.le_refl _
    exact I1.fpOk le (I1.hok.fresh le)
/-- a new pair of the turn and the item -/
def YEn (xs : List V) : Nat → Hp → V → Hp → Prop := fun i H w H' => ∃ T x, w = .ref T ∧ H T = none ∧ xs[i]? = some x ∧ H' = upd H T (.tup [.int (i : Nat), x])
theorem walk_enumL {K : PySem.W.Frag} {a : Addr} {xs : List V} : Walk (Iqe K (.lst a) xs) xs.length (fun H => SqL K H a xs) (YEn xs) := ⟨fun _ _ hi q => ⟨hi, .lst q⟩, fun _ q => ⟨rfl, .lst q⟩, fun _ _ _ _ _ _ y => y⟩
theorem walk_enumT {K : PySem.W.Frag} {a : Addr} {xs : List V} : Walk (Iqe K (.tup a) xs) xs.length (fun H => SqT K H a xs) (YEn xs) := ⟨fun _ _ hi q => ⟨hi, .tup q⟩, fun _ q => ⟨rfl, .tup q⟩, fun _ _ _ _ _ _ y => y⟩
theorem walk_enumS {K : PySem.W.Frag} {z : Str} {t : Tok} : Walk (Iqe K (.str z t) (signsV z)) (signsV z).length (fun _ => True) (YEn (signsV z)) := ⟨fun _ _ hi _ => ⟨hi, .str z t rfl⟩, fun _ _ => ⟨rfl, .str z t rfl⟩, fun _ _ _ _ _ _ y => y⟩
end EvF

set_option Elab.async false
set_option linter.all false
set_option maxRecDepth 100000
set_option maxHeartbeats 4000000
/-! Ev: walks. -/
namespace Ev
open PySem PySem.Spec L2 RZ RT

theorem _root_.L2.PI.or {X : Cx} {tg e : Expr} {t t' : TI} (h : PI X tg e t) (h' : PI X tg e t') : PI X tg e (fun σ H R => t σ H R ∨ t' σ H R) := ⟨fun p s σ H R I q => q.elim (h.run p s σ H R I) (h'.run p s σ H R I)⟩
section
variable {X : Cx} {c : Nat → Addr} {W : WX} {tg e : Expr} {f : XD} {fl : XL}
/-- what follows, told of the result that stands -/
theorem Post.byOk {w : W0} {σ : L2.St} {μ : List Addr} {H : Hp} {α : Type} {r : R α} {P P' : List Addr → Hp → Mem → α → Prop} (p : Post w W σ μ H r P) (h : ∀ a m, r = .ok a m → ∀ μ1 H1, Step w.K μ H μ1 H1 → MOk w.K H1 μ1 m → P μ1 H1 m a → P' μ1 H1 m a) : Post w W σ μ H r P' := by
  cases r with
  | ok a m => exact fun μ1 H1 s1 M1 => h a m rfl μ1 H1 s1 M1 (p μ1 H1 s1 M1)
  | err x m => exact p
  | bad => exact p
/-- for .. in e: a list, a tuple, a text -/
def srcA (m : Mem) (u : U) : Option Src := match u with
  | .str z => some (.fix (signs z))
  | u => srcOf m u
def iAny (f : XD) : ID := fun ρ m => (f ρ m).bind fun u m1 => ofB (srcA m1 u) m1
theorem wk_s {K : PySem.W.Frag} {H : Hp} {μ : List Addr} {z : Str} : WkOk K (Its z) μ H (Src.fix (signs z)).next := wk_fix fun i μ1 H1 m mo M _ => by
  unfold signs
  rw [List.getElem?_map, Array.getElem?_toList]
  cases e : z.cps[i]? with
  | none => exact Array.getElem?_eq_none_iff.mp e
  | some k =>
    refine ⟨(Array.getElem?_eq_some_iff.mp e).1, fun x H' y => ?_⟩
    obtain ⟨e1, k2, e2, e3⟩ := y
    subst e1 e3
    rw [e] at e2
    cases e2
    exact ⟨.refl, M, .str _⟩
theorem si_any (h : SE X c W e f) : SI X c W tg e (iAny f) :=
  (L2.PI.or (pi_list h) (L2.PI.or (pi_tup h) (pi_str h))).imp fun σ H R ⟨ρ, m, μ, E, M, p⟩ => by
    have p := p.bind
    -- by what e gives
    cases q : f ρ m with
    | bad => rw [q] at p; exact False.elim p
    | err x m1 =>
      refine .inl ⟨ρ, m, μ, E, M, ?_⟩
      rw [q] at p ⊢
      exact p
    | ok u m1 =>
      rw [q] at p
      have at_ : ∀ {P : List Addr → Hp → Mem → U → Prop}, (∀ μ1 H1, Step X.K μ H μ1 H1 → MOk X.K H1 μ1 m1 → P μ1 H1 m1 u) → Post (wX X c) W σ μ H (f ρ m) P := fun h => by rw [q]; exact h
      by_cases hs : ∃ z, u = .str z
      · obtain ⟨z, rfl⟩ := hs
        refine .inr (.inr ⟨ρ, m, μ, E, M, at_ fun μ1 H1 s1 M1 v r => ?_⟩)
        cases r.s
        exact ⟨z, rfl, (p μ1 H1 s1 M1).ok_at M1 _ wk_s⟩
      · have es : srcA m1 u = srcOf m1 u := by
          cases u with
          | str z => exact absurd ⟨z, rfl⟩ hs
          | _ => rfl
        cases q2 : srcOf m1 u with
        | none => 
          refine .inl ⟨ρ, m, μ, E, M, at_ fun μ1 H1 s1 M1 v r => ?_⟩
          have p1 : Post (wX X c) W σ μ1 H1 (ofB (srcA m1 u) m1) _ := p μ1 H1 s1 M1
          rw [es, q2] at p1
          exact False.elim p1
        | some s =>
          cases hT : isT u with
          | true =>
            refine .inr (.inl ⟨ρ, m, μ, E, M, at_ fun μ1 H1 s1 M1 v r => ?_⟩)
            have p1 : Post (wX X c) W σ μ1 H1 (ofB (srcA m1 u) m1) _ := p μ1 H1 s1 M1
            rw [es, q2] at p1
            obtain ⟨a, e1, h1⟩ := wk_of M1 r q2
            rcases h1 with ⟨_, h2, h3⟩ | ⟨h2, _⟩
            · exact ⟨a, e1, h2, p1.ok_at M1 _ h3⟩
            · rw [hT] at h2; cases h2
          | false =>
            refine .inl ⟨ρ, m, μ, E, M, at_ fun μ1 H1 s1 M1 v r => ?_⟩
            have p1 : Post (wX X c) W σ μ1 H1 (ofB (srcA m1 u) m1) _ := p μ1 H1 s1 M1
            rw [es, q2] at p1
            obtain ⟨a, e1, h1⟩ := wk_of M1 r q2
            rcases h1 with ⟨h2, _⟩ | ⟨_, h2, h3⟩
            · rw [hT] at h2; cases h2
            · exact ⟨a, e1, h2, p1.ok_at M1 _ h3⟩
/-! enumerate -/
def enumU : Nat → List U → List U
  | _, [] => []
  | k, u :: us => .tup [.int (k : Nat), u] :: enumU (k + 1) us
theorem enumU_get : ∀ (us : List U) (k i : Nat), (enumU k us)[i]? = us[i]?.map fun u => .tup [.int ((k + i : Nat) : Int), u]
  | [], k, i => by simp [enumU]
  | u :: us, k, 0 => by simp [enumU]
  | u :: us, k, i + 1 => by
    rw [enumU, List.getElem?_cons_succ, List.getElem?_cons_succ, enumU_get us (k + 1) i]
    rw [show k + 1 + i = k + (i + 1) by omega]
def srcE (m : Mem) (u : U) : Option Src := match u with
  | .str z => some (.fix (enumU 0 (signs z)))
  | .tup us => some (.fix (enumU 0 us))
  | .ref n => match m[n]? with
    | some (.lst us) => some (.dyn (us.length + 1) fun i m => match m[n]? with
      | some (.lst us) => some (us[i]?.map fun u => .tup [.int (i : Nat), u])
      | _ => none)
    | _ => none
  | _ => none
def iEnum (f : XL) : ID := fun ρ m => (f ρ m).bind fun us m1 => match us with
  | [u] => ofB (srcE m1 u) m1
  | _ => .bad
/-- a new pair -/
theorem pair_new {K : PySem.W.Frag} {H : Hp} {μ : List Addr} {m : Mem} (M : MOk K H μ m) {T : Addr} (hT : H T = none) {a b : U} {x y : V} (ra : RU K H μ a x) (rb : RU K H μ b y) : Step K μ H μ (upd H T (.tup [x, y])) ∧ MOk K (upd H T (.tup [x, y])) μ m ∧ RU K (upd H T (.tup [x, y])) μ (.tup [a, b]) (.ref T) :=
  ⟨.newT hT, M.newT hT, .tup (SqT.of upd_same) (.cons (ra.step (.newT hT)) (.cons (rb.step (.newT hT)) .nil))⟩
theorem wk_eT {K : PySem.W.Frag} {H : Hp} {μ : List Addr} {us : List U} {vs : List V} {k : EvF.IK} (hq : ∀ μ1 H1, Mono K μ H μ1 H1 → k.Fits K H1 vs) (t : RUs K H μ us vs) : WkOk K (EvF.Iqe K k vs) μ H (Src.fix (enumU 0 us)).next := wk_fix fun i μ1 H1 m mo M hi => by
  rw [enumU_get]
  have t1 := t.mo mo
  cases e : us[i]? with
  | none =>
    have hl : (enumU 0 us).length = us.length := by
      have : ∀ (l : List U) (k : Nat), (enumU k l).length = l.length := by
        intro l
        induction l with
        | nil => intro k; rfl
        | cons u l ih => intro k; rw [enumU, List.length_cons, ih, List.length_cons]
      exact this us 0
    have := List.getElem?_eq_none_iff.mp e
    have := t.length
    exact ⟨by omega, hq _ _ mo⟩
  | some u =>
    obtain ⟨v, h1, h2⟩ := t1.get e
    refine ⟨⟨(List.getElem?_eq_some_iff.mp h1).1, hq _ _ mo⟩, fun x H' y => ?_⟩
    obtain ⟨T, z, rfl, hT, hz, rfl⟩ := y
    rw [h1] at hz
    cases hz
    rw [show ((0 + i : Nat) : Int) = ((i : Nat) : Int) by rw [Nat.zero_add]]
    exact pair_new M hT (.int _) h2
theorem wk_eC {K : PySem.W.Frag} {H : Hp} {μ : List Addr} {n : Nat} {a : Addr} (hn : μ[n]? = some a) : WkOk K (Ite K a) μ H (fun i m => match m[n]? with | some (.lst us) => some (us[i]?.map fun u => .tup [.int (i : Nat), u]) | _ => none) := fun i μ1 H1 m mo M => by
  have hn1 := mo.at hn
  simp only []
  cases e0 : m[n]? with
  | none => trivial
  | some k =>
    cases k with
    | lst us =>
      simp only []
      obtain ⟨vs, hq, t⟩ := M.cell _ _ _ hn1 e0
      cases e : us[i]? with
      | none => exact ⟨vs, SqL.of hq, by rw [← t.length]; exact List.getElem?_eq_none_iff.mp e⟩
      | some u =>
        obtain ⟨v, h1, h2⟩ := t.get e
        refine ⟨⟨vs, v, SqL.of hq, h1⟩, fun x H' y => ?_⟩
        obtain ⟨T, z, rfl, hT, rfl, y⟩ := y
        have := y vs (SqL.of hq)
        rw [h1] at this; cases this
        exact pair_new M hT (.int _) h2
    | dK _ => trivial
    | dT _ => trivial
    | dF _ => trivial
/-- what is chosen by the result -/
theorem pick {α : Type} {w : W0} {σ : L2.St} {μ : List Addr} {H : Hp} {r : R α} {P : List Addr → Hp → Mem → α → Prop} {Z : Prop} (p : Post w W σ μ H r P)
    (he : (∀ P', Post w W σ μ H r P') → Z) (ho : ∀ a m, r = .ok a m → (∀ μ1 H1, Step w.K μ H μ1 H1 → MOk w.K H1 μ1 m → P μ1 H1 m a) → (∀ P' : List Addr → Hp → Mem → α → Prop, (∀ μ1 H1, Step w.K μ H μ1 H1 → MOk w.K H1 μ1 m → P' μ1 H1 m a) → Post w W σ μ H r P') → Z) : Z := by
  cases r with
  | bad => exact False.elim p
  | err x m => exact he fun P' => p
  | ok a m => exact ho a m rfl p fun P' h => h
theorem si_enum {p pos tpos : Pos} {elts : List Expr} {kk : Nat} {a : Expr} (h1 : PI X (.Tuple elts kk tpos) (.Call (.Name "enumerate" p) [a] [] pos) (L2.iEnum X.K (rdL (wX X c) W fl))) (h2 : PI X (.Tuple elts kk tpos) (.Call (.Name "enumerate" p) [a] [] pos) (EvF.iEnumA X.K (rdL (wX X c) W fl))) :
    SI X c W (.Tuple elts kk tpos) (.Call (.Name "enumerate" p) [a] [] pos) (iEnum fl) :=
  (L2.PI.or h1 h2).imp fun σ H R ⟨ρ, m, μ, E, M, p⟩ => pick p.bind (fun z => .inl ⟨ρ, m, μ, E, M, z _⟩) fun us m1 _ p at_ => by
    cases us with
    | nil => exact .inl ⟨ρ, m, μ, E, M, at_ _ fun μ1 H1 s1 M1 => False.elim (p μ1 H1 s1 M1)⟩
    | cons u us =>
      cases us with
      | cons _ _ => exact .inl ⟨ρ, m, μ, E, M, at_ _ fun μ1 H1 s1 M1 => False.elim (p μ1 H1 s1 M1)⟩
      | nil =>
        have p' : ∀ μ1 H1, Step X.K μ H μ1 H1 → MOk X.K H1 μ1 m1 → Post (wX X c) W σ μ1 H1 (ofB (srcE m1 u) m1) fun μ' H' _ s => ∀ J, WkOk X.K J μ' H' s.next → R J H' := p
        cases u with
        | str z =>
          refine .inr ⟨ρ, m, μ, E, M, at_ _ fun μ1 H1 s1 M1 vs rs => ?_⟩
          obtain ⟨v, rfl, r⟩ := rs.one
          cases r.s
          refine ⟨_, rfl, .inr (.inr ⟨z, rfl, fun t => (p' μ1 H1 s1 M1).ok_at M1 _ (wk_eT (vs := EvF.signsV z) (fun _ _ _ => .str z t rfl) ?_)⟩)⟩
          have : ∀ l : List Nat, RUs X.K H1 μ1 (l.map fun c => .str ⟨#[c]⟩) (l.map fun c => .str ⟨#[c]⟩) := by
            intro l
            induction l with
            | nil => exact .nil
            | cons c l ih => exact .cons (.str _) ih
          exact this _
        | tup us =>
          refine .inr ⟨ρ, m, μ, E, M, at_ _ fun μ1 H1 s1 M1 vs rs => ?_⟩
          obtain ⟨v, rfl, r⟩ := rs.one
          cases r with
          | tup hq t => exact ⟨_, rfl, .inr (.inl ⟨_, _, rfl, hq, (p' μ1 H1 s1 M1).ok_at M1 _ (wk_eT (fun μ2 H2 mo => .tup (mo.kt _ _ hq)) t)⟩)⟩
        | ref n =>
          refine .inl ⟨ρ, m, μ, E, M, at_ _ fun μ1 H1 s1 M1 vs rs => ?_⟩
          obtain ⟨v, rfl, r⟩ := rs.one
          have p1 := p' μ1 H1 s1 M1
          cases e : m1[n]? with
          | none => simp only [srcE, e] at p1; exact False.elim p1
          | some k =>
            cases k with
            | lst us =>
              simp only [srcE, e] at p1
              cases r with
              | ref hn =>
                obtain ⟨ws, hq, t⟩ := M1.cell _ _ _ hn e
                exact ⟨_, ws, rfl, SqL.of hq, p1.ok_at M1 _ (wk_eC hn)⟩
            | dK _ => simp only [srcE, e] at p1; exact False.elim p1
            | dT _ => simp only [srcE, e] at p1; exact False.elim p1
            | dF _ => simp only [srcE, e] at p1; exact False.elim p1
        | _ => exact .inl ⟨ρ, m, μ, E, M, at_ _ fun μ1 H1 s1 M1 => False.elim (p' μ1 H1 s1 M1)⟩
/-! zip of two lists, of two tuples -/
def zipU : List U → List U → List U
  | a :: as, b :: bs => .tup [a, b] :: zipU as bs
  | _, _ => []
theorem zipU_get : ∀ (as bs : List U) (i : Nat), (zipU as bs)[i]? = match as[i]?, bs[i]? with
    | some a, some b => some (.tup [a, b])
    | _, _ => none
  | [], bs, i => by simp [zipU]
  | a :: as, [], i => by simp only [zipU, List.getElem?_nil]; split <;> first | rfl | (rename_i h; cases h)
  | a :: as, b :: bs, 0 => rfl
  | a :: as, b :: bs, i + 1 => by rw [zipU, List.getElem?_cons_succ, List.getElem?_cons_succ, List.getElem?_cons_succ, zipU_get as bs i]
/-- an item of a cell's list -/
def cellAt (m : Mem) (n : Nat) : Option (List U) := match m[n]? with
  | some (.lst us) => some us
  | _ => none
def srcZ (m : Mem) (u v : U) : Option Src := match u, v with
  | .tup us, .tup ws => some (.fix (zipU us ws))
  | .ref n, .ref k => match cellAt m n, cellAt m k with
    | some us, some ws => some (.dyn (us.length + 1) fun i m => match cellAt m n, cellAt m k with
      | some us, some ws => some (match us[i]?, ws[i]? with
        | some a, some b => some (.tup [a, b])
        | _, _ => none)
      | _, _ => none)
    | _, _ => none
  | _, _ => none
def iZip (f : XL) : ID := fun ρ m => (f ρ m).bind fun us m1 => match us with
  | [u, v] => ofB (srcZ m1 u v) m1
  | _ => .bad
theorem cellAt_of {m : Mem} {n : Nat} {us : List U} (h : cellAt m n = some us) : m[n]? = some (.lst us) := by
  unfold cellAt at h
  split at h
  · rename_i e; cases h; exact e
  · cases h
theorem si_zip {p pos tpos : Pos} {elts : List Expr} {kk : Nat} {a b : Expr} (h : PI X (.Tuple elts kk tpos) (.Call (.Name "zip" p) [a, b] [] pos) (iZipA X.K (rdL (wX X c) W fl))) : SI X c W (.Tuple elts kk tpos) (.Call (.Name "zip" p) [a, b] [] pos) (iZip fl) :=
  h.imp fun σ H R ⟨ρ, m, μ, E, M, p⟩ => ⟨ρ, m, μ, E, M, p.bind.imp fun μ1 H1 m1 us s1 M1 p1 vs rs => by
    split at p1
    · rename_i u v
      obtain ⟨x, y, rfl, r1, r2⟩ := rs.two
      cases q : srcZ m1 u v with
      | none => rw [q] at p1; exact False.elim p1
      | some s =>
        rw [q] at p1
        have fin := p1.ok_at M1
        unfold srcZ at q
        split at q
        · rename_i us ws
          cases q
          cases r1 with
          | tup hq1 t1 =>
            cases r2 with
            | tup hq2 t2 =>
              refine ⟨_, _, _, _, rfl, .inr ⟨hq1, hq2, fin _ (wk_fix fun i μ2 H2 m2 mo M2 hi => ?_)⟩⟩
              rw [zipU_get]
              have u1 := t1.mo mo
              have u2 := t2.mo mo
              have g1 := mo.kt _ _ hq1
              have g2 := mo.kt _ _ hq2
              cases e1 : us[i]? with
              | none => exact ⟨_, _, g1, g2, .inl (by rw [← t1.length]; exact List.getElem?_eq_none_iff.mp e1)⟩
              | some x1 =>
                cases e2 : ws[i]? with
                | none => exact ⟨_, _, g1, g2, .inr (by rw [← t2.length]; exact List.getElem?_eq_none_iff.mp e2)⟩
                | some x2 =>
                  obtain ⟨v1, k1, w1⟩ := u1.get e1
                  obtain ⟨v2, k2, w2⟩ := u2.get e2
                  refine ⟨⟨_, _, v1, v2, g1, g2, k1, k2⟩, fun x H' y => ?_⟩
                  obtain ⟨T, z1, z2, rfl, hT, rfl, y1, y2⟩ := y
                  have a1 := y1 _ g1
                  have a2 := y2 _ g2
                  rw [k1] at a1; cases a1
                  rw [k2] at a2; cases a2
                  exact pair_new M2 hT w1 w2
        · rename_i n k
          split at q
          · rename_i us ws c1 c2
            cases q
            cases r1 with
            | @ref _ a1 hn1 =>
              cases r2 with
              | @ref _ a2 hn2 =>
                obtain ⟨vs1, hq1, t1⟩ := M1.cell _ _ _ hn1 (cellAt_of c1)
                obtain ⟨vs2, hq2, t2⟩ := M1.cell _ _ _ hn2 (cellAt_of c2)
                refine ⟨_, _, _, _, rfl, .inl ⟨SqL.of hq1, SqL.of hq2, fin _ fun i μ2 H2 m2 mo M2 => ?_⟩⟩
                show match (match cellAt m2 n, cellAt m2 k with | some us, some ws => some (match us[i]?, ws[i]? with | some a, some b => some (U.tup [a, b]) | _, _ => none) | _, _ => none) with | none => True | some none => _ | some (some u) => _
                cases d1 : cellAt m2 n with
                | none => trivial
                | some us2 =>
                  cases d2 : cellAt m2 k with
                  | none => trivial
                  | some ws2 =>
                    obtain ⟨zs1, gq1, u1⟩ := M2.cell _ _ _ (mo.at hn1) (cellAt_of d1)
                    obtain ⟨zs2, gq2, u2⟩ := M2.cell _ _ _ (mo.at hn2) (cellAt_of d2)
                    have g1 : SqL X.K H2 a1 zs1 := SqL.of gq1
                    have g2 : SqL X.K H2 a2 zs2 := SqL.of gq2
                    simp only []
                    cases e1 : us2[i]? with
                    | none => exact ⟨_, _, g1, g2, .inl (by rw [← u1.length]; exact List.getElem?_eq_none_iff.mp e1)⟩
                    | some x1 =>
                      cases e2 : ws2[i]? with
                      | none => exact ⟨_, _, g1, g2, .inr (by rw [← u2.length]; exact List.getElem?_eq_none_iff.mp e2)⟩
                      | some x2 =>
                        obtain ⟨v1, k1, w1⟩ := u1.get e1
                        obtain ⟨v2, k2, w2⟩ := u2.get e2
                        refine ⟨⟨_, _, v1, v2, g1, g2, k1, k2⟩, fun x H' y => ?_⟩
                        obtain ⟨T, z1, z2, rfl, hT, rfl, y1, y2⟩ := y
                        have a1 := y1 _ g1
                        have a2 := y2 _ g2
                        rw [k1] at a1; cases a1
                        rw [k2] at a2; cases a2
                        exact pair_new M2 hT w1 w2
          · cases q
        · cases q
    · exact False.elim p1⟩
/-! reversed of a list, of a tuple -/
def srcR (m : Mem) (u : U) : Option Src := match u with
  | .tup us => some (.fix us.reverse)
  | .ref n => match cellAt m n with
    | some us => some (.dyn (us.length + 1) fun i m => if i < us.length then (match cellAt m n with
      | some ws => (ws[us.length - 1 - i]?).map some
      | none => none) else some none)
    | none => none
  | _ => none
def iRev (f : XD) : ID := fun ρ m => (f ρ m).bind fun u m1 => ofB (srcR m1 u) m1
theorem si_rev {st : Expr} (h : PI X tg st (iRevA X.K (rdE (wX X c) W f))) : SI X c W tg st (iRev f) :=
  h.imp fun σ H R ⟨ρ, m, μ, E, M, p⟩ => ⟨ρ, m, μ, E, M, p.bind.imp fun μ1 H1 m1 u s1 M1 p1 v r => by
    cases q : srcR m1 u with
    | none => rw [q] at p1; exact False.elim p1
    | some s =>
      rw [q] at p1
      have fin := p1.ok_at M1
      unfold srcR at q
      split at q
      · rename_i us
        cases q
        cases r with
        | @tup a vs _ hq t =>
          refine ⟨a, vs, rfl, .inr ⟨hq, fin _ (wk_fix fun i μ2 H2 m2 mo M2 hi => ?_)⟩⟩
          have u1 := t.mo mo
          have g1 := mo.kt _ _ hq
          rw [List.length_reverse] at hi
          by_cases h : i < us.length
          · have e : us.reverse[i]? = us[us.length - 1 - i]? := List.getElem?_reverse h
            rw [e]
            have hl : us.length - 1 - i < us.length := by omega
            rw [List.getElem?_eq_getElem hl]
            obtain ⟨v1, k1, w1⟩ := u1.get (List.getElem?_eq_getElem hl)
            rw [t.length] at k1
            refine ⟨⟨by rw [← t.length]; exact h, vs, v1, g1, k1⟩, fun x H' y => ?_⟩
            obtain ⟨eH, y⟩ := y
            subst eH
            have := y vs g1
            rw [k1] at this; cases this
            exact ⟨.refl, M2, w1⟩
          · rw [List.getElem?_eq_none (by rw [List.length_reverse]; omega)]
            show vs.length ≤ i
            rw [← t.length]; omega
      · rename_i n
        split at q
        · rename_i us c1
          cases q
          cases r with
          | @ref _ a hn =>
            obtain ⟨vs, hq, t⟩ := M1.cell _ _ _ hn (cellAt_of c1)
            refine ⟨a, vs, rfl, .inl ⟨SqL.of hq, fin _ fun i μ2 H2 m2 mo M2 => ?_⟩⟩
            show match (if i < us.length then (match cellAt m2 n with | some ws => (ws[us.length - 1 - i]?).map some | none => none) else some none) with | none => True | some none => _ | some (some u) => _
            by_cases h : i < us.length
            · rw [if_pos h]
              cases d1 : cellAt m2 n with
              | none => trivial
              | some ws =>
                obtain ⟨zs, gq, u1⟩ := M2.cell _ _ _ (mo.at hn) (cellAt_of d1)
                simp only []
                cases e1 : ws[us.length - 1 - i]? with
                | none => trivial
                | some x1 =>
                  obtain ⟨v1, k1, w1⟩ := u1.get e1
                  rw [t.length] at k1
                  refine ⟨⟨by rw [← t.length]; exact h, zs, v1, SqL.of gq, k1⟩, fun x H' y => ?_⟩
                  obtain ⟨eH, y⟩ := y
                  subst eH
                  have := y zs (SqL.of gq)
                  rw [k1] at this; cases this
                  exact ⟨.refl, M2, w1⟩
            · rw [if_neg h]
              show vs.length ≤ i
              rw [← t.length]; omega
        · cases q
      · cases q⟩
end
end Ev

set_option Elab.async false
set_option linter.all false
set_option maxRecDepth 100000
set_option maxHeartbeats 4000000
/-! Ev: tuple * int for any int; pow of three; a list's item for an operator's store. -/
namespace EvG
open PySem PySem.Spec L2 PyProof.Rows
theorem tuple_mul_same (l : Addr) (items : Array Value) (n : Nat) (dd : Option Addr) (sl : Array (Option Value)) (x : Int) (u : Tok) (c0 : (decide (x < -(2 ^ 63)) || decide (x ≥ 2 ^ 63)) = false) (c1 : (items.isEmpty || x == 1) = true) :
    Meets (Builtin.«tuple.__mul__» ⟨[.ref l, .int x u], []⟩) (fun _ R s => s.heap.get? l = some { cls := .type "tuple", dict := dd, data := .seq items n, slots := sl } ∧
      R (.ok (.ret (Value.ref l))) s) :=
  .of_wp fun prog w A R s h => by
    obtain ⟨hp, g, d, tk, os⟩ := s
    obtain ⟨hl, h⟩ := h
    have f1 := AutoSeq1.idx_int
    wp_walk using wpAny_loadPart' hl
    repeat (first
      | (refine wpAny_ite_false (decide_eq_false (by rw [c0]; exact Bool.false_ne_true)) ?_; wp_walk using wpAny_loadPart' hl)
      | (refine wpAny_ite_true (decide_eq_true (by rw [c1])) ?_; wp_walk using wpAny_loadPart' hl))
    exact ⟨_, rfl, h⟩
theorem tuple_mul_none (l : Addr) (items : Array Value) (n : Nat) (dd : Option Addr) (sl : Array (Option Value)) (x : Int) (u : Tok) (c0 : (decide (x < -(2 ^ 63)) || decide (x ≥ 2 ^ 63)) = false) (c1 : (items.isEmpty || x == 1) = false) (c2 : (decide (x ≤ 0) || items.isEmpty) = true) :
    Meets (Builtin.«tuple.__mul__» ⟨[.ref l, .int x u], []⟩) (fun _ R s => s.heap.get? l = some { cls := .type "tuple", dict := dd, data := .seq items n, slots := sl } ∧
      R (.ok (.ret (Value.ref s.heap.objs.size))) { s with heap := s.heap.push { cls := Value.type "tuple", data := Data.seq #[] }, toks := s.toks }) :=
  .of_wp fun prog w A R s h => by
    obtain ⟨hp, g, d, tk, os⟩ := s
    obtain ⟨hl, h⟩ := h
    have f1 := AutoSeq1.idx_int
    wp_walk using wpAny_loadPart' hl
    repeat (first
      | (refine wpAny_ite_false (decide_eq_false (by rw [c0]; exact Bool.false_ne_true)) ?_; wp_walk using wpAny_loadPart' hl)
      | (refine wpAny_ite_false (decide_eq_false (by rw [c1]; exact Bool.false_ne_true)) ?_; wp_walk using wpAny_loadPart' hl)
      | (refine wpAny_ite_true (decide_eq_true (by rw [c2])) ?_; wp_walk using wpAny_loadPart' hl))
    exact ⟨_, rfl, h⟩
end EvG
namespace EvG
open PySem PySem.Spec L2 PyProof.Rows
theorem int_pow3 (a : Int) (t : Tok) (b : Int) (u : Tok) (c : Int) (v : Tok) (h0 : 0 ≤ b) (h1 : 1 < c) :
    Meets (Builtin.«int.__pow__» ⟨[.int a t, .int b u, .int c v], []⟩) (fun _ R s => R (.ok (.ret (Value.int ((Builtin.powMod (a % (c.natAbs : Int)).toNat b.natAbs c.natAbs : Nat) : Int) s.toks))) { s with toks := s.toks + 1 }) :=
  .of_wp fun prog w A R s h => by
    obtain ⟨hp, g, d, tk, os⟩ := s
    have hc0 : ¬ (c == 0) = true := by simp; omega
    have hc1 : ¬ (c.natAbs == 1) = true := by simp; omega
    have hb : ¬ b < 0 := by omega
    have hm : ¬ (decide (c < 0) && (((Builtin.powMod (a % (c.natAbs : Int)).toNat b.natAbs c.natAbs : Nat) : Int) != 0)) = true := by
      rw [decide_eq_false (by omega)]; simp
    wp_walk
    repeat (first
      | (refine wpAny_ite_false (decide_eq_false hc0) ?_; wp_walk)
      | (refine wpAny_ite_false (decide_eq_false hc1) ?_; wp_walk)
      | (refine wpAny_ite_false (decide_eq_false hb) ?_; wp_walk))
    exact ⟨_, by rw [if_neg hm], h⟩
theorem kind_pow : builtinKind "pow" = none := by decide +kernel
theorem plain_pow : plainId "pow" = true := by decide +kernel
theorem entry_pow : entryFor table "pow" = some Builtin.«pow» := entryFor_of_fast (by kernel_rfl)
theorem args_pow3 (a b c : Value) : argsOk "pow" ⟨[a, b, c], []⟩ := by unfold argsOk; kernel_rfl
theorem args_int_pow3 (a b c : Value) : argsOk "int.__pow__" ⟨[a, b, c], []⟩ := by unfold argsOk; kernel_rfl
theorem look_int_pow : typeLookup (.type "int") (Str.ofString "__pow__") = pure (some (.builtin "int.__pow__")) := PySem.F.slot_int_pow.lookup
section
variable {prog : Program} {w : World} {A : Around} {E : Value → Shared → Prop} {s : Shared} {a b c : Int} {t u v : Tok}
theorem call_pow3 {Q : Value → Shared → Prop} (h0 : 0 ≤ b) (h1 : 1 < c) (h : Q (Value.int ((Builtin.powMod (a % (c.natAbs : Int)).toNat b.natAbs c.natAbs : Nat) : Int) s.toks) { s with toks := s.toks + 1 }) :
    wpAny (model prog w) A (call (.builtin "pow") [.int a t, .int b u, .int c v]) Q E s := by
  obtain ⟨hp, g, d, tk, os⟩ := s
  refine PySem.Calls.call_function_entry kind_pow plain_pow entry_pow (args_pow3 _ _ _) ?_
  unfold Builtin.«pow»
  wp_walk
  rw [look_int_pow]
  refine wpAny_pure ?_
  refine wpAny_bind ?_
  refine wpAny_callSpecial?_slot (name := Str.ofString "__pow__") (typeIs_int _ a t) PySem.F.slot_int_pow ?_
  refine call_meets PySem.F.slot_int_pow (typeIs_int _ a t) PySem.F.entry_int_pow (args_int_pow3 _ _ _) (int_pow3 a t b u c v h0 h1) ?_
  show wpAny _ _ (if (Value.int ((Builtin.powMod (a % (c.natAbs : Int)).toNat b.natAbs c.natAbs : Nat) : Int) tk != Value.notImplemented) = true then ret _ else _) _ _ _
  rw [if_pos (show (Value.int ((Builtin.powMod (a % (c.natAbs : Int)).toNat b.natAbs c.natAbs : Nat) : Int) tk != Value.notImplemented) = true from rfl)]
  exact wpAny_pure ⟨_, rfl, h⟩
end
section
variable {X : Cx}
def rPow3 : List V → Hp → VK → Prop := fun xs H Q => ∃ a b c : Int, xs = [.int a, .int b, .int c] ∧ 0 ≤ b ∧ 1 < c ∧ Q (.int ((Builtin.powMod (a % (c.natAbs : Int)).toNat b.natAbs c.natAbs : Nat) : Int)) H
theorem cr_pow3 : CallR X (.builtin "pow") rPow3 := by
  intro pins s σ H xs us Q I rx h
  obtain ⟨a, b, c, rfl, h0, h1, q⟩ := h
  cases rx with
  | cons r1 rx =>
    cases rx with
    | cons r2 rx =>
      cases rx with
      | cons r3 rx =>
        cases rx
        obtain ⟨t, rfl⟩ := r1
        obtain ⟨t2, rfl⟩ := r2
        obtain ⟨t3, rfl⟩ := r3
        exact call_pow3 h0 h1 ⟨.int _, H, I.tok _, ⟨_, rfl⟩, q⟩
/-- tuple * int, whatever the int -/
def rRepG (K : PySem.W.Frag) : R2 := fun x y H Q => ∃ l k xs, x = .ref l ∧ y = .int k ∧ SqT K H l xs ∧ -1000 ≤ k ∧ k ≤ 1000 ∧ xs.length ≤ 1000 ∧
  (xs = [] ∨ k = 1 → Q (.ref l) H) ∧ (xs ≠ [] → k ≤ 0 → ∀ p, H p = none → Q (.ref p) (upd H p (.tup []))) ∧ (xs ≠ [] → 2 ≤ k → ∀ p, H p = none → Q (.ref p) (upd H p (.tup (List.replicate k.toNat xs).flatten)))
theorem op_repG : OpR X (binaryOp .Mult) (rRepG X.K) := by
  intro pins s σ H x y v u Q I rx ry h
  obtain ⟨l, k, xs, rfl, rfl, hT, hk0, hk1, hz, q1, q2, q3⟩ := h
  by_cases hbig : xs ≠ [] ∧ 2 ≤ k
  · exact op_repT pins s σ H _ _ v u Q I rx ry ⟨l, k, xs, rfl, rfl, hT, hbig.1, hbig.2, hk1, hz, q3 hbig.1 hbig.2⟩
  cases rx
  obtain ⟨t, rfl⟩ := ry
  obtain ⟨its, r, ⟨⟨cls, dd, data, sl⟩, ho, hc, n, hd⟩, hs⟩ := I.tuple hT
  simp only at hc hd
  subst hc hd
  have hle : its.length = xs.length := r.length.symm
  have c0 : (decide (k < -(2 ^ 63)) || decide (k ≥ 2 ^ 63)) = false := by
    rw [decide_eq_false (by omega), decide_eq_false (by omega)] <;> rfl
  have hnil : its.toArray.isEmpty = xs.isEmpty := by
    cases its with
    | nil => cases xs with
      | nil => rfl
      | cons _ _ => simp at hle
    | cons _ _ => cases xs with
      | nil => simp at hle
      | cons _ _ => rfl
  by_cases h1 : xs = [] ∨ k = 1
  · have c1 : (its.toArray.isEmpty || k == 1) = true := by
      rw [hnil]
      rcases h1 with e | e
      · rw [e]; rfl
      · rw [e]; simp
    refine wpAny_binaryOp_repeat_ref (T := "tuple") (U := "int") (by decide) ⟨_, ho, rfl⟩ (fun s' => typeIs_int s' k t) noFill_tuple_mul F.fills_int_mul F.slot_int_rmul repeat_tuple F.slot_int_index.lookup
      (call_meets F.slot_int_rmul (typeIs_int s k t) F.entry_int_rmul (F.args_int_rmul_2 _ _) (int_rmul_tuple k t l its.toArray n dd sl)
        ⟨ho, rfl, ⟨_, ho, rfl⟩, call_meets F.slot_tuple_mul ⟨_, ho, rfl⟩ F.entry_tuple_mul (F.args_tuple_mul_2 _ _) (tuple_mul_same l its.toArray n dd sl k t c0 c1) ⟨ho, ?_⟩⟩)
    exact ⟨.ref l, H, I, rfl, q1 h1⟩
  · have hx : xs ≠ [] := fun e => h1 (.inl e)
    have hk : k ≤ 0 := by
      have a1 : k ≠ 1 := fun e => h1 (.inr e)
      have a2 : ¬ 2 ≤ k := fun z => hbig ⟨hx, z⟩
      omega
    have he : xs.isEmpty = false := by
      cases xs with
      | nil => exact absurd rfl hx
      | cons _ _ => rfl
    have c1 : (its.toArray.isEmpty || k == 1) = false := by
      rw [hnil, he]
      simp; omega
    have c2 : (decide (k ≤ 0) || its.toArray.isEmpty) = true := by rw [decide_eq_true hk]; rfl
    refine wpAny_binaryOp_repeat_ref (T := "tuple") (U := "int") (by decide) ⟨_, ho, rfl⟩ (fun s' => typeIs_int s' k t) noFill_tuple_mul F.fills_int_mul F.slot_int_rmul repeat_tuple F.slot_int_index.lookup
      (call_meets F.slot_int_rmul (typeIs_int s k t) F.entry_int_rmul (F.args_int_rmul_2 _ _) (int_rmul_tuple k t l its.toArray n dd sl)
        ⟨ho, rfl, ⟨_, ho, rfl⟩, call_meets F.slot_tuple_mul ⟨_, ho, rfl⟩ F.entry_tuple_mul (F.args_tuple_mul_2 _ _) (tuple_mul_none l its.toArray n dd sl k t c0 c1 c2) ⟨ho, ?_⟩⟩)
    refine ⟨.ref s.heap.objs.size, _, I.laid (t' := s.toks) (o := .tup []) (fun b ob q => Heap.get?_push_of_some _ q) (Nat.le_refl _) ?_, rfl, q2 hx hk _ (I.hok.fresh (Nat.le_refl _))⟩
    exact ⟨Nat.zero_le _, [], .nil, IsTup.new _ _⟩
/-- a list's item, for an operator's store -/
def rGetL (K : PySem.W.Frag) : V → V → Hp → VK → Prop := fun o i H Q => ∃ p xs k v, o = .ref p ∧ i = .int k ∧ SqL K H p xs ∧ atI xs k = some v ∧ Q v H
theorem get_list : PGet X (rGetL X.K) := by
  intro pins s σ H o i ov iv Q I ro ri h
  obtain ⟨p, xs, k, z, rfl, rfl, hq, he, q⟩ := h
  cases ro
  obtain ⟨t, rfl⟩ := ri
  obtain ⟨its, r, pl, hz⟩ := I.list hq
  obtain ⟨j, h1, h2, h3, h4, h5⟩ := atI_get he
  obtain ⟨w, ew, rw'⟩ := r.get h2
  have hl := r.length
  have hn := line63
  have fin : EP X pins σ Q w s := ⟨z, H, I, rw', q⟩
  by_cases h0 : 0 ≤ k
  · have hj : k.toNat = j := by
      rw [seqIndex_of h0 h5] at h1
      exact Option.some.inj h1
    exact wpAny_getItem_list pl.isList h0 (by omega) (by rw [hj]; simpa using ew) fin
  · have hj : (k + (its.toArray.size : Int)).toNat = j := by
      rw [seqIndex_neg (by omega) h4] at h1
      rw [List.size_toArray, ← hl]
      exact Option.some.inj h1
    exact wpAny_getItem_list_neg pl.isList (by omega) (by rw [List.size_toArray] <;> omega) (by omega) (by rw [hj]; simpa using ew) fin
end
end EvG

set_option Elab.async false
set_option linter.all false
set_option maxRecDepth 100000
set_option maxHeartbeats 4000000
/-! Ev: in, tuples times ints, pow, stores by an operator. -/
namespace Ev
open PySem PySem.Spec L2 EvG

/-! ### in -/
def datsOf (m : Mem) (y : U) : Option (List PyData) := match itemsOf m y with
  | some us => datRL (resM m 5) us
  | none => none
def inU (m : Mem) (x y : U) : Option Bool := match y with
  | .str z => match x with
    | .str w => match w.cps.toList with
      | [k] => some (decide (k ∈ z.cps.toList))
      | _ => none
    | _ => none
  | y => match dat m x, datsOf m y with
    | some d, some ds => if SeqAt.shaped d && SeqAt.shaped (.list ds) then some (ds.any fun z => PyData.eqv z d) else none
    | _, _ => none
def oIn : U → U → Mem → O U := fun x y m => (inU m x y).map fun b => (.bl b, m)
def oNotIn : U → U → Mem → O U := fun x y m => (inU m x y).map fun b => (.bl (!b), m)
theorem dats_ok {K : PySem.W.Frag} {H : Hp} {μ : List Addr} {m : Mem} (M : MOk K H μ m) {y : U} {v : V} {ds : List PyData} (r : RU K H μ y v) (h : datsOf m y = some ds) : Dp K H v (.list ds) ∨ Dp K H v (.tuple ds) := by
  unfold datsOf at h
  split at h
  · rename_i us e
    obtain ⟨a, vs, rfl, hq, t, h1, h2⟩ := items_ok M r e
    have hd := datRL_ok (resM_ok M 5) t h
    rcases hq with hq | hq
    · exact .inl (.lst hq hd)
    · exact .inr (.tup hq hd)
  · cases h
theorem str1 {w : Str} {k : Nat} (h : w.cps.toList = [k]) : w = ⟨#[k]⟩ := by
  obtain ⟨c⟩ := w
  have h2 : c.toList = [k] := h
  have : c = #[k] := by
    have := congrArg List.toArray h2
    simpa using this
  rw [this]
theorem inU_ok {X : Cx} {H : Hp} {μ : List Addr} {m : Mem} (M : MOk X.K H μ m) {x y : U} {v w : V} {b : Bool} (rx : RU X.K H μ x v) (ry : RU X.K H μ y w) (h : inU m x y = some b) :
    (∃ (k : Nat) (z : Str), v = .str ⟨#[k]⟩ ∧ w = .str z ∧ b = decide (k ∈ z.cps.toList)) ∨
    ∃ d ds, Dp X.K H v d ∧ (Dp X.K H w (.list ds) ∨ Dp X.K H w (.tuple ds)) ∧ SeqAt.shaped d = true ∧ SeqAt.shaped (.list ds) = true ∧ b = ds.any fun z => PyData.eqv z d := by
  unfold inU at h
  split at h
  · split at h
    · split at h
      · rename_i e
        cases h
        cases ry.s; cases rx.s
        exact .inl ⟨_, _, by rw [str1 e], rfl, rfl⟩
      · cases h
    · cases h
  · split at h
    · rename_i d ds h1 h2
      split at h
      · rename_i hs
        rw [Bool.and_eq_true] at hs
        cases h
        exact .inr ⟨d, ds, dat_ok M rx h1, dats_ok M ry h2, hs.1, hs.2, rfl⟩
      · cases h
    · cases h
section
variable {X : Cx}
theorem room_in_shapedT {ds : List PyData} {d : PyData} {A : Around} (sd : SeqAt.shaped d = true) (hu : A.units + 65 < cLine) : A.units + 1 + min (PyData.depthAll ds) d.depth < cLine := by
  have : d.depth ≤ 64 := by
    unfold SeqAt.shaped at sd
    rw [Bool.and_eq_true] at sd
    exact of_decide_eq_true sd.2
  omega
theorem x_in (hu : X.A.units + 65 < cLine) : OpR X (compareOp .In) (rd2 X.K oIn) := by
  intro pins s σ H x y v u Q I rx ry h
  obtain ⟨u1, u2, m, μ, r1, r2, M, p⟩ := h
  unfold oIn at p
  cases e : inU m u1 u2 with
  | none => rw [e] at p; exact no_op p
  | some b =>
    rw [e] at p
    rcases inU_ok M r1 r2 e with ⟨k, z, rfl, rfl, rfl⟩ | ⟨d, ds, hd, he, sd, se, rfl⟩
    · exact op_in_sign pins s σ H _ _ v u Q I rx ry ⟨k, z, rfl, rfl, p.val M (.bl _)⟩
    · rcases he with he | he
      · exact op_inD hu pins s σ H _ _ v u Q I rx ry ⟨d, ds, hd, he, sd, se, p.val M (.bl _)⟩
      · obtain ⟨as, q1⟩ := Dp.reads I d x v hd rx
        obtain ⟨bs, q2⟩ := Dp.reads I (.tuple ds) y u he ry
        exact SeqAt.in_tuple_reads q2 q1 (SeqAt.canLay_of_shaped (d := .list ds) se) (SeqAt.canLay_of_shaped sd) (room_in_shapedT sd hu) ⟨.bl _, H, I, rfl, p.val M (.bl _)⟩
theorem x_notIn (hu : X.A.units + 65 < cLine) : OpR X (compareOp .NotIn) (rd2 X.K oNotIn) := by
  intro pins s σ H x y v u Q I rx ry h
  obtain ⟨u1, u2, m, μ, r1, r2, M, p⟩ := h
  unfold oNotIn at p
  cases e : inU m u1 u2 with
  | none => rw [e] at p; exact no_op p
  | some b =>
    rw [e] at p
    rcases inU_ok M r1 r2 e with ⟨k, z, rfl, rfl, rfl⟩ | ⟨d, ds, hd, he, sd, se, rfl⟩
    · exact op_notIn_sign pins s σ H _ _ v u Q I rx ry ⟨k, z, rfl, rfl, p.val M (.bl _)⟩
    · rcases he with he | he
      · exact op_notInD hu pins s σ H _ _ v u Q I rx ry ⟨d, ds, hd, he, sd, se, p.val M (.bl _)⟩
      · obtain ⟨as, q1⟩ := Dp.reads I d x v hd rx
        obtain ⟨bs, q2⟩ := Dp.reads I (.tuple ds) y u he ry
        exact SeqAt.notIn_tuple_reads q2 q1 (SeqAt.canLay_of_shaped (d := .list ds) se) (SeqAt.canLay_of_shaped sd) (room_in_shapedT sd hu) ⟨.bl _, H, I, rfl, p.val M (.bl _)⟩
/-! ### times -/
def oMulG : U → U → Mem → O U
  | .tup xs, .int k, m => if -1000 ≤ k ∧ k ≤ 1000 ∧ xs.length ≤ 1000 then some (.tup (List.replicate k.toNat xs).flatten, m) else none
  | u, v, m => oMul u v m
theorem x_mulG : OpR X (binaryOp .Mult) (rd2 X.K oMulG) := by
  intro pins s σ H x y v u Q I rx ry h
  obtain ⟨u1, u2, m, μ, r1, r2, M, p⟩ := h
  unfold oMulG at p
  split at p
  · rename_i xs k
    cases r1 with
    | @tup a vs _ hq t =>
      cases r2
      split at p
      · rename_i hz
        have hl := t.length
        refine op_repG pins s σ H _ _ v u Q I rx ry ⟨a, k, vs, rfl, rfl, hq, hz.1, hz.2.1, by rw [← hl]; exact hz.2.2, fun e => p.val M (.tup hq ?_), fun hx hk p' hp => ?_, fun hx hk p' hp => p.tup M (t.rep _) hp⟩
        · rcases e with e | e
          · subst e
            cases t
            rw [show (List.replicate k.toNat ([] : List U)).flatten = [] by simp]
            exact .nil
          · subst e
            show RUs _ _ _ (List.replicate 1 xs).flatten vs
            rw [List.replicate_one, List.flatten_cons, List.flatten_nil, List.append_nil]
            exact t
        · have : k.toNat = 0 := by omega
          rw [this] at p
          exact p.tup M .nil hp
      · exact no_op p
  · exact x_mul pins s σ H x y v u Q I rx ry ⟨u1, u2, m, μ, r1, r2, M, p⟩
/-! ### pow of three -/
def oPow3 : List U → Mem → O U
  | [.int a, .int b, .int c], m => if 0 ≤ b ∧ 1 < c then some (.int ((Builtin.powMod (a % (c.natAbs : Int)).toNat b.natAbs c.natAbs : Nat) : Int), m) else none
  | _, _ => none
theorem b_pow3 : CallR X (.builtin "pow") (rdC X.K oPow3) := by
  intro pins s σ H xs us Q I rx h
  obtain ⟨vs, m, μ, r, M, p⟩ := h
  unfold oPow3 at p
  split at p
  · split at p
    · rename_i hz
      cases r with
      | cons r1 r =>
        cases r with
        | cons r2 r =>
          cases r with
          | cons r3 r =>
            cases r
            cases r1.i; cases r2.i; cases r3.i
            exact cr_pow3 pins s σ H _ us Q I rx ⟨_, _, _, rfl, hz.1, hz.2, p.val M (.int _)⟩
    · exact no_op p
  · exact no_op p
/-! ### o[i] op= e of a list -/
def oGetL (o i : U) (m : Mem) : O U := match o, i with
  | .ref n, .int k => match cellAt m n with
    | some us => (atI us k).map fun u => (u, m)
    | none => none
  | _, _ => none
def sAugS (G : U → U → Mem → O U) (F : U → U → Mem → O U) (S : U → U → U → Mem → O Unit) (fo fi fe : XD) : SD := fun ρ m => thenE (fo ρ m) ρ fun o m1 => thenE (fi ρ m1) ρ fun i m2 => thenO (G o i m2) fun x m3 => thenE (fe ρ m3) ρ fun y m4 => thenO (F x y m4) fun z m5 => thenO (S o i z m5) fun _ m6 => .ok .nx ρ m6
theorem x_getL : PGet X (rd2 X.K oGetL) := by
  intro pins s σ H x y v u Q I rx ry h
  obtain ⟨u1, u2, m, μ, r1, r2, M, p⟩ := h
  unfold oGetL at p
  split at p
  · cases r2
    split at p
    · rename_i us e
      cases q : atI us _ with
      | none => rw [q] at p; exact no_op p
      | some z =>
        rw [q] at p
        obtain ⟨a, vs, rfl, hn, hq, t⟩ := r1.cl M (cellAt_of e)
        obtain ⟨z', h1, h2⟩ := atI_u t q
        exact get_list pins s σ H _ _ v u Q I rx ry ⟨a, vs, _, z', rfl, rfl, SqL.of hq, h1, p.val M h2⟩
    · exact no_op p
  · exact no_op p
theorem ss_augS {c : Nat → Addr} {W : WX} {st : Stmt} {fo fi fe : XD} {G F : U → U → Mem → O U} {S : U → U → U → Mem → O Unit}
    (h : PS X st (tAugS (rdE (wX X c) W fo) (rdE (wX X c) W fi) (rdE (wX X c) W fe) (rd2 X.K G) (rd2 X.K F) (rdSet X.K S))) : SS X c W st (sAugS G F S fo fi fe) :=
  h.imp fun D σ H ⟨ρ, m, μ, E, M, p⟩ => ⟨ρ, m, μ, E, M, (PostS.thenE E p).imp fun μ1 H1 m1 o s1 M1 p1 vo ro => ⟨ρ, m1, μ1, E.step s1, M1, (PostS.thenE (E.step s1) p1).imp fun μ2 H2 m2 i s2 M2 p2 vi ri => by
    refine ⟨o, i, m2, μ2, ro.step s2, ri, M2, ?_⟩
    have p2 := PostS.thenO p2
    cases q : G o i m2 with
    | none => rw [q] at p2; exact no_op p2
    | some z =>
      obtain ⟨x, m3⟩ := z
      rw [q] at p2
      exact fun μ3 H3 s3 M3 vx rx => ⟨ρ, m3, μ3, ((E.step s1).step s2).step s3, M3, (PostS.thenE (((E.step s1).step s2).step s3) (p2 μ3 H3 s3 M3)).imp fun μ4 H4 m4 y s4 M4 p4 vy ry => by
        refine ⟨x, y, m4, μ4, rx.step s4, ry, M4, ?_⟩
        have p4 := PostS.thenO p4
        cases q2 : F x y m4 with
        | none => rw [q2] at p4; exact no_op p4
        | some z =>
          obtain ⟨z, m5⟩ := z
          rw [q2] at p4
          exact fun μ5 H5 s5 M5 vz rz => by
            refine ⟨o, i, z, m5, μ5, (((ro.step s2).step s3).step s4).step s5, ((ri.step s3).step s4).step s5, rz, M5, ?_⟩
            have p5 := PostS.thenO (p4 μ5 H5 s5 M5)
            cases q3 : S o i z m5 with
            | none => rw [q3] at p5; exact no_op p5
            | some z =>
              obtain ⟨z', m6⟩ := z
              rw [q3] at p5
              exact fun μ6 H6 s6 M6 => (p5 μ6 H6 s6 M6).nx M6 (((((E.step s1).step s2).step s3).step s4).step s5 |>.step s6)⟩⟩⟩
/-! in place: ints, texts -/
def oIAdd : U → U → Mem → O U
  | .int i, .int j, m => some (.int (i + j), m)
  | .str x, .str y, m => if x.length + y.length ≤ sizeLine then some (.str (x ++ y), m) else none
  | _, _, _ => none
theorem x_iadd : PIp X .Add (rd2 X.K oIAdd) := by
  intro pins s σ H x y v u Q I rx ry h
  obtain ⟨u1, u2, m, μ, r1, r2, M, p⟩ := h
  unfold oIAdd at p
  split at p
  · cases r1; cases r2
    exact iop_add pins s σ H _ _ v u Q I rx ry ⟨_, _, rfl, rfl, p.val M (.int _)⟩
  · cases r1; cases r2
    split at p
    · rename_i hz
      exact iop_add_str pins s σ H _ _ v u Q I rx ry ⟨_, _, rfl, rfl, hz, p.val M (.str _)⟩
    · exact no_op p
  · exact no_op p
theorem x_isub : PIp X .Sub (rd2 X.K oSub) := by
  intro pins s σ H x y v u Q I rx ry h
  obtain ⟨u1, u2, m, μ, r1, r2, M, p⟩ := h
  unfold oSub at p
  split at p
  · cases r1; cases r2
    exact iop_sub pins s σ H _ _ v u Q I rx ry ⟨_, _, rfl, rfl, p.val M (.int _)⟩
  · exact no_op p
end
/-! ### reversed(range(..)) -/
def iRevR1 (f : XD) : ID := fun ρ m => (f ρ m).bind fun u m1 => match u with
  | .int j => if -(2 ^ 62) ≤ j ∧ j < 2 ^ 62 then .ok (.fix (runI 0 (j - 0).toNat).reverse) m1 else .bad
  | _ => .bad
theorem runI_len : ∀ (n : Nat) (lo : Int), (runI lo n).length = n
  | 0, _ => rfl
  | n + 1, lo => by rw [runI, List.length_cons, runI_len n]
theorem wk_rr {K : PySem.W.Frag} {H : Hp} {μ : List Addr} {lo : Int} {n : Nat} : WkOk K (Itc (lo + ((n : Nat) : Int) - 1) (-1) n) μ H (Src.fix (runI lo n).reverse).next := wk_fix fun i μ1 H1 m mo M _ => by
  by_cases h : i < n
  · have e : (runI lo n).reverse[i]? = some (.int (lo + ((n - 1 - i : Nat) : Int))) := by
      rw [List.getElem?_reverse (by rw [runI_len]; exact h), runI_len, runI_get, if_pos (by omega)]
    rw [e]
    refine ⟨h, fun x H' y => ?_⟩
    obtain ⟨e1, e2⟩ := y
    subst e1 e2
    refine ⟨.refl, M, ?_⟩
    have : lo + ((n : Nat) : Int) - 1 + (i : Int) * (-1) = lo + ((n - 1 - i : Nat) : Int) := by omega
    rw [this]
    exact .int _
  · rw [List.getElem?_eq_none (by rw [List.length_reverse, runI_len]; omega)]
    exact Nat.le_of_not_lt h
section
variable {X : Cx} {c : Nat → Addr} {W : WX} {tg : Expr} {f : XD}
theorem si_revR1 {st : Expr} (hp : PI X tg st (iRevR (tRg1 (rdE (wX X c) W f)))) : SI X c W tg st (iRevR1 f) :=
  hp.imp fun σ H R ⟨ρ, m, μ, E, M, p⟩ => ⟨ρ, m, μ, E, M, p.bind.imp fun μ1 H1 m1 u s1 M1 p1 v r => by
    split at p1
    · split at p1
      · rename_i hz
        cases r.i
        exact ⟨_, rfl, by omega, by omega, hz.1, hz.2, p1.ok_at M1 _ wk_rr⟩
      · exact False.elim p1
    · exact False.elim p1⟩
end
end Ev

set_option Elab.async false
set_option linter.all false
set_option maxRecDepth 100000
set_option maxHeartbeats 4000000
/-! Ev: short words for printed texts; the ends. -/
namespace Ev
open PySem PySem.Spec L2
def st (l : List Nat) : Str := ⟨l.toArray⟩
section
variable {X : Cx} {c : Nat → Addr} {W : WX}
theorem se_sl (i : Nat) {x : Str} {pos : Pos} (hN : X.N[i]? = some x := by rfl) (hv : Vis X.env.scope x := by first | exact Or.inl rfl | exact Or.inr (Or.inl rfl) | exact Or.inr (Or.inr rfl)) (hd : (x == ("__debug__" : Str)) = false := by decide) (hcd : (x == ("__classdict__" : Str)) = false := by decide) : SE X c W (.Name x pos) (dSlot i) :=
  se_slot hN hv hd hcd
end
theorem law_sp {K : PySem.W.Frag} {c : Nat → Addr} {F : List U → Mem → R U} (hF : ∀ ns : List Int, ns.length ≤ 63 → ∃ m, F [.rol (ns.map .int)] [] = .ok (.bl true) m) {vs : List V} {H : Hp} {Q : VK} {E : XK}
    (h : ∃ (ad : Addr) (ns : List Int), vs = [.ref ad] ∧ ((∃ o, H ad = some (.frz o (.lst (ns.map V.int)))) ∨ SqL K (fun _ => none) ad (ns.map V.int)) ∧ ns.length ≤ 63 ∧ ∀ H', Q (.bl true) H') : spF K c 1 F vs H Q E := by
  obtain ⟨ad, ns, rfl, hq, hl, hQ⟩ := h
  obtain ⟨m, e⟩ := hF ns hl
  refine ⟨rfl, [.rol (ns.map .int)], [], [], .cons (.rol hq (RUs.ints ns)) .nil, ⟨rfl, List.nodup_nil, fun n a c h _ => by simp at h⟩, ?_⟩
  rw [e]
  exact fun μ' H' s M v r => by
    cases r.b
    exact hQ H'
theorem only_rol {K : PySem.W.Frag} {H : Hp} {a : Addr} {vs : List V} (hO : Only H) (hS : SqL K H a vs) : (∃ o, H a = some (.frz o (.lst vs))) ∨ SqL K (fun _ => none) a vs := by
  rcases hS with (h | ⟨o, h⟩) | h
  · rcases hO a with e | ⟨o, xs, e⟩
    · rw [h] at e; cases e
    · rw [h] at e; cases e
  · exact .inl ⟨o, h⟩
  · exact .inr (.inr h)
theorem cx_false {P : Program} {w : World} {l : List PySem.Env} {H : Hp} {s : Shared} {e : Value} {s' : Shared} (z : L2.CX P w l H s (fun _ _ _ => False) e s') : False := by
  obtain ⟨_, _, _, _, _, _, _, _, _, _, _, _, z⟩ := z
  exact z
end Ev

set_option Elab.async false
set_option linter.all false
set_option maxRecDepth 100000
set_option maxHeartbeats 2000000
/-! Ev: len(set(..)), list(range(..)). -/
namespace Ev
open PySem PySem.Spec PyProof.Rows L2 RZ
/-- how many unlike ones -/
def dcount : List Int → Nat
  | [] => 0
  | a :: r => if a ∈ r then dcount r else dcount r + 1
theorem dcount_of : ∀ (ns out : List Int), out.Nodup → (∀ k, k ∈ out ↔ k ∈ ns) → out.length = dcount ns
  | [], out, _, h => by
    cases out with
    | nil => rfl
    | cons a r => exact absurd ((h a).mp (List.mem_cons_self ..)) (by simp)
  | a :: r, out, nd, h => by
    rw [dcount]
    by_cases ha : a ∈ r
    · rw [if_pos ha]
      exact dcount_of r out nd fun k => (h k).trans ⟨fun z => by
        rcases List.mem_cons.mp z with e | z
        · exact e ▸ ha
        · exact z, fun z => List.mem_cons_of_mem _ z⟩
    · rw [if_neg ha]
      have hao : a ∈ out := (h a).mpr (List.mem_cons_self ..)
      have ih := dcount_of r (out.erase a) (nd.erase a) fun k => by
        rw [nd.mem_erase_iff, h k, List.mem_cons]
        exact ⟨fun ⟨h1, h2⟩ => h2.resolve_left h1, fun z => ⟨fun e => ha (e ▸ z), .inr z⟩⟩
      rw [List.length_erase_of_mem hao] at ih
      have := List.length_pos_of_mem hao
      omega
theorem dcount_nodup : ∀ ns : List Int, ns.Nodup → dcount ns = ns.length
  | [], _ => rfl
  | a :: r, h => by
    have h' := List.nodup_cons.mp h
    rw [dcount, if_neg h'.1, dcount_nodup r h'.2, List.length_cons]
theorem dcount_le : ∀ ns : List Int, dcount ns ≤ ns.length
  | [] => Nat.le_refl _
  | a :: r => by
    have := dcount_le r
    rw [dcount, List.length_cons]; split <;> omega
theorem nodup_dcount : ∀ ns : List Int, dcount ns = ns.length → ns.Nodup
  | [], _ => List.nodup_nil
  | a :: r, h => by
    have hl := dcount_le r
    rw [dcount, List.length_cons] at h
    by_cases ha : a ∈ r
    · rw [if_pos ha] at h; omega
    · rw [if_neg ha] at h
      exact List.nodup_cons.mpr ⟨ha, nodup_dcount r (by omega)⟩
def tLenSetT (K : PySem.W.Frag) (ta : TE) : TE := fun σ H Q => ta σ H fun x H1 => ∃ (l : Addr) (ns : List Int), x = .ref l ∧ SqT K H1 l (ns.map V.int) ∧ ns.length ≤ 1000 ∧ Q (.int (dcount ns : Nat)) H1
theorem pe_lenSetT {X : Cx} {a : Expr} {ta : TE} {p p2 q pos : Pos} (hg : Gl X "len") (hm : X.mg "len" = none) (hg2 : Gl X "set") (hm2 : X.mg "set" = none) (ha : PE X a ta) (hc : X.calm = true := by rfl)
    (na : starEach [a] X.env = (false, eval a X.env) :: starEach [] X.env := by rfl) : PE X (.Call (.Name "len" p) [.Call (.Name "set" p2) [a] [] q] [] pos) (tLenSetT X.K ta) := by
  refine ⟨fun pins s σ H Q I h => ?_⟩
  refine Call_ (ld_blt I hg hm boot_len ?_)
  refine PyProof.Rows.callWith_builtin1 (PyProof.Rows.args_cons ?_ rfl) rfl rfl
  refine Call_ (ld_blt I hg2 hm2 boot_set ?_)
  refine PyProof.Rows.callWith_type1 (PyProof.Rows.args_cons (thn (ha.run pins s σ H _ I h) fun v s1 ⟨x, H1, I1, r1, q1⟩ => PyProof.Rows.args_nil ?_) na) na rfl
  obtain ⟨l, ns, rfl, hq, hl, q1⟩ := q1
  cases r1
  obtain ⟨its, rv, pt, hz⟩ := I1.tuple hq
  have hi : PyProof.Rows.IntsAre its.toArray.toList ns := ints_of_vals rv
  refine call_set_tupI ns (I1.ok.hd hc) (show s1.heap.IsTuple l its.toArray from pt) hi (by unfold scanBound; omega) fun h' tk c R1 hcn k => ?_
  obtain ⟨o, es, ep, t, ho, hex, hdt, g, nd, hm2, hb, hf, hn, hr, hl2⟩ := R1
  refine PyProof.Rows.args_nil ?_
  have I2 : Inv X pins σ H1 { s1 with heap := h', toks := tk } := I1.kept fun b o e => k b o e
  have hsz : es.size = dcount ns := by
    have := dcount_of ns (es.toList.map keyOf) nd fun k => (hm2 k).symm.trans (by simp)
    rwa [List.length_map, Array.length_toList] at this
  exact call_len_set ho hex hdt hf (by unfold scanBound at hb; omega) ⟨.int (dcount ns : Nat), H1, I2.tok _, ⟨_, by rw [hsz]⟩, q1⟩
/-- len(set(e)) of a tuple of ints -/
def dLenSet (f : XD) : XD := fun ρ m => (f ρ m).bind fun u m1 => match u with
  | .tup us => match nums us with
    | some ns => if ns.length ≤ 1000 then .ok (.int (dcount ns : Nat)) m1 else .bad
    | none => .bad
  | _ => .bad
theorem nums_u : ∀ {us : List U} {ns : List Int}, nums us = some ns → us = ns.map U.int
  | [], _, h => by cases h; rfl
  | u :: us, ns, h => by
    cases u with
    | int i =>
      simp only [nums] at h
      cases e : nums us with
      | none => rw [e] at h; cases h
      | some ms => rw [e] at h; cases h; rw [nums_u e]; rfl
    | _ => cases h
section
variable {X : Cx} {c : Nat → Addr} {W : WX} {f : XD}
theorem se_lenSet {st : Expr} (h : PE X st (tLenSetT X.K (rdE (wX X c) W f))) : SE X c W st (dLenSet f) :=
  h.imp fun σ H Q ⟨ρ, m, μ, E, M, p⟩ => ⟨ρ, m, μ, E, M, p.bind.imp fun μ1 H1 m1 u s1 M1 p1 v r => by
    cases u with
    | tup us =>
      simp only at p1
      cases e : nums us with
      | none => rw [e] at p1; exact False.elim p1
      | some ns =>
        rw [e] at p1
        simp only at p1
        split at p1
        · rename_i hl
          have hu := nums_u e
          subst hu
          cases r with
          | tup hs t =>
            rw [t.vints] at hs
            exact ⟨_, ns, rfl, hs, hl, p1 μ1 H1 .refl M1 _ (.int _)⟩
        · exact False.elim p1
    | _ => exact False.elim p1⟩
/-! ### list(range(n)), list(range(a, b)) -/
def oLstRg (a b : Int) (m : Mem) : O U := if -(2 ^ 62) ≤ a ∧ a < 2 ^ 62 ∧ -(2 ^ 62) ≤ b ∧ b < 2 ^ 62 ∧ (b - a).toNat ≤ 2 ^ 24 then some (.ref m.length, m ++ [.lst (runI a (b - a).toNat)]) else none
def oTupRg (a b : Int) (m : Mem) : O U := if -(2 ^ 62) ≤ a ∧ a < 2 ^ 62 ∧ -(2 ^ 62) ≤ b ∧ b < 2 ^ 62 ∧ (b - a).toNat ≤ 2 ^ 24 then some (.tup (runI a (b - a).toNat), m) else none
theorem RUs_rg {K : PySem.W.Frag} {H : Hp} {μ : List Addr} : ∀ (n : Nat) (a : Int), RUs K H μ (runI a n) ((List.range n).map fun i : Nat => V.int (a + (i : Nat)))
  | 0, a => .nil
  | n + 1, a => by
    rw [List.range_succ_eq_map, List.map_cons, List.map_map]
    refine .cons ?_ ?_
    · have : a + ((0 : Nat) : Int) = a := by omega
      rw [this]; exact .int a
    · have ih := RUs_rg (K := K) (H := H) (μ := μ) n (a + 1)
      have e : ((fun i : Nat => V.int (a + (i : Nat))) ∘ Nat.succ) = fun i : Nat => V.int (a + 1 + (i : Nat)) := by
        funext i
        show V.int _ = V.int _
        congr 1
        show a + ((i + 1 : Nat) : Int) = _
        omega
      rw [e]; exact ih
def dLstRg (f : XD) : XD := fun ρ m => (f ρ m).bind fun u m1 => match u with
  | .int n => ofO (oLstRg 0 n m1)
  | _ => .bad
theorem se_lstRg {st : Expr} (h : PE X st (tLstRg (tRg1 (rdE (wX X c) W f)))) : SE X c W st (dLstRg f) :=
  h.imp fun σ H Q ⟨ρ, m, μ, E, M, p⟩ => ⟨ρ, m, μ, E, M, p.bind.imp fun μ1 H1 m1 u s1 M1 p1 v r => by
    cases u with
    | int n =>
      cases r
      refine ⟨n, rfl, ?_⟩
      simp only at p1
      unfold oLstRg at p1
      split at p1
      · rename_i hz
        refine ⟨hz, fun q hq => ?_⟩
        exact PostO.lst p1.o M1 (RUs_rg (n - 0).toNat 0) hq
      · exact False.elim p1
    | _ => exact False.elim p1⟩
def dTupRg (f : XD) : XD := fun ρ m => (f ρ m).bind fun u m1 => match u with
  | .int n => ofO (oTupRg 0 n m1)
  | _ => .bad
theorem se_tupRg {st : Expr} (h : PE X st (tTupRg (tRg1 (rdE (wX X c) W f)))) : SE X c W st (dTupRg f) :=
  h.imp fun σ H Q ⟨ρ, m, μ, E, M, p⟩ => ⟨ρ, m, μ, E, M, p.bind.imp fun μ1 H1 m1 u s1 M1 p1 v r => by
    cases u with
    | int n =>
      cases r
      refine ⟨n, rfl, ?_⟩
      simp only at p1
      unfold oTupRg at p1
      split at p1
      · rename_i hz
        refine ⟨hz, fun q hq => ?_⟩
        exact PostO.tup p1.o M1 (RUs_rg (n - 0).toNat 0) hq
      · exact False.elim p1
    | _ => exact False.elim p1⟩
/-- two ends -/
def dLstRg2 (f g : XD) : XD := fun ρ m => (f ρ m).bind fun u m1 => (g ρ m1).bind fun v m2 => match u, v with
  | .int i, .int j => ofO (oLstRg i j m2)
  | _, _ => .bad
def dTupRg2 (f g : XD) : XD := fun ρ m => (f ρ m).bind fun u m1 => (g ρ m1).bind fun v m2 => match u, v with
  | .int i, .int j => ofO (oTupRg i j m2)
  | _, _ => .bad
theorem se_lstRg2 {st : Expr} {g : XD} (h : PE X st (tLstRg (tRg2 (rdE (wX X c) W f) (rdE (wX X c) W g)))) : SE X c W st (dLstRg2 f g) :=
  h.imp fun σ H Q ⟨ρ, m, μ, E, M, p⟩ => ⟨ρ, m, μ, E, M, p.bind.imp fun μ1 H1 m1 u s1 M1 p1 x r => ⟨ρ, m1, μ1, E.step s1, M1, p1.bind.imp fun μ2 H2 m2 v s2 M2 p2 y r2 => by
    have r' := r.step s2
    split at p2
    · rename_i i j
      cases r'; cases r2
      refine ⟨i, j, rfl, rfl, ?_⟩
      unfold oLstRg at p2
      split at p2
      · rename_i hz
        exact ⟨hz, fun q hq => PostO.lst p2.o M2 (RUs_rg (j - i).toNat i) hq⟩
      · exact False.elim p2
    · exact False.elim p2⟩⟩
theorem se_tupRg2 {st : Expr} {g : XD} (h : PE X st (tTupRg (tRg2 (rdE (wX X c) W f) (rdE (wX X c) W g)))) : SE X c W st (dTupRg2 f g) :=
  h.imp fun σ H Q ⟨ρ, m, μ, E, M, p⟩ => ⟨ρ, m, μ, E, M, p.bind.imp fun μ1 H1 m1 u s1 M1 p1 x r => ⟨ρ, m1, μ1, E.step s1, M1, p1.bind.imp fun μ2 H2 m2 v s2 M2 p2 y r2 => by
    have r' := r.step s2
    split at p2
    · rename_i i j
      cases r'; cases r2
      refine ⟨i, j, rfl, rfl, ?_⟩
      unfold oTupRg at p2
      split at p2
      · rename_i hz
        exact ⟨hz, fun q hq => PostO.tup p2.o M2 (RUs_rg (j - i).toNat i) hq⟩
      · exact False.elim p2
    · exact False.elim p2⟩⟩
end
theorem u65 {k : Nat} {A : Around} (hr : Room k A) : A.units + 65 < cLine := by have := hr.un; omega
end Ev

set_option Elab.async false
set_option linter.all false
set_option maxRecDepth 100000
set_option maxHeartbeats 2000000
/-! Ev: a law's functions reckoned with, by rewriting. -/
namespace Ev
open PySem PySem.Spec L2

/-! ### memory -/
theorem mem_last (m : Mem) (c : Cell) : (m ++ [c])[m.length]? = some c := by simp
theorem mem_setl (m : Mem) (c d : Cell) : (m ++ [c]).set m.length d = m ++ [d] := by simp
theorem mem_old {m : Mem} {t : Mem} {n : Nat} {c : Cell} (h : m[n]? = some c) : (m ++ t)[n]? = some c := by
  rw [List.getElem?_append_left (List.getElem?_eq_some_iff.mp h).1]; exact h
theorem mulOk_l {i j : Int} (h : -18446744073709551616 < i) (h2 : i < 18446744073709551616) : mulOk i j = true := by
  unfold mulOk
  simp only [Bool.or_eq_true, decide_eq_true_eq]
  left; left; omega
theorem mulOk_r {i j : Int} (h : -18446744073709551616 < j) (h2 : j < 18446744073709551616) : mulOk i j = true := by
  unfold mulOk
  simp only [Bool.or_eq_true, decide_eq_true_eq]
  left; right; omega
theorem log2_lt {n k : Nat} (h : n < 2 ^ k) (hk : 0 < k) : n.log2 < k := by
  by_cases h0 : n = 0
  · subst h0; simpa using hk
  · exact (Nat.log2_lt h0).mpr h
abbrev tI (l : List Int) : U := .tup (l.map .int)
abbrev cI (l : List Int) : Cell := .lst (l.map .int)

/-! ### the rules -/
theorem runB_e {l n : Nat} {b : SD} {us : List U} {m : Mem} (h : us.length = n) : runB l n b us m = finS (b (us.map some ++ List.replicate (l - us.length) none) m) := if_pos h
theorem evB :
    (∀ {α β : Type} (a : α) (m : Mem) (k : α → Mem → R β), (R.ok a m).bind k = k a m) ∧
    (∀ {α β : Type} (x : Ex) (m : Mem) (k : α → Mem → R β), (R.err x m : R α).bind k = .err x m) ∧
    (∀ {α : Type} (a : α) (m : Mem) ρ k, thenE (R.ok a m) ρ k = k a m) ∧
    (∀ {α : Type} x (m : Mem) ρ k, thenE (R.err x m : R α) ρ k = .err x ρ m) ∧
    (∀ {α : Type} (a : α) (m : Mem) k, thenO (some (a, m) : O α) k = k a m) ∧
    (∀ ρ m k, thenS (.ok .nx ρ m) k = k ρ m) ∧
    (∀ u ρ m k, thenS (.ok (.rt u) ρ m) k = .ok (.rt u) ρ m) ∧
    (∀ x ρ m k, thenS (.err x ρ m) k = .err x ρ m) ∧
    (∀ ρ m k, thenS (.ok .bk ρ m) k = .ok .bk ρ m) ∧
    (∀ ρ m k, thenS (.ok .ct ρ m) k = .ok .ct ρ m) ∧
    (∀ ρ m k, loopS (.ok .nx ρ m) k = k ρ m) ∧
    (∀ ρ m k, loopS (.ok .ct ρ m) k = k ρ m) ∧
    (∀ ρ m k, loopS (.ok .bk ρ m) k = .ok .nx ρ m) ∧
    (∀ u ρ m k, loopS (.ok (.rt u) ρ m) k = .ok (.rt u) ρ m) ∧
    (∀ x ρ m k, loopS (.err x ρ m) k = .err x ρ m) ∧
    (∀ u ρ m, finS (.ok (.rt u) ρ m) = .ok u m) ∧
    (∀ ρ m, finS (.ok .nx ρ m) = .ok .non m) ∧
    (∀ x ρ m, finS (.err x ρ m) = .err x m) ∧
    (∀ {α : Type} (a : α) (m : Mem), ofO (some (a, m)) = .ok a m) ∧
    (∀ {α : Type} (a : α) (m : Mem), ofB (some a) m = .ok a m) ∧
    (∀ {α : Type} b (k : Bool → R α), asB (.bl b) k = k b) ∧
    (∀ {α : Type} (a : α) (m : Mem), toO (.ok a m) = some (a, m)) :=
  ⟨fun _ _ _ => rfl, fun _ _ _ => rfl, fun _ _ _ _ => rfl, fun _ _ _ _ => rfl, fun _ _ _ => rfl, fun _ _ _ => rfl, fun _ _ _ _ => rfl, fun _ _ _ _ => rfl, fun _ _ _ => rfl, fun _ _ _ => rfl, fun _ _ _ => rfl, fun _ _ _ => rfl, fun _ _ _ => rfl, fun _ _ _ _ => rfl, fun _ _ _ _ => rfl, fun _ _ _ => rfl, fun _ _ => rfl, fun _ _ _ => rfl, fun _ _ => rfl, fun _ _ => rfl, fun _ _ => rfl, fun _ _ => rfl⟩
theorem dSlot_e {i : Nat} {ρ : Env} {u : U} {m : Mem} (h : ρ[i]? = some (some u)) : dSlot i ρ m = .ok u m := by unfold dSlot; rw [h]
/-- expressions -/
theorem evX :
    (∀ u ρ m, dC u ρ m = .ok u m) ∧
    (∀ F fa fb ρ m, dOp F fa fb ρ m = (fa ρ m).bind fun u m1 => (fb ρ m1).bind fun v m2 => ofO (F u v m2)) ∧
    (∀ F fa ρ m, dUn F fa ρ m = (fa ρ m).bind fun u m1 => ofO (F u m1)) ∧
    (∀ fa fb ρ m, dAnd fa fb ρ m = (fa ρ m).bind fun z m1 => asB z fun b => if b then fb ρ m1 else .ok (.bl false) m1) ∧
    (∀ fa fb ρ m, dOr fa fb ρ m = (fa ρ m).bind fun z m1 => asB z fun b => if b then .ok (.bl true) m1 else fb ρ m1) ∧
    (∀ fa ρ m, dNot fa ρ m = (fa ρ m).bind fun z m1 => asB z fun b => .ok (.bl (!b)) m1) ∧
    (∀ t fa fb ρ m, dIf t fa fb ρ m = (t ρ m).bind fun b m1 => if b then fa ρ m1 else fb ρ m1) ∧
    (∀ ρ m, lNil ρ m = .ok [] m) ∧
    (∀ fa fr ρ m, lCons fa fr ρ m = (fa ρ m).bind fun u m1 => (fr ρ m1).bind fun us m2 => .ok (u :: us) m2) ∧
    (∀ fr ρ m, dTup fr ρ m = (fr ρ m).bind fun us m1 => ofO (oTup us m1)) ∧
    (∀ fr ρ m, dLst fr ρ m = (fr ρ m).bind fun us m1 => ofO (oLst us m1)) ∧
    (∀ F fr ρ m, dCall F fr ρ m = (fr ρ m).bind fun us m1 => F us m1) ∧
    (∀ F fr ρ m, dB F fr ρ m = (fr ρ m).bind fun us m1 => ofO (F us m1)) ∧
    (∀ fa ρ m, tTru fa ρ m = (fa ρ m).bind fun z m1 => ofB (truU m1 z) m1) ∧
    (∀ fa ρ m, tBl fa ρ m = (fa ρ m).bind fun z m1 => asB z fun b => .ok b m1) ∧
    (∀ t u ρ m, tAn t u ρ m = (t ρ m).bind fun b m1 => if b then u ρ m1 else .ok false m1) ∧
    (∀ t u ρ m, tO t u ρ m = (t ρ m).bind fun b m1 => if b then .ok true m1 else u ρ m1) ∧
    (∀ t ρ m, tN t ρ m = (t ρ m).bind fun b m1 => .ok (!b) m1) ∧
    (∀ ρ m, tYesU ρ m = .ok true m) ∧
    (∀ f g t e vs ρ m, dLc f g t e vs ρ m = (f ρ m).bind fun s m1 => ofO (oList (compR g t e (wipeU ρ vs) s m1))) ∧
    (∀ T f ρ m, dIsi T f ρ m = (f ρ m).bind fun u m1 => match isTy m1 T u with | some b => .ok (.bl b) m1 | none => .bad) ∧
    (∀ T F fo fr ρ m, dM T F fo fr ρ m = (fo ρ m).bind fun o m1 => if isMT m1 T o then (fr ρ m1).bind fun us m2 => ofO (F o us m2) else .bad) ∧
    (∀ T F fo ρ m, dM0 T F fo ρ m = (fo ρ m).bind fun o m1 => if isMT m1 T o then ofO (F o [] m1) else .bad) ∧
    (∀ fa lo hi ρ m, dSlice fa lo hi ρ m = (fa ρ m).bind fun u m1 => (lo ρ m1).bind fun l m2 => (hi ρ m2).bind fun h m3 => ofO (oSlice u l h m3)) ∧
    (∀ F F' fa fb fc ρ m, dChain F F' fa fb fc ρ m = (fa ρ m).bind fun u m1 => (fb ρ m1).bind fun v m2 => (ofO (F u v m2)).bind fun z m3 => asB z fun b => if b then (fc ρ m3).bind fun t m4 => ofO (F' v t m4) else .ok (.bl false) m3) ∧
    (∀ g t e ρ us m, compR g t e ρ (.fix us) m = compL g t e ρ us m) :=
  ⟨fun _ _ _ => rfl, fun _ _ _ _ _ => rfl, fun _ _ _ _ => rfl, fun _ _ _ _ => rfl, fun _ _ _ _ => rfl, fun _ _ _ => rfl, fun _ _ _ _ _ => rfl, fun _ _ => rfl, fun _ _ _ _ => rfl, fun _ _ _ => rfl, fun _ _ _ => rfl, fun _ _ _ _ => rfl, fun _ _ _ _ => rfl, fun _ _ _ => rfl, fun _ _ _ => rfl, fun _ _ _ _ => rfl, fun _ _ _ _ => rfl, fun _ _ _ => rfl, fun _ _ => rfl, fun _ _ _ _ _ _ _ => rfl, fun _ _ _ _ => rfl, fun _ _ _ _ _ _ => rfl, fun _ _ _ _ _ => rfl, fun _ _ _ _ _ => rfl, fun F F' fa fb fc ρ m => by
    unfold dChain
    congr 1; funext u m1
    congr 1; funext v m2
    congr 1; funext z m3
    cases z with
    | bl b => cases b <;> rfl
    | _ => rfl, fun _ _ _ _ _ _ => rfl⟩
/-- statements, targets -/
theorem evS :
    (∀ ρ m, sNext ρ m = .ok .nx ρ m) ∧ (∀ ρ m, sBreak ρ m = .ok .bk ρ m) ∧ (∀ ρ m, sCont ρ m = .ok .ct ρ m) ∧
    (∀ f ρ m, sExpr f ρ m = thenE (f ρ m) ρ fun _ m1 => .ok .nx ρ m1) ∧
    (∀ f ρ m, sRet f ρ m = thenE (f ρ m) ρ fun u m1 => .ok (.rt u) ρ m1) ∧
    (∀ ρ m, sRetN ρ m = .ok (.rt .non) ρ m) ∧
    (∀ a b ρ m, sSeq a b ρ m = thenS (a ρ m) b) ∧
    (∀ t a b ρ m, sIf t a b ρ m = thenE (t ρ m) ρ fun k m1 => if k then a ρ m1 else b ρ m1) ∧
    (∀ i u ρ m, gName i u ρ m = some (ρ.set i (some u), m)) ∧
    (∀ ρ m, gNil [] ρ m = some (ρ, m)) ∧
    (∀ i gs u r ρ m, gCons (gName i) gs (u :: r) ρ m = gs r (ρ.set i (some u)) m) ∧
    (∀ n gs us ρ m, gTup n gs (.tup us) ρ m = if us.length = n then gs us ρ m else none) ∧
    (∀ S fo fi u ρ m, gSub S fo fi u ρ m = match toO (fo ρ m) with | some (o, m1) => (match toO (fi ρ m1) with | some (i, m2) => (S o i u m2).map fun x => (ρ, x.2) | none => none) | none => none) ∧
    (∀ f g ρ m, sAsg f g ρ m = thenE (f ρ m) ρ fun u m1 => thenO (g u ρ m1) fun ρ1 m2 => .ok .nx ρ1 m2) ∧
    (∀ i j f ρ m, sPar i j f ρ m = thenE (f ρ m) ρ fun us m1 => match us with | [u, v] => .ok .nx ((ρ.set i (some u)).set j (some v)) m1 | _ => .bad) ∧
    (∀ G F S fo fi fe ρ m, sAugS G F S fo fi fe ρ m = thenE (fo ρ m) ρ fun o m1 => thenE (fi ρ m1) ρ fun i m2 => thenO (G o i m2) fun x m3 => thenE (fe ρ m3) ρ fun y m4 => thenO (F x y m4) fun z m5 => thenO (S o i z m5) fun _ m6 => .ok .nx ρ m6) ∧
    (∀ f g b ρ m, sFor f g b ρ m = thenE (f ρ m) ρ fun s m1 => forR g b s ρ m1) ∧
    (∀ g b us, forR g b (.fix us) = forL g b us) ∧
    (∀ g b, forL g b [] = sNext) ∧
    (∀ g b u us ρ m, forL g b (u :: us) ρ m = thenO (g u ρ m) fun ρ1 m1 => loopS (b ρ1 m1) (forL g b us)) ∧
    (∀ t b, sWhile t b = whileN t b 1000000) ∧
    (∀ k ρ m, sRaise k ρ m = .err ⟨k, none⟩ ρ m) :=
  ⟨fun _ _ => rfl, fun _ _ => rfl, fun _ _ => rfl, fun _ _ _ => rfl, fun _ _ _ => rfl, fun _ _ => rfl, fun _ _ _ _ => rfl, fun _ _ _ _ _ => rfl, fun _ _ _ _ => rfl, fun _ _ => rfl, fun _ _ _ _ _ _ => rfl, fun _ _ _ _ _ => rfl, fun _ _ _ _ _ _ => rfl, fun _ _ _ _ => rfl, fun _ _ _ _ _ => rfl, fun _ _ _ _ _ _ _ _ => rfl, fun _ _ _ _ _ => rfl, fun _ _ _ => rfl, fun _ _ => rfl, fun _ _ _ _ _ _ => rfl, fun _ _ => rfl, fun _ _ _ => rfl⟩
/-- operations without a bound -/
theorem evO :
    (∀ i j m, oAdd (.int i) (.int j) m = some (.int (i + j), m)) ∧
    (∀ i j m, oIAdd (.int i) (.int j) m = some (.int (i + j), m)) ∧
    (∀ i j m, oSub (.int i) (.int j) m = some (.int (i - j), m)) ∧
    (∀ i m, oNeg (.int i) m = some (.int (-i), m)) ∧
    (∀ fi fs i j m, oCmp fi fs (.int i) (.int j) m = some (.bl (fi i j), m)) ∧
    (∀ us m, oLen [.tup us] m = some (.int us.length, m)) ∧
    (∀ us m, oLen [.rol us] m = some (.int us.length, m)) ∧
    (∀ i m, oInt [.int i] m = some (.int i, m)) ∧
    (∀ b m, oInt [.bl b] m = some (.int (if b then 1 else 0), m)) ∧
    (∀ i m, oAbs [.int i] m = some (.int (if i < 0 then -i else i), m)) ∧
    (∀ i j m, oMax2 [.int i, .int j] m = some (.int (if j > i then j else i), m)) ∧
    (∀ i j m, oMin2 [.int i, .int j] m = some (.int (if j < i then j else i), m)) ∧
    (∀ us m, oToTup [.tup us] m = some (.tup us, m)) ∧
    (∀ us m, oToLst [.tup us] m = some (.ref m.length, m ++ [.lst us])) ∧
    (∀ m b, truU m (.bl b) = some b) ∧
    (∀ m i, truU m (.int i) = some (i != 0)) ∧
    (∀ m us, truU m (.tup us) = some (!us.isEmpty)) ∧
    (∀ m us, srcA m (.tup us) = some (.fix us)) ∧
    (∀ m us, srcE m (.tup us) = some (.fix (enumU 0 us))) ∧
    (∀ m us, srcR m (.tup us) = some (.fix us.reverse)) ∧
    (∀ m us T, isTy m T (.tup us) = some (match T with | .tuple => true | _ => false)) ∧
    (∀ m i T, isTy m T (.int i) = some (match T with | .int => true | _ => false)) :=
  ⟨fun _ _ _ => rfl, fun _ _ _ => rfl, fun _ _ _ => rfl, fun _ _ => rfl, fun _ _ _ _ _ => rfl, fun _ _ => rfl, fun _ _ => rfl, fun _ _ => rfl, fun _ _ => rfl, fun _ _ => rfl, fun _ _ _ => rfl, fun _ _ _ => rfl, fun _ _ => rfl, fun _ _ => rfl, fun _ _ => rfl, fun _ _ => rfl, fun _ _ => rfl, fun _ _ => rfl, fun _ _ => rfl, fun _ _ => rfl, fun _ _ T => by cases T <;> rfl, fun _ _ T => by cases T <;> rfl⟩
/-- operations with a bound -/
theorem oMulG_e {i j : Int} {m : Mem} (h : mulOk i j = true) : oMulG (.int i) (.int j) m = some (.int (i * j), m) := by
  show oMul (.int i) (.int j) m = _
  unfold oMul; exact if_pos h
theorem oMulG_a {i j : Int} {m : Mem} (h : -18446744073709551616 < i) (h2 : i < 18446744073709551616) : oMulG (.int i) (.int j) m = some (.int (i * j), m) := oMulG_e (mulOk_l h h2)
theorem oMulG_b {i j : Int} {m : Mem} (h : -18446744073709551616 < j) (h2 : j < 18446744073709551616) : oMulG (.int i) (.int j) m = some (.int (i * j), m) := oMulG_e (mulOk_r h h2)
theorem oMod_e {i j : Int} {m : Mem} (h : 0 < j) : oMod (.int i) (.int j) m = some (.int (i % j), m) := if_pos h
theorem oTup_e {us : List U} {m : Mem} (h : us.length ≤ 16777216) : oTup us m = some (.tup us, m) := if_pos h
theorem oLst_e {us : List U} {m : Mem} (h : us.length ≤ 16777216) : oLst us m = some (.ref m.length, m ++ [.lst us]) := if_pos h
theorem oList_e {us : List U} {m : Mem} (h : us.length ≤ 16777216) : oList (some (us, m)) = some (.ref m.length, m ++ [.lst us]) := if_pos h
theorem oLen_r {n : Nat} {us : List U} {m : Mem} (h : m[n]? = some (.lst us)) : oLen [.ref n] m = some (.int us.length, m) := by
  unfold oLen; simp only [h]
theorem oToTup_r {n : Nat} {us : List U} {m : Mem} (h : m[n]? = some (.lst us)) : oToTup [.ref n] m = some (.tup us, m) := by
  unfold oToTup itemsOf; simp only [h]; rfl
theorem oAll_r {n : Nat} {bs : List Bool} {m : Mem} (h : m[n]? = some (.lst (bs.map .bl))) : oAll [.ref n] m = some (.bl (bs.all id), m) := by
  unfold oAll; simp only [h]
  rw [show bools (bs.map U.bl) = some bs from by clear h; induction bs with | nil => rfl | cons b r ih => simp [bools, ih]]
  rfl
theorem truU_r {n : Nat} {us : List U} {m : Mem} (h : m[n]? = some (.lst us)) : truU m (.ref n) = some (!us.isEmpty) := by
  unfold truU; simp only [h]
theorem isMT_r {n : Nat} {us : List U} {m : Mem} (h : m[n]? = some (.lst us)) : isMT m .list (.ref n) = true := by
  unfold isMT; simp only [h]
theorem atI_at {α : Type} {us : List α} {i : Int} {x : α} (h0 : 0 ≤ i) (h : us[i.toNat]? = some x) : atI us i = some x := by
  have := atI_nat h
  rwa [Int.toNat_of_nonneg h0] at this
theorem oIx_t {us : List U} {i : Int} {x : U} {m : Mem} (h : atI us i = some x) : oIx (.tup us) (.int i) m = some (x, m) := by
  show (atI us i).map (fun x => (x, m)) = _
  rw [h]; rfl
theorem oIx_r {n : Nat} {us : List U} {i : Int} {x : U} {m : Mem} (hm : m[n]? = some (.lst us)) (h : atI us i = some x) : oIx (.ref n) (.int i) m = some (x, m) := by
  have : oIx (.ref n) (.int i) m = match itemsOf m (.ref n) with | some us => (atI us i).map fun x => (x, m) | none => none := rfl
  rw [this, itemsOf]; simp only [hm, h]; rfl
theorem oGetL_r {n : Nat} {us : List U} {i : Int} {x : U} {m : Mem} (hm : m[n]? = some (.lst us)) (h : atI us i = some x) : oGetL (.ref n) (.int i) m = some (x, m) := by
  show (match cellAt m n with | some us => (atI us i).map fun u => (u, m) | none => none) = _
  unfold cellAt; simp only [hm, h]; rfl
theorem ixN_at {n : Nat} {i : Int} (h0 : 0 ≤ i) (h : i < n) : ixN n i = some i.toNat := by unfold ixN; rw [if_pos h0, if_pos h]
theorem oSetL_r {n : Nat} {us : List U} {i : Int} {v : U} {m : Mem} (hm : m[n]? = some (.lst us)) (h0 : 0 ≤ i) (h : i < us.length) : oSetL (.ref n) (.int i) v m = some ((), m.set n (.lst (us.set i.toNat v))) := by
  show (match m[n]? with | some (.lst us) => (ixN us.length i).map fun j => ((), m.set n (.lst (us.set j v))) | _ => none) = _
  simp only [hm, ixN_at h0 h]; rfl
theorem oPop_r {n : Nat} {us : List U} {u : U} {m : Mem} (hm : m[n]? = some (.lst (us ++ [u]))) : oPop (.ref n) [] m = some (u, m.set n (.lst us)) := by
  show (match m[n]? with | some (.lst us) => (us[us.length - 1]?).map fun u => (u, m.set n (.lst us.dropLast)) | _ => none) = _
  simp only [hm]
  simp
theorem oAppend_r {n : Nat} {us : List U} {u : U} {m : Mem} (hm : m[n]? = some (.lst us)) (h : us.length < 16777216) : oAppend (.ref n) [u] m = some (U.non, m.set n (.lst (us ++ [u]))) := by
  show (match m[n]? with | some (.lst us) => if us.length < sizeLine then some (U.non, m.set n (.lst (us ++ [u]))) else none | _ => none) = _
  simp only [hm]
  exact if_pos h
theorem oAdd_t {xs ys : List U} {m : Mem} (h : xs.length + ys.length ≤ 16777216) : oAdd (.tup xs) (.tup ys) m = some (.tup (xs ++ ys), m) := if_pos h
theorem oAdd_r {l k : Nat} {xs ys : List U} {m : Mem} (hl : m[l]? = some (.lst xs)) (hk : m[k]? = some (.lst ys)) (h : xs.length + ys.length ≤ 16777216) : oAdd (.ref l) (.ref k) m = some (.ref m.length, m ++ [.lst (xs ++ ys)]) := by
  unfold oAdd; simp only [hl, hk]; exact if_pos h
theorem oMulG_t {xs : List U} {k : Int} {m : Mem} (h1 : -1000 ≤ k) (h2 : k ≤ 1000) (h3 : xs.length ≤ 1000) : oMulG (.tup xs) (.int k) m = some (.tup (List.replicate k.toNat xs).flatten, m) := if_pos ⟨h1, h2, h3⟩
theorem oMulG_r {l : Nat} {xs : List U} {k : Int} {m : Mem} (hl : m[l]? = some (.lst xs)) (h1 : -9223372036854775808 ≤ k) (h2 : k < 9223372036854775808) (h3 : xs.length * k.toNat ≤ 16777216) : oMulG (.ref l) (.int k) m = some (.ref m.length, m ++ [.lst (List.replicate k.toNat xs).flatten]) := by
  show oMul (.ref l) (.int k) m = _
  unfold oMul; simp only [hl]; exact if_pos ⟨h1, h2, h3⟩
theorem iRange1_e {f : XL} {ρ : Env} {m m1 : Mem} {j : Int} (h : f ρ m = .ok [.int j] m1) (h1 : -4611686018427387904 ≤ j) (h2 : j < 4611686018427387904) : iRange1 f ρ m = .ok (.fix (runI 0 j.toNat)) m1 := by
  unfold iRange1; rw [h]; exact if_pos ⟨h1, h2⟩
/-- what a cell's list gives -/
def nxL (n : Nat) : Nat → Mem → Option (Option U) := fun i m => match m[n]? with
  | some (.lst us) => some us[i]?
  | _ => none
theorem nxL_e {n : Nat} {us : List U} {m : Mem} (h : m[n]? = some (.lst us)) (i : Nat) : nxL n i m = some us[i]? := by unfold nxL; simp only [h]
/-- operations on cells, on places -/
theorem evR :
    (∀ n m, oLen [.ref n] m = match m[n]? with | some (.lst us) => some (.int us.length, m) | some (.dK kvs) => some (.int kvs.length, m) | _ => none) ∧
    (∀ n m, oToTup [.ref n] m = match m[n]? with | some (.lst us) => some (.tup us, m) | _ => none) ∧
    (∀ n m, oToLst [.ref n] m = match m[n]? with | some (.lst us) => some (.ref m.length, m ++ [.lst us]) | _ => none) ∧
    (∀ n m, truU m (.ref n) = match m[n]? with | some (.lst us) => some (!us.isEmpty) | some (.dK kvs) => some (!kvs.isEmpty) | _ => none) ∧
    (∀ n m, isMT m .list (.ref n) = match m[n]? with | some (.lst _) => true | _ => false) ∧
    (∀ us i m, oIx (.tup us) (.int i) m = match atI us i with | some x => some (x, m) | none => none) ∧
    (∀ us i m, oIx (.rol us) (.int i) m = match atI us i with | some x => some (x, m) | none => none) ∧
    (∀ n i m, oIx (.ref n) (.int i) m = match m[n]? with | some (.lst us) => (match atI us i with | some x => some (x, m) | none => none) | _ => none) ∧
    (∀ n i m, oGetL (.ref n) (.int i) m = match m[n]? with | some (.lst us) => (match atI us i with | some x => some (x, m) | none => none) | _ => none) ∧
    (∀ n i v m, oSetL (.ref n) (.int i) v m = match m[n]? with | some (.lst us) => (match ixN us.length i with | some j => some ((), m.set n (.lst (us.set j v))) | none => none) | _ => none) ∧
    (∀ n m, oPop (.ref n) [] m = match m[n]? with | some (.lst us) => (match us[us.length - 1]? with | some u => some (u, m.set n (.lst us.dropLast)) | none => none) | _ => none) ∧
    (∀ n u m, oAppend (.ref n) [u] m = match m[n]? with | some (.lst us) => if us.length < 16777216 then some (.non, m.set n (.lst (us ++ [u]))) else none | _ => none) ∧
    (∀ n m, srcA m (.ref n) = match m[n]? with | some (.lst us) => some (.dyn (us.length + 1) (nxL n)) | _ => none) ∧
    (∀ u v m, oEq u v m = match eqU m u v with | some b => some (.bl b, m) | none => none) ∧
    (∀ u v m, oNe u v m = match eqU m u v with | some b => some (.bl (!b), m) | none => none) := by
  have hc : ∀ (m : Mem) (n : Nat), itemsOf m (.ref n) = match m[n]? with | some (.lst us) => some us | _ => none := fun m n => rfl
  refine ⟨fun _ _ => rfl, fun n m => ?_, fun n m => ?_, fun _ _ => rfl, fun _ _ => rfl, fun us i m => ?_, fun us i m => ?_, fun n i m => ?_, fun n i m => ?_, fun n i v m => ?_, fun n m => ?_, fun _ _ _ => rfl, fun _ _ => rfl, fun u v m => ?_, fun u v m => ?_⟩
  · show (itemsOf m (.ref n)).map (fun us => (U.tup us, m)) = _
    rw [hc]
    cases m[n]? with
    | none => rfl
    | some c => cases c <;> rfl
  · show (itemsOf m (.ref n)).map (fun us => (U.ref m.length, m ++ [.lst us])) = _
    rw [hc]
    cases m[n]? with
    | none => rfl
    | some c => cases c <;> rfl
  · show (atI us i).map (fun x => (x, m)) = _
    cases atI us i <;> rfl
  · show (atI us i).map (fun x => (x, m)) = _
    cases atI us i <;> rfl
  · show (match itemsOf m (.ref n) with | some us => (atI us i).map fun x => (x, m) | none => none) = _
    rw [hc]
    cases m[n]? with
    | none => rfl
    | some c =>
      cases c with
      | lst us => show (atI us i).map (fun x => (x, m)) = (match atI us i with | some x => some (x, m) | none => none); cases atI us i <;> rfl
      | _ => rfl
  · show (match cellAt m n with | some us => (atI us i).map fun u => (u, m) | none => none) = _
    unfold cellAt
    cases m[n]? with
    | none => rfl
    | some c =>
      cases c with
      | lst us => show (atI us i).map (fun x => (x, m)) = (match atI us i with | some x => some (x, m) | none => none); cases atI us i <;> rfl
      | _ => rfl
  · show (match m[n]? with | some (.lst us) => (ixN us.length i).map fun j => ((), m.set n (.lst (us.set j v))) | _ => none) = _
    cases m[n]? with
    | none => rfl
    | some c =>
      cases c with
      | lst us => show (ixN us.length i).map (fun j => ((), m.set n (.lst (us.set j v)))) = (match ixN us.length i with | some j => some ((), m.set n (.lst (us.set j v))) | none => none); cases ixN us.length i <;> rfl
      | _ => rfl
  · show (match m[n]? with | some (.lst us) => (us[us.length - 1]?).map fun u => (u, m.set n (.lst us.dropLast)) | _ => none) = _
    cases m[n]? with
    | none => rfl
    | some c =>
      cases c with
      | lst us => show (us[us.length - 1]?).map (fun u => (u, m.set n (.lst us.dropLast))) = (match us[us.length - 1]? with | some u => some (u, m.set n (.lst us.dropLast)) | none => none); cases us[us.length - 1]? <;> rfl
      | _ => rfl
  · show (eqU m u v).map (fun b => (U.bl b, m)) = _
    cases eqU m u v <;> rfl
  · show (eqU m u v).map (fun b => (U.bl (!b), m)) = _
    cases eqU m u v <;> rfl
theorem evR2 :
    (∀ l k m, oAdd (.ref l) (.ref k) m = match m[l]?, m[k]? with | some (.lst xs), some (.lst ys) => if xs.length + ys.length ≤ 16777216 then some (.ref m.length, m ++ [.lst (xs ++ ys)]) else none | _, _ => none) ∧
    (∀ l k m, oMulG (.ref l) (.int k) m = match m[l]? with | some (.lst xs) => if -9223372036854775808 ≤ k ∧ k < 9223372036854775808 ∧ xs.length * k.toNat ≤ 16777216 then some (.ref m.length, m ++ [.lst (List.replicate k.toNat xs).flatten]) else none | _ => none) :=
  ⟨fun _ _ _ => rfl, fun _ _ _ => rfl⟩
theorem flat_rep {α : Type} (a : α) (n : Nat) : (List.replicate n [a]).flatten = List.replicate n a := by
  induction n with
  | zero => rfl
  | succ n ih => rw [List.replicate_succ, List.flatten_cons, ih, List.replicate_succ]; rfl
theorem zeros_int (n : Nat) (i : Int) : List.replicate n (U.int i) = (List.replicate n i).map U.int := by rw [List.map_replicate]
theorem app_int (a b : List Int) : a.map U.int ++ b.map U.int = (a ++ b).map U.int := by rw [List.map_append]
theorem one_int (i : Int) : [U.int i] = [i].map U.int := rfl
theorem dSlot_d (i : Nat) (ρ : Env) (m : Mem) : dSlot i ρ m = match ρ[i]? with | some (some u) => .ok u m | _ => .bad := rfl
/-! ### equality -/
theorem datRL_ints (res : Nat → Option PyData) : ∀ l : List Int, datRL res (l.map .int) = some (l.map .int)
  | [] => rfl
  | i :: r => by
    show (match datR res (.int i) with | none => none | some d => (datRL res (r.map .int)).map (d :: ·)) = _
    rw [datRL_ints res r]; rfl
theorem dat_tI (m : Mem) (l : List Int) : dat m (tI l) = some (.tuple (l.map .int)) := by
  show (datRL (resM m 6) (l.map .int)).map PyData.tuple = _
  rw [datRL_ints]; rfl
theorem canAll_ints : ∀ l : List Int, PyData.canLayAll0 (l.map .int) = true
  | [] => rfl
  | i :: r => by
    show (true && PyData.canLayAll0 (r.map .int)) = true
    rw [canAll_ints r]; rfl
theorem depth_ints : ∀ l : List Int, PyData.depthAll (l.map .int) = 0
  | [] => rfl
  | i :: r => by simp [PyData.depthAll, PyData.depth, depth_ints r]
theorem shaped_tI (l : List Int) : SeqAt.shaped (.tuple (l.map .int)) = true := by
  simp [SeqAt.shaped, PyData.canLay0, PyData.depth, canAll_ints, depth_ints]
theorem eqvAll_ints : ∀ a b : List Int, PyData.eqvAll (a.map .int) (b.map .int) = decide (a = b)
  | [], [] => rfl
  | [], _ :: _ => rfl
  | _ :: _, [] => rfl
  | x :: a, y :: b => by
    show (PyData.eqv (.int x) (.int y) && PyData.eqvAll (a.map .int) (b.map .int)) = _
    rw [eqvAll_ints a b]
    show ((x == y) && _) = _
    by_cases h : x = y
    · subst h; simp
    · simp [h]
theorem eqU_tI (m : Mem) (a b : List Int) : eqU m (tI a) (tI b) = some (decide (a = b)) := by
  unfold eqU
  simp only [dat_tI, shaped_tI, Bool.and_true, if_true]
  show some (PyData.eqvAll (a.map .int) (b.map .int)) = _
  rw [eqvAll_ints]
theorem eqU_nil (m : Mem) (l : List Int) : eqU m (tI l) (.tup []) = some (decide (l = [])) := eqU_tI m l []
theorem eqU_i (m : Mem) (a b : Int) : eqU m (.int a) (.int b) = some (decide (a = b)) := by
  show (if SeqAt.shaped (.int a) && SeqAt.shaped (.int b) then some (PyData.eqv (.int a) (.int b)) else none) = _
  rw [show SeqAt.shaped (.int a) = true from rfl, show SeqAt.shaped (.int b) = true from rfl]
  show some (a == b) = _
  by_cases h : a = b
  · subst h; simp
  · simp [h]
theorem oEq_e {u v : U} {b : Bool} {m : Mem} (h : eqU m u v = some b) : oEq u v m = some (.bl b, m) := by unfold oEq; rw [h]; rfl
theorem oNe_e {u v : U} {b : Bool} {m : Mem} (h : eqU m u v = some b) : oNe u v m = some (.bl (!b), m) := by unfold oNe; rw [h]; rfl
theorem dat_rI {m : Mem} {n : Nat} {l : List Int} (h : m[n]? = some (cI l)) : dat m (.ref n) = some (.list (l.map .int)) := by
  show resM m 6 n = _
  rw [resM]
  simp only [h]
  rw [datRL_ints]; rfl
theorem shaped_lI (l : List Int) : SeqAt.shaped (.list (l.map .int)) = true := by
  simp [SeqAt.shaped, PyData.canLay0, PyData.depth, canAll_ints, depth_ints]
theorem eqU_rr {m : Mem} {n k : Nat} {a b : List Int} (h : m[n]? = some (cI a)) (h2 : m[k]? = some (cI b)) : eqU m (.ref n) (.ref k) = some (decide (a = b)) := by
  unfold eqU
  simp only [dat_rI h, dat_rI h2, shaped_lI, Bool.and_true, if_true]
  show some (PyData.eqvAll (a.map .int) (b.map .int)) = _
  rw [eqvAll_ints]
theorem mem_mid (m g : Mem) (c : Cell) : (m ++ c :: g)[m.length]? = some c := by simp
theorem mem_setm (m g : Mem) (c d : Cell) : (m ++ c :: g).set m.length d = m ++ d :: g := by simp
/-! ### loops -/
/-- [e for x in us], the memory grows only -/
theorem compL_map {g : GD} {e : XD} {ρ : Env} {F : U → U} {P : Mem → Prop} (hP : ∀ m t, P m → P (m ++ t)) : ∀ (us : List U) (m : Mem), P m → (∀ u ∈ us, ∀ m, P m → ∃ ρ1 t, g u ρ m = some (ρ1, m) ∧ e ρ1 m = .ok (F u) (m ++ t)) → ∃ t, compL g tYesU e ρ us m = some (us.map F, m ++ t)
  | [], m, _, _ => ⟨[], by simp [compL]⟩
  | u :: us, m, hm, h => by
    obtain ⟨ρ1, t, e1, e2⟩ := h u (List.mem_cons_self ..) m hm
    obtain ⟨t2, e3⟩ := compL_map hP us (m ++ t) (hP _ _ hm) fun v hv => h v (List.mem_cons_of_mem _ hv)
    exact ⟨t ++ t2, by simp [compL, e1, tYesU, toO, e2, e3]⟩
/-- an invariant of a loop over written items, none of which leaves it -/
theorem forL_inv {g : GD} {b : SD} (I : List U → Env → Mem → Prop) (h : ∀ u us ρ m, I (u :: us) ρ m → ∃ ρ1 m1 ρ2 m2, g u ρ m = some (ρ1, m1) ∧ b ρ1 m1 = .ok .nx ρ2 m2 ∧ I us ρ2 m2) : ∀ us ρ m, I us ρ m → ∃ ρ' m', forL g b us ρ m = .ok .nx ρ' m' ∧ I [] ρ' m'
  | [], ρ, m, hi => ⟨ρ, m, rfl, hi⟩
  | u :: us, ρ, m, hi => by
    obtain ⟨ρ1, m1, ρ2, m2, e1, e2, h2⟩ := h u us ρ m hi
    obtain ⟨ρ', m', e3, h3⟩ := forL_inv I h us ρ2 m2 h2
    exact ⟨ρ', m', by simp only [forL, e1, thenO, e2, loopS, e3], h3⟩
theorem whileN_step {t : XT} {b : SD} {k : Nat} {ρ : Env} {m m1 : Mem} {c : Bool} (h : t ρ m = .ok c m1) : whileN t b (k + 1) ρ m = if c then loopS (b ρ m1) (whileN t b k) else .ok .nx ρ m1 := by
  show thenE (t ρ m) ρ _ = _
  rw [h]; rfl
/-- the same over ints, over a cell's list -/
theorem compL_ints {k : Nat} {e : XD} {ρ : Env} {f : Int → U} {P : Mem → Prop} (hP : ∀ m t, P m → P (m ++ t)) : ∀ (l : List Int) (m : Mem), P m → (∀ i ∈ l, ∀ m, P m → ∃ t, e (ρ.set k (some (.int i))) m = .ok (f i) (m ++ t)) → ∃ t, compL (gName k) tYesU e ρ (l.map .int) m = some (l.map f, m ++ t)
  | [], m, _, _ => ⟨[], by simp [compL]⟩
  | i :: us, m, hm, h => by
    obtain ⟨t, e2⟩ := h i (List.mem_cons_self ..) m hm
    obtain ⟨t2, e3⟩ := compL_ints hP us (m ++ t) (hP _ _ hm) fun v hv => h v (List.mem_cons_of_mem _ hv)
    exact ⟨t ++ t2, by simp [compL, gName, tYesU, toO, e2, e3]⟩
theorem compN_map {nx : Nat → Mem → Option (Option U)} {g : GD} {e : XD} {ρ : Env} {F : U → U} {P : Mem → Prop} {us : List U} (hP : ∀ m t, P m → P (m ++ t)) (hn : ∀ i m, P m → nx i m = some us[i]?) : ∀ (k i : Nat) (m : Mem), P m → us.length < i + (k + 1) → (∀ u ∈ us, ∀ m, P m → ∃ ρ1 t, g u ρ m = some (ρ1, m) ∧ e ρ1 m = .ok (F u) (m ++ t)) → ∃ t, compN nx g tYesU e ρ (k + 1) i m = some ((us.drop i).map F, m ++ t)
  | k, i, m, hm, hk, h => by
    by_cases hi : i < us.length
    · cases k with
      | zero => omega
      | succ k =>
      have hu : us[i]? = some us[i] := List.getElem?_eq_getElem hi
      obtain ⟨ρ1, t, e1, e2⟩ := h us[i] (List.getElem_mem hi) m hm
      obtain ⟨t2, e3⟩ := compN_map hP hn k (i + 1) (m ++ t) (hP _ _ hm) (by omega) h
      refine ⟨t ++ t2, ?_⟩
      rw [List.drop_eq_getElem_cons hi, List.map_cons]
      rw [compN]; simp [hn i m hm, hu, e1, tYesU, toO, e2, e3]
    · refine ⟨[], ?_⟩
      rw [List.drop_eq_nil_of_le (by omega)]
      simp [compN, hn i m hm, List.getElem?_eq_none (by omega : us.length ≤ i)]
/-- an invariant by the number of turns -/
theorem forIx {g : GD} {b : SD} {us : List U} (I : Nat → Env → Mem → Prop) (h : ∀ i u ρ m, us[i]? = some u → I i ρ m → ∃ ρ1 m1 ρ2 m2, g u ρ m = some (ρ1, m1) ∧ b ρ1 m1 = .ok .nx ρ2 m2 ∧ I (i + 1) ρ2 m2) (ρ : Env) (m : Mem) (h0 : I 0 ρ m) : ∃ ρ' m', forL g b us ρ m = .ok .nx ρ' m' ∧ I us.length ρ' m' := by
  obtain ⟨ρ', m', e, i, hi, hl, hI⟩ := forL_inv (g := g) (b := b) (fun rem ρ m => ∃ i, rem = us.drop i ∧ i ≤ us.length ∧ I i ρ m) (fun u rem ρ m ⟨i, hd, hl, hI⟩ => by
    have hlt : i < us.length := by
      refine Nat.lt_of_not_le fun z => ?_
      rw [List.drop_eq_nil_of_le z] at hd; cases hd
    have hu : us[i]? = some u := by
      rw [List.drop_eq_getElem_cons hlt] at hd
      injection hd with hd _
      rw [List.getElem?_eq_getElem hlt, hd]
    obtain ⟨ρ1, m1, ρ2, m2, e1, e2, h2⟩ := h i u ρ m hu hI
    refine ⟨ρ1, m1, ρ2, m2, e1, e2, i + 1, ?_, by omega, h2⟩
    rw [List.drop_eq_getElem_cons hlt] at hd
    injection hd with _ hd) us ρ m ⟨0, rfl, Nat.zero_le _, h0⟩
  have : i = us.length := by
    refine Nat.le_antisymm hl (Nat.le_of_not_lt fun z => ?_)
    rw [List.drop_eq_getElem_cons z] at hi; cases hi
  exact ⟨ρ', m', e, this ▸ hI⟩
theorem enum_at {l : List Int} {i : Nat} {u : U} (h : (enumU 0 (l.map .int))[i]? = some u) : ∃ hi : i < l.length, u = .tup [.int i, .int l[i]] := by
  rw [enumU_get, Nat.zero_add, List.getElem?_map] at h
  by_cases hi : i < l.length
  · rw [List.getElem?_eq_getElem hi] at h
    exact ⟨hi, (Option.some.inj h).symm⟩
  · rw [List.getElem?_eq_none (by omega)] at h; cases h
theorem enum_len : ∀ (us : List U) (k : Nat), (enumU k us).length = us.length
  | [], _ => rfl
  | u :: us, k => by simp [enumU, enum_len us (k + 1)]
theorem run_at {n i : Nat} {u : U} (h : (runI 0 n)[i]? = some u) : i < n ∧ u = .int i := by
  rw [runI_get] at h
  split at h
  · rename_i hi
    exact ⟨hi, by rw [← Option.some.inj h]; simp⟩
  · cases h
theorem ints_at {l : List Int} {i : Nat} {u : U} (h : (l.map U.int)[i]? = some u) : ∃ hi : i < l.length, u = .int l[i] := by
  rw [List.getElem?_map] at h
  by_cases hi : i < l.length
  · rw [List.getElem?_eq_getElem hi] at h
    exact ⟨hi, (Option.some.inj h).symm⟩
  · rw [List.getElem?_eq_none (by omega)] at h; cases h
theorem atI_ints {l : List Int} {i : Nat} (hi : i < l.length) : atI (l.map U.int) (i : Int) = some (.int l[i]) := atI_nat (by rw [List.getElem?_map, List.getElem?_eq_getElem hi]; rfl)
theorem ixN_ints {l : List Int} {i : Nat} (hi : i < l.length) : ixN l.length (i : Int) = some i := by
  rw [ixN_at (by omega) (by omega)]; simp
theorem set_ints (l : List Int) (i : Nat) (v : Int) : (l.map U.int).set i (.int v) = (l.set i v).map U.int := by rw [List.map_set]
/-- 0 to n - 1 -/
def upto (n : Nat) : List Int := (List.range n).map fun k : Nat => (k : Int)
theorem upto_len (n : Nat) : (upto n).length = n := by simp [upto]
theorem upto_at {n i : Nat} (h : i < (upto n).length) : (upto n)[i] = (i : Int) := by simp [upto]
theorem upto_mem {n : Nat} {i : Int} (h : i ∈ upto n) : ∃ k : Nat, k < n ∧ i = k := by
  obtain ⟨k, hk, rfl⟩ := List.mem_map.mp h
  exact ⟨k, List.mem_range.mp hk, rfl⟩
theorem runI_ints (n : Nat) : runI 0 n = (upto n).map U.int := by
  refine List.ext_getElem? fun i => ?_
  rw [runI_get, List.getElem?_map, upto, List.getElem?_map]
  by_cases h : i < n
  · rw [if_pos h, List.getElem?_range h]; simp
  · rw [if_neg h, List.getElem?_eq_none (by simp; omega)]; rfl
theorem atI_sum {l : List Int} {i j : Nat} (hi : i + j < l.length) : atI (l.map U.int) ((i : Int) + (j : Int)) = some (.int l[i + j]) := by
  have := atI_ints hi
  rwa [Int.natCast_add] at this
theorem ixN_sum {l : List Int} {i j : Nat} (hi : i + j < l.length) : ixN l.length ((i : Int) + (j : Int)) = some (i + j) := by
  have := ixN_ints hi
  rwa [Int.natCast_add] at this
/-- [e for x in us] with a state that goes on -/
theorem compL_gen {k : Nat} {e : XD} {ρ : Env} {I : Mem → Prop} {Q : U → Prop} : ∀ (us : List U) (m : Mem), I m → (∀ u ∈ us, ∀ m, I m → ∃ y m', e (ρ.set k (some u)) m = .ok y m' ∧ Q y ∧ I m') → ∃ ys m', compL (gName k) tYesU e ρ us m = some (ys, m') ∧ ys.length = us.length ∧ (∀ y ∈ ys, Q y) ∧ I m'
  | [], m, hm, _ => ⟨[], m, rfl, rfl, (fun _ h => by cases h), hm⟩
  | u :: us, m, hm, h => by
    obtain ⟨y, m1, e1, q, h1⟩ := h u (List.mem_cons_self ..) m hm
    obtain ⟨ys, m2, e2, hl, hq, h2⟩ := compL_gen us m1 h1 fun v hv => h v (List.mem_cons_of_mem _ hv)
    refine ⟨y :: ys, m2, by simp [compL, gName, tYesU, toO, e1, e2], by simp [hl], fun z hz => ?_, h2⟩
    rcases List.mem_cons.mp hz with e | hz
    · exact e ▸ q
    · exact hq z hz
/-- with a test -/
theorem compL_if {k : Nat} {t : XT} {e : XD} {ρ : Env} {T : Int → Bool} {f : Int → U} {P : Mem → Prop} (hP : ∀ m t, P m → P (m ++ t)) : ∀ (l : List Int) (m : Mem), P m → (∀ i ∈ l, ∀ m, P m → ∃ g, t (ρ.set k (some (.int i))) m = .ok (T i) (m ++ g)) → (∀ i ∈ l, ∀ m, P m → ∃ g, e (ρ.set k (some (.int i))) m = .ok (f i) (m ++ g)) → ∃ g, compL (gName k) t e ρ (l.map .int) m = some ((l.filter T).map f, m ++ g)
  | [], m, _, _, _ => ⟨[], by simp [compL]⟩
  | i :: us, m, hm, h, h' => by
    obtain ⟨g1, e1⟩ := h i (List.mem_cons_self ..) m hm
    cases hT : T i with
    | false =>
      obtain ⟨g2, e2⟩ := compL_if hP us (m ++ g1) (hP _ _ hm) (fun v hv => h v (List.mem_cons_of_mem _ hv)) fun v hv => h' v (List.mem_cons_of_mem _ hv)
      exact ⟨g1 ++ g2, by simp [compL, gName, toO, e1, e2, hT]⟩
    | true =>
      obtain ⟨g2, e2⟩ := h' i (List.mem_cons_self ..) (m ++ g1) (hP _ _ hm)
      obtain ⟨g3, e3⟩ := compL_if hP us (m ++ g1 ++ g2) (hP _ _ (hP _ _ hm)) (fun v hv => h v (List.mem_cons_of_mem _ hv)) fun v hv => h' v (List.mem_cons_of_mem _ hv)
      have e2' : e (ρ.set k (some (.int i))) (m ++ g1) = .ok (f i) (m ++ (g1 ++ g2)) := by rw [e2, List.append_assoc]
      have e3' : compL (gName k) t e ρ (us.map .int) (m ++ (g1 ++ g2)) = some ((us.filter T).map f, m ++ (g1 ++ (g2 ++ g3))) := by
        rw [← List.append_assoc, e3]; simp
      exact ⟨g1 ++ (g2 ++ g3), by simp [compL, gName, toO, e1, e2', e3', hT]⟩
/-- over a cell's list, by the number of the turn -/
theorem compN_ix {nx : Nat → Mem → Option (Option U)} {k0 : Nat} {e : XD} {ρ : Env} {F : Nat → U} {P : Mem → Prop} {us : List U} (hP : ∀ m t, P m → P (m ++ t)) (hn : ∀ i m, P m → nx i m = some us[i]?) (h : ∀ i u, us[i]? = some u → ∀ m, P m → ∃ t, e (ρ.set k0 (some u)) m = .ok (F i) (m ++ t)) : ∀ (k i : Nat) (m : Mem), P m → us.length < i + (k + 1) → i ≤ us.length → ∃ t, compN nx (gName k0) tYesU e ρ (k + 1) i m = some ((List.range' i (us.length - i)).map F, m ++ t)
  | k, i, m, hm, hk, hle => by
    by_cases hi : i < us.length
    · cases k with
      | zero => omega
      | succ k =>
      have hu : us[i]? = some us[i] := List.getElem?_eq_getElem hi
      obtain ⟨t, e2⟩ := h i us[i] hu m hm
      obtain ⟨t2, e3⟩ := compN_ix hP hn h k (i + 1) (m ++ t) (hP _ _ hm) (by omega) (by omega)
      refine ⟨t ++ t2, ?_⟩
      rw [show us.length - i = (us.length - (i + 1)) + 1 by omega, List.range'_succ, List.map_cons]
      rw [compN]; simp [gName, hn i m hm, hu, tYesU, toO, e2, e3]
    · refine ⟨[], ?_⟩
      rw [show us.length - i = 0 by omega]
      simp [compN, hn i m hm, List.getElem?_eq_none (by omega : us.length ≤ i)]
/-- nothing passes the test -/
theorem compN_none {nx : Nat → Mem → Option (Option U)} {k0 : Nat} {t : XT} {e : XD} {ρ : Env} {P : Mem → Prop} {us : List U} (hP : ∀ m t, P m → P (m ++ t)) (hn : ∀ i m, P m → nx i m = some us[i]?) (h : ∀ u ∈ us, ∀ m, P m → ∃ g, t (ρ.set k0 (some u)) m = .ok false (m ++ g)) : ∀ (k i : Nat) (m : Mem), P m → us.length < i + (k + 1) → ∃ g, compN nx (gName k0) t e ρ (k + 1) i m = some ([], m ++ g)
  | k, i, m, hm, hk => by
    by_cases hi : i < us.length
    · cases k with
      | zero => omega
      | succ k =>
      have hu : us[i]? = some us[i] := List.getElem?_eq_getElem hi
      obtain ⟨t, e2⟩ := h us[i] (List.getElem_mem hi) m hm
      obtain ⟨t2, e3⟩ := compN_none (e := e) hP hn h k (i + 1) (m ++ t) (hP _ _ hm) (by omega)
      refine ⟨t ++ t2, ?_⟩
      rw [compN]; simp [gName, hn i m hm, hu, toO, e2, e3]
    · refine ⟨[], ?_⟩
      simp [compN, hn i m hm, List.getElem?_eq_none (by omega : us.length ≤ i)]
/-- lists of tuples of ints -/
theorem datRL_tI (res : Nat → Option PyData) : ∀ A : List (List Int), datRL res (A.map tI) = some (A.map fun l => .tuple (l.map .int))
  | [] => rfl
  | l :: r => by
    show (match datR res (tI l) with | none => none | some d => (datRL res (r.map tI)).map (d :: ·)) = _
    rw [datRL_tI res r, show datR res (tI l) = some (.tuple (l.map .int)) from by show (datRL res (l.map .int)).map PyData.tuple = _; rw [datRL_ints]; rfl]
    rfl
theorem canAll_tI : ∀ A : List (List Int), PyData.canLayAll0 (A.map fun l => .tuple (l.map .int)) = true
  | [] => rfl
  | l :: r => by
    show (PyData.canLayAll0 (l.map .int) && PyData.canLayAll0 (r.map _)) = true
    rw [canAll_ints, canAll_tI r]; rfl
theorem depth_tI : ∀ A : List (List Int), PyData.depthAll (A.map fun l => .tuple (l.map .int)) ≤ 1
  | [] => by simp [PyData.depthAll]
  | l :: r => by
    have := depth_tI r
    simp only [List.map_cons, PyData.depthAll, PyData.depth, depth_ints]
    omega
theorem eqvAll_tI : ∀ a b : List (List Int), PyData.eqvAll (a.map fun l => .tuple (l.map .int)) (b.map fun l => .tuple (l.map .int)) = decide (a = b)
  | [], [] => rfl
  | [], _ :: _ => rfl
  | _ :: _, [] => rfl
  | x :: a, y :: b => by
    show (PyData.eqvAll (x.map .int) (y.map .int) && PyData.eqvAll (a.map _) (b.map _)) = _
    rw [eqvAll_tI a b, eqvAll_ints]
    by_cases h : x = y
    · subst h; simp
    · simp [h]
theorem eqU_rrT {m : Mem} {n k : Nat} {A B : List (List Int)} (h : m[n]? = some (.lst (A.map tI))) (h2 : m[k]? = some (.lst (B.map tI))) : eqU m (.ref n) (.ref k) = some (decide (A = B)) := by
  have hd : ∀ (n : Nat) (A : List (List Int)), m[n]? = some (.lst (A.map tI)) → dat m (.ref n) = some (.list (A.map fun l => .tuple (l.map .int))) := fun n A h => by
    show resM m 6 n = _
    rw [resM]
    simp only [h]
    rw [datRL_tI]; rfl
  have hs : ∀ A : List (List Int), SeqAt.shaped (.list (A.map fun l => .tuple (l.map .int))) = true := fun A => by
    have := depth_tI A
    simp [SeqAt.shaped, PyData.canLay0, PyData.depth, canAll_tI]
    omega
  unfold eqU
  simp only [hd n A h, hd k B h2, hs, Bool.and_true, if_true]
  show some (PyData.eqvAll _ _) = _
  rw [eqvAll_tI]
/-- a list of the same data on both sides -/
theorem eqU_same {m : Mem} {u v : U} {d : PyData} (h : dat m u = some d) (h2 : dat m v = some d) (hs : SeqAt.shaped d = true) (he : PyData.eqv d d = true) : eqU m u v = some true := by
  unfold eqU
  simp only [h, h2, hs, Bool.and_true, if_true, he]
theorem dat_rL {m : Mem} {n : Nat} {us : List U} {ds : List PyData} (h : m[n]? = some (.lst us)) (h2 : datRL (resM m 5) us = some ds) : dat m (.ref n) = some (.list ds) := by
  show resM m 6 n = _
  rw [resM]
  simp only [h, h2]; rfl
/-! ### draws -/
/-- the cell of the draws -/
def Well (c : Nat) (m : Mem) : Prop := ∃ a b d : Int, m[c]? = some (.lst [.int a, .int b, .int d])
structure Gr (c : Nat) (m m' : Mem) : Prop where
  len : m.length ≤ m'.length
  well : Well c m'
  old : ∀ n, n ≠ c → n < m.length → m'[n]? = m[n]?
theorem Gr.refl {c : Nat} {m : Mem} (h : Well c m) : Gr c m m := ⟨Nat.le_refl _, h, fun _ _ _ => rfl⟩
theorem Gr.trans {c : Nat} {m m' m'' : Mem} (h : Gr c m m') (h2 : Gr c m' m'') : Gr c m m'' := ⟨Nat.le_trans h.len h2.len, h2.well, fun n hn hl => (h2.old n hn (Nat.lt_of_lt_of_le hl h.len)).trans (h.old n hn hl)⟩
theorem Well.app {c : Nat} {m : Mem} (h : Well c m) (t : Mem) : Well c (m ++ t) := by
  obtain ⟨a, b, d, e⟩ := h
  exact ⟨a, b, d, mem_old e⟩
theorem Gr.app {c : Nat} {m m' : Mem} (h : Gr c m m') (t : Mem) : Gr c m (m' ++ t) := ⟨by have := h.len; simp; omega, h.well.app t, fun n hn hl => by
  rw [List.getElem?_append_left (Nat.lt_of_lt_of_le hl h.len)]; exact h.old n hn hl⟩
theorem Gr.get {c n : Nat} {m m' : Mem} {x : Cell} (h : Gr c m m') (hn : n ≠ c) (e : m[n]? = some x) : m'[n]? = some x := by
  rw [h.old n hn (List.getElem?_eq_some_iff.mp e).1, e]
theorem Gr.from {c : Nat} {m m' : Mem} (t : Mem) (h : Gr c (m ++ t) m') : Gr c m m' := ⟨by have := h.len; simp at this; omega, h.well, fun n hn hl => by
  rw [h.old n hn (by simp; omega), List.getElem?_append_left hl]⟩
theorem Gr.set {c : Nat} {m : Mem} (a b d : Int) (h : Well c m) : Gr c m (m.set c (.lst [.int a, .int b, .int d])) := by
  obtain ⟨_, _, _, e⟩ := h
  have hl := (List.getElem?_eq_some_iff.mp e).1
  refine ⟨by simp, ⟨a, b, d, by rw [List.getElem?_set_self hl]⟩, fun n hn _ => by rw [List.getElem?_set_ne (fun z => hn z.symm)]⟩
theorem at3_0 (x y z : U) : atI [x, y, z] 0 = some x := rfl
theorem at3_1 (x y z : U) : atI [x, y, z] 1 = some y := rfl
theorem at3_2 (x y z : U) : atI [x, y, z] 2 = some z := rfl
theorem ix3_0 : ixN 3 0 = some 0 := rfl
theorem ix3_2 : ixN 3 2 = some 2 := rfl
theorem evJ :
    (∀ f ρ m, dLenSet f ρ m = (f ρ m).bind fun u m1 => match u with | .tup us => (match nums us with | some ns => if ns.length ≤ 1000 then .ok (.int (dcount ns : Nat)) m1 else .bad | none => .bad) | _ => .bad) ∧
    (∀ f ρ m, dLstRg f ρ m = (f ρ m).bind fun u m1 => match u with | .int n => if -4611686018427387904 ≤ (0 : Int) ∧ (0 : Int) < 4611686018427387904 ∧ -4611686018427387904 ≤ n ∧ n < 4611686018427387904 ∧ (n - 0).toNat ≤ 16777216 then .ok (.ref m1.length) (m1 ++ [.lst (runI 0 (n - 0).toNat)]) else .bad | _ => .bad) := by
  refine ⟨fun f ρ m => ?_, fun f ρ m => ?_⟩
  · unfold dLenSet
    congr 1
  · unfold dLstRg
    congr 1; funext u m1
    cases u with
    | int n =>
      show ofO (if -4611686018427387904 ≤ (0 : Int) ∧ (0 : Int) < 4611686018427387904 ∧ -4611686018427387904 ≤ n ∧ n < 4611686018427387904 ∧ (n - 0).toNat ≤ 16777216 then some (U.ref m1.length, m1 ++ [.lst (runI 0 (n - 0).toNat)]) else none) = _
      split <;> rename_i h <;> simp only [h, if_true, if_false, ofO]
      · simp
    | _ => rfl
theorem nums_ints (l : List Int) : nums (l.map U.int) = some l := by
  induction l with
  | nil => rfl
  | cons a r ih => show (nums (r.map U.int)).map _ = _; rw [ih]; rfl
theorem bools_map {α : Type} (p : α → Bool) : ∀ l : List α, bools (l.map fun x => .bl (p x)) = some (l.map p)
  | [] => rfl
  | x :: l => by
    show (bools (l.map fun x => U.bl (p x))).map _ = _
    rw [bools_map p l]; rfl
/-- what is walked -/
theorem evI :
    (∀ f ρ m, iAny f ρ m = (f ρ m).bind fun u m1 => ofB (srcA m1 u) m1) ∧
    (∀ f ρ m, iRev f ρ m = (f ρ m).bind fun u m1 => ofB (srcR m1 u) m1) ∧
    (∀ f ρ m, iEnum f ρ m = (f ρ m).bind fun us m1 => match us with | [u] => ofB (srcE m1 u) m1 | _ => .bad) ∧
    (∀ f ρ m, iRange1 f ρ m = (f ρ m).bind fun us m1 => match us with | [.int j] => if -4611686018427387904 ≤ j ∧ j < 4611686018427387904 then .ok (.fix (runI 0 j.toNat)) m1 else .bad | _ => .bad) ∧
    (∀ f ρ m, iRevR1 f ρ m = (f ρ m).bind fun u m1 => match u with | .int j => if -4611686018427387904 ≤ j ∧ j < 4611686018427387904 then .ok (.fix (runI 0 (j - 0).toNat).reverse) m1 else .bad | _ => .bad) ∧
    (∀ n m, oAll [.ref n] m = match m[n]? with | some (.lst us) => (match bools us with | some bs => some (.bl (bs.all id), m) | none => none) | _ => none) ∧
    (∀ k nx g t e ρ m, compR g t e ρ (.dyn k nx) m = compN nx g t e ρ k 0 m) ∧
    (∀ k nx g b, forR g b (.dyn k nx) = forN nx g b k 0) := by
  refine ⟨fun _ _ _ => rfl, fun _ _ _ => rfl, fun _ _ _ => rfl, fun _ _ _ => rfl, fun _ _ _ => rfl, fun n m => ?_, fun _ _ _ _ _ _ _ => rfl, fun _ _ _ _ => rfl⟩
  show (match m[n]? with | some (.lst us) => (bools us).map fun bs : List Bool => (U.bl (bs.all id), m) | _ => none) = _
  cases m[n]? with
  | none => rfl
  | some c =>
    cases c with
    | lst us => show (bools us).map (fun bs : List Bool => (U.bl (bs.all id), m)) = (match bools us with | some bs => some (.bl (bs.all id), m) | none => none); cases bools us <;> rfl
    | _ => rfl
end Ev

set_option Elab.async false
set_option linter.all false
set_option maxRecDepth 100000
set_option maxHeartbeats 2000000
/-! Ev: dicts whose keys are ints and texts. -/
namespace Ev
open PySem PySem.Spec PyProof.Rows L2 RZ

/-! ### keys -/
def keyOf : U → Option Key
  | .int i => some (.inl i)
  | .str x => some (.inr x)
  | _ => none
def keyU : Key → U
  | .inl i => .int i
  | .inr x => .str x
abbrev KU := List (Key × U)
def valK (kvs : KU) (k : Key) : Option U := (kvs.find? fun kv => decide (kv.1 = k)).map (·.2)
def putU (kvs : KU) (k : Key) (v : U) : KU :=
  if (kvs.any fun kv => decide (kv.1 = k)) = true then kvs.map (fun kv => if kv.1 = k then (kv.1, v) else kv) else kvs ++ [(k, v)]
def dropU (kvs : KU) (k : Key) : KU := kvs.filter fun kv => decide (kv.1 ≠ k)
abbrev PU (K : PySem.W.Frag) (H : Hp) (μ : List Addr) : KU → List (Key × V) → Prop := Paired fun (p : Key × U) (q : Key × V) => p.1 = q.1 ∧ RU K H μ p.2 q.2
section
variable {K : PySem.W.Frag} {H H' : Hp} {μ μ' : List Addr} {m : Mem}
theorem keyOf_ok {u : U} {v : V} {k : Key} (r : RU K H μ u v) (h : keyOf u = some k) : v = kV k := by
  cases u with
  | int i => cases h; cases r; rfl
  | str x => cases h; cases r; rfl
  | _ => cases h
theorem keyU_ok (k : Key) : RU K H μ (keyU k) (kV k) := by
  cases k with
  | inl i => exact .int i
  | inr x => exact .str x
theorem keyOf_keyU (k : Key) : keyOf (keyU k) = some k := by cases k <;> rfl
theorem PU.length {kvs : KU} {vs : List (Key × V)} (p : PU K H μ kvs vs) : kvs.length = vs.length := Paired.length p
theorem PU.val {kvs : KU} {vs : List (Key × V)} (p : PU K H μ kvs vs) (k : Key) : (∀ u, valK kvs k = some u → ∃ v, valV vs k = some v ∧ RU K H μ u v) ∧ (valK kvs k = none → valV vs k = none) := by
  induction p with
  | nil => exact ⟨fun u h => (by cases h), fun _ => rfl⟩
  | @cons a b as bs h t ih =>
    by_cases e : a.1 = k
    · have e' : b.1 = k := h.1.symm.trans e
      refine ⟨fun u hu => ⟨b.2, valV_pos e', ?_⟩, fun hn => ?_⟩
      · have : a.2 = u := by simpa [valK, e] using hu
        rw [← this]; exact h.2
      · simp [valK, e] at hn
    · have e' : ¬ b.1 = k := fun z => e (h.1.trans z)
      have e2 : valK (a :: as) k = valK as k := by simp [valK, e]
      rw [e2, valV_neg e']; exact ih
theorem PU.any {kvs : KU} {vs : List (Key × V)} (p : PU K H μ kvs vs) (k : Key) : (kvs.any fun kv => decide (kv.1 = k)) = vs.any fun kv => decide (kv.1 = k) := by
  induction p with
  | nil => rfl
  | @cons a b as bs h t ih => rw [List.any_cons, List.any_cons, ih, h.1]
theorem paired_append {α β : Type} {F : α → β → Prop} : ∀ {l1 : List α} {l2 : List β} {m1 : List α} {m2 : List β}, Paired F l1 l2 → Paired F m1 m2 → Paired F (l1 ++ m1) (l2 ++ m2)
  | _, _, _, _, .nil, h => h
  | _, _, _, _, .cons r t, h => .cons r (paired_append t h)
theorem PU.map_if {kvs : KU} {vs : List (Key × V)} (p : PU K H μ kvs vs) (k : Key) {u : U} {v : V} (r : RU K H μ u v) : PU K H μ (kvs.map fun kv => if kv.1 = k then (kv.1, u) else kv) (vs.map fun kv => if kv.1 = k then (kv.1, v) else kv) := by
  induction p with
  | nil => exact .nil
  | @cons a b as bs h t ih =>
    refine .cons ?_ ih
    show (if a.1 = k then (a.1, u) else a).1 = (if b.1 = k then (b.1, v) else b).1 ∧ RU K H μ (if a.1 = k then (a.1, u) else a).2 (if b.1 = k then (b.1, v) else b).2
    by_cases e : a.1 = k
    · have e' : b.1 = k := h.1.symm.trans e
      rw [if_pos e, if_pos e']; exact ⟨h.1, r⟩
    · have e' : ¬ b.1 = k := fun z => e (h.1.trans z)
      rw [if_neg e, if_neg e']; exact h
theorem PU.put {kvs : KU} {vs : List (Key × V)} (p : PU K H μ kvs vs) (k : Key) {u : U} {v : V} (r : RU K H μ u v) : PU K H μ (putU kvs k u) (putK vs k v) := by
  unfold putU putK
  rw [p.any k]
  split
  · exact p.map_if k r
  · exact paired_append p (.cons ⟨rfl, r⟩ .nil)
theorem PU.drop {kvs : KU} {vs : List (Key × V)} (p : PU K H μ kvs vs) (k : Key) : PU K H μ (dropU kvs k) (dropK vs k) := by
  unfold dropU dropK
  induction p with
  | nil => exact .nil
  | @cons a b as bs h t ih =>
    by_cases e : a.1 = k
    · have e' : b.1 = k := h.1.symm.trans e
      simpa [e, e'] using ih
    · have e' : ¬ b.1 = k := fun z => e (h.1.trans z)
      rw [List.filter_cons_of_pos (by simpa using e), List.filter_cons_of_pos (by simpa using e')]
      exact .cons h ih
theorem PU.mo {kvs : KU} {vs : List (Key × V)} (p : PU K H μ kvs vs) (s : Mono K μ H μ' H') : PU K H' μ' kvs vs := Paired.mapP p fun _ _ z => ⟨z.1, z.2.mo s⟩
theorem PU.step {kvs : KU} {vs : List (Key × V)} (p : PU K H μ kvs vs) (s : Step K μ H μ' H') : PU K H' μ' kvs vs := p.mo s.mono
theorem PU.keys {kvs : KU} {vs : List (Key × V)} (p : PU K H μ kvs vs) : vs.map (·.1) = kvs.map (·.1) := by
  induction p with
  | nil => rfl
  | @cons a b as bs h t ih => rw [List.map_cons, List.map_cons, ih, h.1]
/-- a dict's pairs -/
def dcells (m : Mem) : U → Option KU
  | .ref n => match m[n]? with
    | some (.dK kvs) => some kvs
    | some (.dF kvs) => some kvs
    | _ => none
  | _ => none
theorem dc_ok (M : MOk K H μ m) {u : U} {v : V} {kvs : KU} (r : RU K H μ u v) (h : dcells m u = some kvs) : ∃ a vs, v = .ref a ∧ Rd H a (.dK vs) ∧ PU K H μ kvs vs := by
  cases u with
  | ref n =>
    cases r with
    | @ref _ a hn =>
      unfold dcells at h
      simp only at h
      split at h
      · rename_i e; cases h
        obtain ⟨vs, hq, t⟩ := M.cell _ _ _ hn e
        exact ⟨a, vs, rfl, .inl hq, t⟩
      · rename_i e; cases h
        obtain ⟨o, vs, hq, t⟩ := M.cell _ _ _ hn e
        exact ⟨a, vs, rfl, .inr ⟨o, hq⟩, t⟩
      · cases h
  | _ => cases h
/-- a dict that may be written -/
def dcell (m : Mem) : U → Option (Nat × KU)
  | .ref n => match m[n]? with
    | some (.dK kvs) => some (n, kvs)
    | _ => none
  | _ => none
theorem dw_ok (M : MOk K H μ m) {u : U} {v : V} {n : Nat} {kvs : KU} (r : RU K H μ u v) (h : dcell m u = some (n, kvs)) : ∃ a vs, v = .ref a ∧ μ[n]? = some a ∧ H a = some (.dK vs) ∧ PU K H μ kvs vs := by
  cases u with
  | ref k =>
    cases r with
    | @ref _ a hn =>
      unfold dcell at h
      simp only at h
      split at h
      · rename_i e; cases h
        obtain ⟨vs, hq, t⟩ := M.cell _ _ _ hn e
        exact ⟨a, vs, rfl, hn, hq, t⟩
      · cases h
  | _ => cases h
/-- the memory behind a dict's change -/
theorem PostO.setD {α : Type} {z : α} {n : Nat} {a : Addr} {vs vs' : List (Key × V)} {kvs' : KU} {P : List Addr → Hp → Mem → α → Prop} (p : PostO K μ H (some (z, m.set n (.dK kvs'))) P) (M : MOk K H μ m) (hn : μ[n]? = some a) (hq : H a = some (.dK vs))
    (t : PU K H μ kvs' vs') : Step K μ H μ (upd H a (.dK vs')) ∧ P μ (upd H a (.dK vs')) (m.set n (.dK kvs')) z := by
  have s : Step K μ H μ (upd H a (.dK vs')) := .set (List.mem_of_getElem? hn) hq rfl
  exact ⟨s, p μ _ s (M.set hn hq rfl ⟨vs', upd_same, t.step s⟩)⟩
/-- a new dict -/
theorem PostO.newD {kvs : KU} {vs : List (Key × V)} {Q : VK} (p : PostO K μ H (some (.ref m.length, m ++ [.dK kvs])) fun μ' H' _ z => ∀ v, RU K H' μ' z v → Q v H') (M : MOk K H μ m) (r : PU K H μ kvs vs) {a : Addr} (ha : H a = none) : Q (.ref a) (upd H a (.dK vs)) :=
  p (μ ++ [a]) _ (.newC ha) (M.newC ha ⟨vs, upd_same, r.step (.newC ha)⟩) _ (.ref (by rw [← M.len]; simp))
end
/-! ### reading -/
def oDGet : U → U → Mem → O U := fun u k m => match dcells m u, keyOf k with
  | some kvs, some key => (valK kvs key).map fun x => (x, m)
  | _, _ => none
def oDIn (neg : Bool) : U → U → Mem → O U := fun k u m => match dcells m u, keyOf k with
  | some kvs, some key => some (.bl (neg ^^ (valK kvs key).isSome), m)
  | _, _ => none
section
variable {X : Cx} {c : Nat → Addr} {W : WX} {fo fi ff fv : XD} {o i e f value : Expr} {pos pos' apos cpos : Pos}
theorem DGet.of {K : PySem.W.Frag} {H : Hp} {a : Addr} {vs : List (Key × V)} {k : Key} {r : Option V} (h : Rd H a (.dK vs)) (e : r = valV vs k) : DGet H a (kV k) r := .inl ⟨vs, k, h, rfl, e⟩
theorem se_dget (hu : X.A.units + 1 < cLine) (ho : SE X c W o fo) (hi : SE X c W i fi) (hs : NoSl i) : SE X c W (.Subscript o i pos) (dOp oDGet fo fi) :=
  (pe_dget hu ho hi hs).imp fun σ H Q ⟨ρ, m, μ, E, M, p⟩ => ⟨ρ, m, μ, E, M, p.bind.imp fun μ1 H1 m1 u s1 M1 p1 v r1 => ⟨ρ, m1, μ1, E.step s1, M1, p1.bind.imp fun μ2 H2 m2 u2 s2 M2 p2 v2 r2 => by
    have q := p2.o
    unfold oDGet at q
    split at q
    · rename_i kvs key h1 h2
      cases e : valK kvs key with
      | none => rw [e] at q; exact no_op q
      | some x =>
        rw [e] at q
        obtain ⟨a, vs, rfl, hr, t⟩ := dc_ok M2 (r1.step s2) h1
        obtain ⟨y, hy, ry⟩ := (t.val key).1 x e
        cases keyOf_ok r2 h2
        exact ⟨a, y, rfl, .inl ⟨vs, key, hr, rfl, hy.symm⟩, q.val M2 ry⟩
    · exact no_op q⟩⟩
theorem d_isSome {K : PySem.W.Frag} {H : Hp} {μ : List Addr} {kvs : KU} {vs : List (Key × V)} (t : PU K H μ kvs vs) (k : Key) : (valK kvs k).isSome = (valV vs k).isSome := by
  cases e : valK kvs k with
  | none => rw [(t.val k).2 e]; rfl
  | some u => obtain ⟨v, h, _⟩ := (t.val k).1 u e; rw [h]; rfl
theorem pc_dinU (hu : X.A.units + 1 < cLine) (hi : SE X c W i fi) (ho : SE X c W o fo) : PC X .In i o (rdE (wX X c) W (dOp (oDIn false) fi fo)) :=
  ⟨fun pins s σ H Q I ⟨ρ, m, μ, E, M, p⟩ => (pc_din hu hi ho).run pins s σ H Q I ⟨ρ, m, μ, E, M, p.bind.imp fun μ1 H1 m1 u s1 M1 p1 v r1 => ⟨ρ, m1, μ1, E.step s1, M1, p1.bind.imp fun μ2 H2 m2 u2 s2 M2 p2 v2 r2 => by
    have q := p2.o
    unfold oDIn at q
    split at q
    · rename_i kvs key h1 h2
      obtain ⟨a, vs, rfl, hr, t⟩ := dc_ok M2 r2 h1
      cases keyOf_ok (r1.step s2) h2
      refine ⟨a, valV vs key, rfl, .inl ⟨vs, key, hr, rfl, rfl⟩, ?_⟩
      rw [← d_isSome t key]
      have := q.val M2 (.bl _)
      simpa using this
    · exact no_op q⟩⟩⟩
theorem pc_dnotinU (hu : X.A.units + 1 < cLine) (hi : SE X c W i fi) (ho : SE X c W o fo) : PC X .NotIn i o (rdE (wX X c) W (dOp (oDIn true) fi fo)) :=
  ⟨fun pins s σ H Q I ⟨ρ, m, μ, E, M, p⟩ => (pc_dnotin hu hi ho).run pins s σ H Q I ⟨ρ, m, μ, E, M, p.bind.imp fun μ1 H1 m1 u s1 M1 p1 v r1 => ⟨ρ, m1, μ1, E.step s1, M1, p1.bind.imp fun μ2 H2 m2 u2 s2 M2 p2 v2 r2 => by
    have q := p2.o
    unfold oDIn at q
    split at q
    · rename_i kvs key h1 h2
      obtain ⟨a, vs, rfl, hr, t⟩ := dc_ok M2 r2 h1
      cases keyOf_ok (r1.step s2) h2
      refine ⟨a, valV vs key, rfl, .inl ⟨vs, key, hr, rfl, rfl⟩, ?_⟩
      rw [← d_isSome t key]
      have := q.val M2 (.bl _)
      simpa using this
    · exact no_op q⟩⟩⟩
theorem se_din (hu : X.A.units + 1 < cLine) (hi : SE X c W i fi) (ho : SE X c W o fo) (h1 : behindInMarks .In o = false) : SE X c W (.Compare i [.In] [o] pos) (dOp (oDIn false) fi fo) := pe_cmp (pc_dinU hu hi ho) h1
theorem se_dnotin (hu : X.A.units + 1 < cLine) (hi : SE X c W i fi) (ho : SE X c W o fo) (h1 : behindInMarks .NotIn o = false) : SE X c W (.Compare i [.NotIn] [o] pos) (dOp (oDIn true) fi fo) := pe_cmp (pc_dnotinU hu hi ho) h1
/-- as a test -/
theorem tb_of {fd : XD} {σ : L2.St} {H : Hp} {Q : Bool → Hp → Prop} (q : rdT (wX X c) W (tBl fd) σ H Q) : tB (rdE (wX X c) W fd) σ H Q := by
  obtain ⟨ρ, m, μ, E, M, p⟩ := q
  refine ⟨ρ, m, μ, E, M, p.bind.imp fun μ1 H1 m1 u s1 M1 p1 v r => ?_⟩
  cases u with
  | bl b => cases r; exact ⟨b, rfl, p1.ok_at M1⟩
  | _ => exact False.elim p1
theorem st_din (hu : X.A.units + 1 < cLine) (hi : SE X c W i fi) (ho : SE X c W o fo) (h1 : behindInMarks .In o = false) : ST X c W (.Compare i [.In] [o] pos) (tBl (dOp (oDIn false) fi fo)) := (pt_cmp (pc_dinU hu hi ho) h1).imp fun σ H Q q => tb_of q
theorem st_dnotin (hu : X.A.units + 1 < cLine) (hi : SE X c W i fi) (ho : SE X c W o fo) (h1 : behindInMarks .NotIn o = false) : ST X c W (.Compare i [.NotIn] [o] pos) (tBl (dOp (oDIn true) fi fo)) := (pt_cmp (pc_dnotinU hu hi ho) h1).imp fun σ H Q q => tb_of q
/-- d.get(k, x) -/
def dDGet2 (fo fi ff : XD) : XD := fun ρ m => (fo ρ m).bind fun u m1 => match dcells m1 u with
  | some _ => (fi ρ m1).bind fun k m2 => (ff ρ m2).bind fun z m3 => match dcells m3 u, keyOf k with
    | some kvs, some key => .ok ((valK kvs key).getD z) m3
    | _, _ => .bad
  | none => .bad
theorem getD_ok {K : PySem.W.Frag} {H : Hp} {μ : List Addr} {kvs : KU} {vs : List (Key × V)} (t : PU K H μ kvs vs) (k : Key) {z : U} {w : V} (r : RU K H μ z w) : RU K H μ ((valK kvs k).getD z) ((valV vs k).getD w) := by
  cases e : valK kvs k with
  | none => rw [(t.val k).2 e]; exact r
  | some u => obtain ⟨v, h, rr⟩ := (t.val k).1 u e; rw [h]; exact rr
theorem isD_u {K : PySem.W.Frag} {H : Hp} {μ : List Addr} {m : Mem} (M : MOk K H μ m) {u : U} {v : V} {kvs : KU} (r : RU K H μ u v) (h : dcells m u = some kvs) : ∃ a, v = .ref a ∧ IsD H a := by
  obtain ⟨a, vs, rfl, hr, _⟩ := dc_ok M r h
  exact ⟨a, rfl, .inl ⟨vs, hr⟩⟩
theorem se_dget2 (hu : X.A.units + 1 < cLine) (ho : SE X c W o fo) (he : SE X c W e fi) (hf : SE X c W f ff) (mm : M2 X o "get" apos e f cpos) : SE X c W (.Call (.Attribute o "get" apos) [e, f] [] cpos) (dDGet2 fo fi ff) :=
  (pe_dget2 hu ho he hf mm).imp fun σ H Q ⟨ρ, m, μ, E, M, p⟩ => ⟨ρ, m, μ, E, M, p.bind.imp fun μ1 H1 m1 u s1 M1 p1 v r1 => by
    cases h0 : dcells m1 u with
    | none => rw [h0] at p1; exact False.elim p1
    | some kvs0 =>
      rw [h0] at p1
      obtain ⟨a, rfl, hD⟩ := isD_u M1 r1 h0
      refine ⟨a, rfl, hD, ρ, m1, μ1, E.step s1, M1, p1.bind.imp fun μ2 H2 m2 k s2 M2 p2 y ry => ⟨ρ, m2, μ2, (E.step s1).step s2, M2, p2.bind.imp fun μ3 H3 m3 z s3 M3 p3 w rw => ?_⟩⟩
      split at p3
      · rename_i kvs key h1 h2
        obtain ⟨a', vs, e2, hr, t⟩ := dc_ok M3 ((r1.step s2).step s3) h1
        cases e2
        cases keyOf_ok ry h2
        exact ⟨valV vs key, .inl ⟨vs, key, hr, rfl, rfl⟩, p3.ok_at M3 _ (getD_ok t key rw)⟩
      · exact False.elim p3⟩
/-- d.get(k) -/
def dDGet1 (fo fi : XD) : XD := fun ρ m => (fo ρ m).bind fun u m1 => match dcells m1 u with
  | some _ => (fi ρ m1).bind fun k m2 => match dcells m2 u, keyOf k with
    | some kvs, some key => .ok ((valK kvs key).getD .non) m2
    | _, _ => .bad
  | none => .bad
theorem se_dget1 (hu : X.A.units + 1 < cLine) (ho : SE X c W o fo) (he : SE X c W e fi) (mm : M1 X o "get" apos e cpos) : SE X c W (.Call (.Attribute o "get" apos) [e] [] cpos) (dDGet1 fo fi) :=
  (pe_dget1 hu ho he mm).imp fun σ H Q ⟨ρ, m, μ, E, M, p⟩ => ⟨ρ, m, μ, E, M, p.bind.imp fun μ1 H1 m1 u s1 M1 p1 v r1 => by
    cases h0 : dcells m1 u with
    | none => rw [h0] at p1; exact False.elim p1
    | some kvs0 =>
      rw [h0] at p1
      obtain ⟨a, rfl, hD⟩ := isD_u M1 r1 h0
      refine ⟨a, rfl, hD, ρ, m1, μ1, E.step s1, M1, p1.bind.imp fun μ2 H2 m2 k s2 M2 p2 y ry => ?_⟩
      split at p2
      · rename_i kvs key h1 h2
        obtain ⟨a', vs, e2, hr, t⟩ := dc_ok M2 (r1.step s2) h1
        cases e2
        cases keyOf_ok ry h2
        exact ⟨valV vs key, .inl ⟨vs, key, hr, rfl, rfl⟩, p2.ok_at M2 _ (getD_ok t key .non)⟩
      · exact False.elim p2⟩
/-- d.pop(k) -/
def dDPop (fo fi : XD) : XD := fun ρ m => (fo ρ m).bind fun u m1 => match dcells m1 u with
  | some _ => (fi ρ m1).bind fun k m2 => match dcell m2 u, keyOf k with
    | some (n, kvs), some key => match valK kvs key with
      | some x => .ok x (m2.set n (.dK (dropU kvs key)))
      | none => .bad
    | _, _ => .bad
  | none => .bad
theorem se_dpop (ho : SE X c W o fo) (he : SE X c W e fi) (mm : M1 X o "pop" apos e cpos) : SE X c W (.Call (.Attribute o "pop" apos) [e] [] cpos) (dDPop fo fi) :=
  (pe_dpop1 ho he mm).imp fun σ H Q ⟨ρ, m, μ, E, M, p⟩ => ⟨ρ, m, μ, E, M, p.bind.imp fun μ1 H1 m1 u s1 M1 p1 v r1 => by
    cases h0 : dcells m1 u with
    | none => rw [h0] at p1; exact False.elim p1
    | some kvs0 =>
      rw [h0] at p1
      obtain ⟨a, rfl, hD⟩ := isD_u M1 r1 h0
      refine ⟨a, rfl, hD, ρ, m1, μ1, E.step s1, M1, p1.bind.imp fun μ2 H2 m2 k s2 M2 p2 y ry => ?_⟩
      split at p2
      · rename_i n kvs key h1 h2
        split at p2
        · rename_i x hx
          obtain ⟨a', vs, e2, hn, hr, t⟩ := dw_ok M2 (r1.step s2) h1
          cases e2
          cases keyOf_ok ry h2
          obtain ⟨z, hz, rz⟩ := (t.val key).1 x hx
          have s : Step X.K μ2 H2 μ2 (upd H2 a (.dK (dropK vs key))) := .set (List.mem_of_getElem? hn) hr rfl
          exact ⟨vs, key, z, hr, rfl, hz, p2 μ2 _ s (M2.set hn hr rfl ⟨_, upd_same, (t.drop key).step s⟩) _ (rz.step s)⟩
        · exact False.elim p2
      · exact False.elim p2⟩
/-- d[k] = v -/
def oSetD : U → U → U → Mem → O Unit := fun o i v m => match dcell m o, keyOf i with
  | some (n, kvs), some key => if kvs.length < sizeLine then some ((), m.set n (.dK (putU kvs key v))) else none
  | _, _ => none
theorem ss_dput (hu : X.A.units + 1 < cLine) (ho : SE X c W o fo) (hi : SE X c W i fi) (hv : SE X c W value fv) (hs : swapsWith value (some (.Subscript o i pos')) pos.line X.env = pure false) : SS X c W (.Assign [.Subscript o i pos'] value pos) (sAsg fv (gSub oSetD fo fi)) :=
  (ps_dput hu ho hi hv hs).imp fun D σ H ⟨ρ, m, μ, E, M, p⟩ => ⟨ρ, m, μ, E, M, (PostS.thenE E p).imp fun μ1 H1 m1 v s1 M1 p1 vv rv => by
    have p1 := PostS.thenO p1
    unfold gSub at p1
    cases q1 : toO (fo ρ m1) with
    | none => rw [q1] at p1; exact no_op p1
    | some z =>
      obtain ⟨x, m2⟩ := z
      rw [q1] at p1
      simp only at p1
      cases q2 : toO (fi ρ m2) with
      | none => rw [q2] at p1; exact no_op p1
      | some z =>
        obtain ⟨y, m3⟩ := z
        rw [q2] at p1
        simp only at p1
        refine ⟨ρ, m1, μ1, E.step s1, M1, toO_post (w := wX X c) q1 fun μ2 H2 s2 M2 v1 r1 => ⟨ρ, m2, μ2, (E.step s1).step s2, M2, toO_post (w := wX X c) q2 fun μ3 H3 s3 M3 v2 r2 => ?_⟩⟩
        unfold oSetD at p1
        split at p1
        · rename_i n kvs key h1 h2
          split at p1
          · rename_i hz
            obtain ⟨a, vs, rfl, hn, hq, t⟩ := dw_ok M3 (r1.step s3) h1
            cases keyOf_ok r2 h2
            have t' := t.put key ((rv.step s2).step s3)
            have s : Step X.K μ3 H3 μ3 (upd H3 a (.dK (putK vs key vv))) := .set (List.mem_of_getElem? hn) hq rfl
            have M4 := M3.set hn hq rfl (o := .dK (putK vs key vv)) (c := .dK (putU kvs key v)) ⟨_, upd_same, t'.step s⟩
            refine ⟨a, _, rfl, .inl ⟨vs, key, hq, rfl, by rw [← t.length]; exact hz, rfl⟩, ?_⟩
            exact (p1 μ3 _ ((s2.trans s3).trans s) M4).nx M4 (((E.step s1).step s2).step s3 |>.step s)
          · exact no_op p1
        · exact no_op p1⟩
/-! ### new dicts -/
def dDNew : XD := fun _ m => .ok (.ref m.length) (m ++ [.dK []])
theorem se_dnew : SE X c W (.Dict [] [] pos) dDNew := pe_dnewK.imp fun σ H Q ⟨ρ, m, μ, E, M, p⟩ a ha => PostO.newD p M .nil ha
/-- dict(d) -/
def oDictD : List U → Mem → O U
  | [u], m => match dcells m u with
    | some kvs => some (.ref m.length, m ++ [.dK kvs])
    | none => none
  | _, _ => none
theorem b_dictD : CallR X (.type "dict") (rdC X.K oDictD) := by
  intro pins s σ H xs us Q I rx h
  obtain ⟨vs, m, μ, r, M, p⟩ := h
  unfold oDictD at p
  split at p
  · obtain ⟨v, rfl, r1⟩ := r.one
    split at p
    · rename_i kvs e
      obtain ⟨a, ws, rfl, hr, t⟩ := dc_ok M r1 e
      exact call_dictD pins s σ H _ us Q I rx ⟨a, ws, rfl, hr, fun b hb => PostO.newD p M t hb⟩
    · exact no_op p
  · exact no_op p
/-- list(d) -/
def oListD : List U → Mem → O U
  | [u], m => match dcells m u with
    | some kvs => some (.ref m.length, m ++ [.lst (kvs.map fun kv => keyU kv.1)])
    | none => none
  | _, _ => none
theorem keys_ok {K : PySem.W.Frag} {H : Hp} {μ : List Addr} {kvs : KU} {vs : List (Key × V)} (p : PU K H μ kvs vs) : RUs K H μ (kvs.map fun kv => keyU kv.1) (vs.map fun kv => kV kv.1) := by
  induction p with
  | nil => exact .nil
  | @cons a b as bs h t ih =>
    refine .cons ?_ ih
    show RU K H μ (keyU a.1) (kV b.1)
    rw [h.1]; exact keyU_ok b.1
theorem b_listD (hc : X.calm = true) : CallR X (.type "list") (rdC X.K oListD) := by
  intro pins s σ H xs us Q I rx h
  obtain ⟨vs, m, μ, r, M, p⟩ := h
  unfold oListD at p
  split at p
  · obtain ⟨v, rfl, r1⟩ := r.one
    split at p
    · rename_i kvs e
      obtain ⟨a, ws, rfl, hr, t⟩ := dc_ok M r1 e
      exact call_listD hc pins s σ H _ us Q I rx ⟨a, ws, rfl, hr, fun b hb => p.lst M (keys_ok t) hb⟩
    · exact no_op p
  · exact no_op p
end
end Ev

set_option Elab.async false
set_option linter.all false
set_option maxRecDepth 100000
set_option maxHeartbeats 2000000
/-! Ev: dicts made of pairs, displays, sorted, == of dicts. -/
namespace Ev
open PySem PySem.Spec PyProof.Rows L2 RZ LiI

/-! ### list(d.items()), dict(pairs) -/
def pairU (kv : Key × U) : U := .tup [keyU kv.1, kv.2]
def dItems (f : XD) : XD := fun ρ m => (f ρ m).bind fun u m1 => match dcell m1 u with
  | some (_, kvs) => .ok (.ref m1.length) (m1 ++ [.lst (kvs.map pairU)])
  | none => .bad
section
variable {K : PySem.W.Frag} {H H' : Hp} {μ : List Addr} {m : Mem}
/-- further objects, and one new list -/
theorem MOk.ext (M : MOk K H μ m) (hk : ∀ b o, H b = some o → H' b = some o) {p : Addr} (hp : H p = none) {us : List U} {vs : List V} (hl : H' p = some (.lst vs)) (r : RUs K H' (μ ++ [p]) us vs) :
    Step K μ H (μ ++ [p]) H' ∧ MOk K H' (μ ++ [p]) (m ++ [.lst us]) := by
  have s : Step K μ H (μ ++ [p]) H' := ⟨⟨[p], rfl⟩, fun b o h _ _ => hk b o h, fun b o h n => ⟨fun z => by
      rcases List.mem_append.mp z with z | z
      · exact n z
      · exact ne_of_none h hp (by simpa using z), o, hk b o h⟩, fun a xs h => by
      rcases h with (h | ⟨u, h⟩) | h
      · exact .inl (.inl (hk _ _ h))
      · exact .inl (.inr ⟨u, hk _ _ h⟩)
      · exact .inr h, fun b o u h => hk _ _ h⟩
  refine ⟨s, by simp [M.len], ?_, fun n a d h1 h2 => ?_⟩
  · rw [List.nodup_append]
    exact ⟨M.nd, by simp, fun x hx y hy e => M.nin hp (by rw [← (by simpa using hy : y = p), ← e]; exact hx)⟩
  · by_cases hn : n < μ.length
    · rw [List.getElem?_append_left hn] at h1
      rw [List.getElem?_append_left (by rw [← M.len]; exact hn)] at h2
      refine (M.cell n a d h1 h2).mo s.mono ?_
      obtain ⟨o', e, _⟩ := M.is (List.mem_of_getElem? h1)
      rw [e, hk _ _ e]
    · rw [List.getElem?_append_right (Nat.le_of_not_lt hn)] at h1
      rw [List.getElem?_append_right (by rw [← M.len]; exact Nat.le_of_not_lt hn)] at h2
      have h1' : a = p ∧ n - μ.length = 0 := by
        cases e : n - μ.length with
        | zero => rw [e] at h1; simp at h1; exact ⟨h1.symm, rfl⟩
        | succ k => rw [e] at h1; simp at h1
      rw [M.len] at h1'
      rw [h1'.2] at h2
      simp at h2
      subst h2
      rw [h1'.1]
      exact ⟨vs, hl, r⟩
theorem pairs_ok {ts : List Addr} {vs : List (Key × V)} (h : Paired (fun (t : Addr) (q : Key × V) => H' t = some (.tup [kV q.1, q.2])) ts vs) : ∀ {kvs : KU}, PU K H' μ kvs vs → RUs K H' μ (kvs.map pairU) (ts.map V.ref) := by
  induction h with
  | nil => intro kvs p; cases p; exact .nil
  | @cons t q ts vs e h ih =>
    intro kvs p
    cases p with
    | @cons a _ as _ h1 h2 =>
      refine .cons (.tup (SqT.of e) (.cons ?_ (.cons h1.2 .nil))) (ih h2)
      rw [← h1.1]; exact keyU_ok a.1
end
section
variable {X : Cx} {c : Nat → Addr} {W : WX} {f : XD}
theorem se_items {st : Expr} (h : PE X st (tListItems (rdE (wX X c) W f))) : SE X c W st (dItems f) :=
  h.imp fun σ H Q ⟨ρ, m, μ, E, M, p⟩ => ⟨ρ, m, μ, E, M, p.bind.imp fun μ1 H1 m1 u s1 M1 p1 v r => by
    split at p1
    · rename_i n kvs e
      obtain ⟨a, vs, rfl, hn, hq, t⟩ := dw_ok M1 r e
      refine ⟨a, vs, rfl, hq, fun H' b ts hk hb hts hbt hl hp => ?_⟩
      have mo : Mono X.K μ1 H1 (μ1 ++ [b]) H' := ⟨⟨[b], rfl⟩, fun a xs h => by
        rcases h with (h | ⟨u, h⟩) | h
        · exact .inl (.inl (hk _ _ h))
        · exact .inl (.inr ⟨u, hk _ _ h⟩)
        · exact .inr h, fun _ _ _ h => hk _ _ h⟩
      obtain ⟨s, M2⟩ := M1.ext hk hb hl (pairs_ok hp (t.mo mo))
      exact p1 _ _ s M2 _ (.ref (by rw [← M1.len]; simp))
    · exact False.elim p1⟩
/-- the pairs of a list -/
def pairsOfU : List U → Option KU
  | [] => some []
  | .tup [k, v] :: r => match keyOf k, pairsOfU r with
    | some key, some kvs => some ((key, v) :: kvs)
    | _, _ => none
  | _ :: _ => none
def mergeU (kvs more : KU) : KU := more.foldl (fun acc kv => putU acc kv.1 kv.2) kvs
def oDictP : List U → Mem → O U
  | [.ref n], m => match m[n]? with
    | some (.lst us) => match pairsOfU us with
      | some kvs => some (.ref m.length, m ++ [.dK (mergeU [] kvs)])
      | none => none
    | _ => none
  | _, _ => none
theorem merge_ok {K : PySem.W.Frag} {H : Hp} {μ : List Addr} {more : KU} {more' : List (Key × V)} (h : PU K H μ more more') : ∀ {kvs : KU} {vs : List (Key × V)}, PU K H μ kvs vs → PU K H μ (mergeU kvs more) (mergeK vs more') := by
  induction h with
  | nil => intro kvs vs p; exact p
  | @cons a b as bs h t ih =>
    intro kvs vs p
    have := ih (p.put a.1 h.2)
    rw [h.1] at this
    exact (show PU K H μ (mergeU (putU kvs a.1 a.2) as) (mergeK (putK vs b.1 b.2) bs) from by rw [h.1]; exact this)
theorem pairsOfU_ok {K : PySem.W.Frag} {H : Hp} {μ : List Addr} : ∀ {us : List U} {vs : List V} {kvs : KU}, RUs K H μ us vs → pairsOfU us = some kvs → ∃ (ps : List Addr) (kws : List (Key × V)), vs = ps.map V.ref ∧ Paired (fun p kv => SqT K H p [kV kv.1, kv.2]) ps kws ∧ PU K H μ kvs kws
  | [], vs, kvs, r, h => by cases r; cases h; exact ⟨[], [], rfl, .nil, .nil⟩
  | u :: us, vs, kvs, r, h => by
    unfold pairsOfU at h
    split at h
    · rename_i e; cases e
    · rename_i k v r' e
      injection e with e1 e2
      subst e1; subst e2
      split at h
      · rename_i key kvs' h1 h2
        cases h
        cases r with
        | cons r1 r2 =>
          cases r1 with
          | @tup a xs _ hq t =>
            cases t with
            | cons ra t =>
              cases t with
              | cons rb t =>
                cases t
                obtain ⟨ps, kws, rfl, hp, t2⟩ := pairsOfU_ok r2 h2
                cases keyOf_ok ra h1
                exact ⟨a :: ps, (key, _) :: kws, rfl, .cons hq hp, .cons ⟨rfl, rb⟩ t2⟩
      · cases h
    · cases h
theorem b_dictP (hc : X.calm = true) : CallR X (.type "dict") (rdC X.K oDictP) := by
  intro pins s σ H xs us Q I rx h
  obtain ⟨vs, m, μ, r, M, p⟩ := h
  unfold oDictP at p
  split at p
  · obtain ⟨v, rfl, r1⟩ := r.one
    split at p
    · rename_i us1 e
      split at p
      · rename_i kvs e2
        obtain ⟨a, ws, rfl, hn, hq, t⟩ := r1.cl M e
        obtain ⟨ps, kws, rfl, hp, t2⟩ := pairsOfU_ok t e2
        exact call_dictP hc pins s σ H _ us Q I rx ⟨a, ps, kws, rfl, SqL.of hq, hp, fun b hb => PostO.newD p M (merge_ok t2 .nil) hb⟩
      · exact no_op p
    · exact no_op p
  · exact no_op p
/-! ### {k: v, ..} -/
def evalPs : List (XD × XD) → Env → Mem → R (List (U × U))
  | [], _, m => .ok [] m
  | (fk, fv) :: r, ρ, m => (fk ρ m).bind fun k m1 => (fv ρ m1).bind fun v m2 => (evalPs r ρ m2).bind fun ps m3 => .ok ((k, v) :: ps) m3
def keysOf : List (U × U) → Option KU
  | [] => some []
  | (k, v) :: r => match keyOf k, keysOf r with
    | some key, some kvs => some ((key, v) :: kvs)
    | _, _ => none
def dDisp (l : List (XD × XD)) : XD := fun ρ m => (evalPs l ρ m).bind fun ps m1 => match keysOf ps with
  | some kvs => if kvs.length ≤ 15 then .ok (.ref m1.length) (m1 ++ [.dK (mergeU [] kvs)]) else .bad
  | none => .bad
abbrev RPs (K : PySem.W.Frag) (H : Hp) (μ : List Addr) : List (U × U) → List (V × V) → Prop := Paired fun p q => RU K H μ p.1 q.1 ∧ RU K H μ p.2 q.2
theorem pairs_eval : ∀ (l : List (XD × XD)) {ρ : Env} {m : Mem} {μ : List Addr} {σ : L2.St} {H : Hp} {Q : List (V × V) → Hp → Prop}, EOk X.K H μ ρ σ → MOk X.K H μ m →
    Post (wX X c) W σ μ H (evalPs l ρ m) (fun μ' H' _ ps => ∀ vs, RPs X.K H' μ' ps vs → Q vs H') → tPairs (l.map fun x => (rdE (wX X c) W x.1, rdE (wX X c) W x.2)) σ H Q
  | [], ρ, m, μ, σ, H, Q, E, M, p => p.ok_at M _ .nil
  | (fk, fv) :: r, ρ, m, μ, σ, H, Q, E, M, p => ⟨ρ, m, μ, E, M, p.bind.imp fun μ1 H1 m1 k s1 M1 p1 x rx => ⟨ρ, m1, μ1, E.step s1, M1, p1.bind.imp fun μ2 H2 m2 v s2 M2 p2 y ry =>
      pairs_eval r ((E.step s1).step s2) M2 (p2.bind.imp fun μ3 H3 m3 ps s3 M3 p3 vs rs => p3.ok_at M3 _ (.cons ⟨(rx.step s2).step s3, ry.step s3⟩ rs))⟩⟩
theorem keysOf_ok {K : PySem.W.Frag} {H : Hp} {μ : List Addr} : ∀ {ps : List (U × U)} {vs : List (V × V)} {kvs : KU}, RPs K H μ ps vs → keysOf ps = some kvs → ∃ kws : List (Key × V), vs = kws.map (fun kv => (kV kv.1, kv.2)) ∧ PU K H μ kvs kws
  | [], vs, kvs, r, h => by cases r; cases h; exact ⟨[], rfl, .nil⟩
  | (k, v) :: ps, vs, kvs, r, h => by
    rw [keysOf] at h
    split at h
    · rename_i key kvs' h1 h2
      cases h
      cases r with
      | @cons _ q _ qs r1 r2 =>
        obtain ⟨kws, rfl, t⟩ := keysOf_ok r2 h2
        obtain ⟨x, y⟩ := q
        cases keyOf_ok r1.1 h1
        exact ⟨(key, y) :: kws, rfl, .cons ⟨rfl, r1.2⟩ t⟩
    · cases h
/-- an object that is not tracked in the memory, laid by -/
theorem MOk.beside {K : PySem.W.Frag} {H : Hp} {μ : List Addr} {m : Mem} (M : MOk K H μ m) {D : Addr} {vs : List (Key × V)} {kvs : KU} (nD : D ∉ μ) (hL : H D = some (.dK vs)) (r : PU K H μ kvs vs) : MOk K H (μ ++ [D]) (m ++ [.dK kvs]) := by
  have mo : Mono K μ H (μ ++ [D]) H := ⟨⟨[D], rfl⟩, fun _ _ h => h, fun _ _ _ h => h⟩
  refine ⟨by simp [M.len], ?_, fun k a d h1 h2 => ?_⟩
  · rw [List.nodup_append]
    exact ⟨M.nd, by simp, fun x hx y hy e => nD (by rw [← (by simpa using hy : y = D), ← e]; exact hx)⟩
  · by_cases hn : k < μ.length
    · rw [List.getElem?_append_left hn] at h1
      rw [List.getElem?_append_left (by rw [← M.len]; exact hn)] at h2
      exact (M.cell k a d h1 h2).mo mo rfl
    · rw [List.getElem?_append_right (Nat.le_of_not_lt hn)] at h1
      rw [List.getElem?_append_right (by rw [← M.len]; exact Nat.le_of_not_lt hn)] at h2
      have h1' : a = D ∧ k - μ.length = 0 := by
        cases e : k - μ.length with
        | zero => rw [e] at h1; simp at h1; exact ⟨h1.symm, rfl⟩
        | succ k => rw [e] at h1; simp at h1
      rw [M.len] at h1'
      rw [h1'.2] at h2
      simp at h2
      subst h2
      rw [h1'.1]
      exact ⟨vs, hL, r.mo mo⟩
/-- with it in the memory -/
theorem Step.beside {K : PySem.W.Frag} {H0 H : Hp} {μ0 μ : List Addr} (s : Step K μ0 H0 μ H) {D : Addr} (hD : H0 D = none) : Step K μ0 H0 (μ ++ [D]) H := by
  refine ⟨?_, s.keep, fun b o h n => ?_, s.kt, s.fz⟩
  · obtain ⟨tt, e2⟩ := s.ext
    exact ⟨tt ++ [D], by rw [e2, List.append_assoc]⟩
  · obtain ⟨h1, h2⟩ := s.stay b o h n
    exact ⟨fun z => by
      rcases List.mem_append.mp z with z | z
      · exact h1 z
      · exact ne_of_none h hD (by simpa using z), h2⟩
theorem Step.growD {K : PySem.W.Frag} {H1 H : Hp} {μ1 μ : List Addr} {D : Addr} {xs ys : List (Key × V)} (s : Step K μ1 H1 μ H) (hD : H1 D = none) (hL : H D = some (.dK xs)) : Step K μ1 H1 μ (upd H D (.dK ys)) := by
  have ne : ∀ b o, H1 b = some o → b ≠ D := fun b o h => ne_of_none h hD
  refine ⟨s.ext, fun b o h n hp => by rw [upd_ne (ne b o h)]; exact s.keep b o h n hp, fun b o h n => ?_, fun a vs h => kt_set hL rfl a vs (s.kt a vs h), fun b o u h => by rw [upd_ne (ne b _ h)]; exact s.fz b o u h⟩
  obtain ⟨h1, o', h2⟩ := s.stay b o h n
  exact ⟨h1, o', by rw [upd_ne (ne b o h)]; exact h2⟩
theorem Mono.growD {K : PySem.W.Frag} {H : Hp} {μ : List Addr} {D : Addr} {xs ys : List (Key × V)} (hL : H D = some (.dK xs)) : Mono K μ H μ (upd H D (.dK ys)) := ⟨⟨[], by simp⟩, kt_set hL rfl, fun b o u h => by
  rw [upd_ne fun z => by subst z; rw [hL] at h; cases h]; exact h⟩
theorem se_disp {st : Expr} {l : List (XD × XD)} (h : PE X st (tDisp (l.map fun x => (rdE (wX X c) W x.1, rdE (wX X c) W x.2)))) : SE X c W st (dDisp l) :=
  h.imp fun σ H Q ⟨ρ, m, μ, E, M, p⟩ D hD => by
    have s0 : Step X.K μ H μ (upd H D (.dK [])) := .newT hD
    refine pairs_eval l (E.step s0) (M.newT hD) ?_
    unfold dDisp at p
    cases q : evalPs l ρ m with
    | bad => rw [q] at p; exact p
    | err x m1 => rw [q] at p; exact Post.from (r := (R.err x m1 : R (List (U × U)))) (P := fun _ _ _ _ => True) p s0
    | ok ps m1 =>
      rw [q] at p
      intro μ1 H1 s1 M1 vs rs
      have nD : D ∉ μ := M.nin hD
      have hL : H1 D = some (.dK []) := s1.keep D _ upd_same nD (fun ps z => by cases z)
      have nD1 := (s1.stay D _ upd_same nD).1
      have p1 : Post (wX X c) W σ μ H (match keysOf ps with | some kvs => if kvs.length ≤ 15 then R.ok (U.ref m1.length) (m1 ++ [.dK (mergeU [] kvs)]) else .bad | none => .bad) _ := p
      split at p1
      · rename_i kvs e
        split at p1
        · rename_i hz
          obtain ⟨kws, rfl, t⟩ := keysOf_ok rs e
          refine ⟨hL, kws, rfl, by rw [← t.length]; exact hz, ?_⟩
          have t' := merge_ok t (kvs := []) (vs := []) .nil
          have mo : Mono X.K μ1 H1 μ1 (upd H1 D (.dK (mergeK [] kws))) := Mono.growD hL
          have M2 : MOk X.K (upd H1 D (.dK (mergeK [] kws))) μ1 m1 := M1.mo mo fun a ha => by rw [upd_ne fun z : a = D => nD1 (by rw [← z]; exact ha)]
          have M3 := M2.beside nD1 upd_same (t'.mo mo)
          exact p1 _ _ (((s0.trans s1).growD hD hL).beside hD) M3 _ (.ref (by rw [← M1.len]; simp))
        · exact False.elim p1
      · exact False.elim p1
end
end Ev

set_option Elab.async false
set_option linter.all false
set_option maxRecDepth 100000
set_option maxHeartbeats 2000000
/-! Ev: sorted, == of dicts. -/
namespace Ev
open PySem PySem.Spec PyProof.Rows L2 RZ LiI

/-! ### sorted texts -/
def leS (x y : Str) : Bool := decide (x.cps.toList ≤ y.cps.toList)
def sortS (xs : List Str) : List Str := xs.mergeSort leS
theorem leS_trans : ∀ a b c : Str, leS a b = true → leS b c = true → leS a c = true := fun a b c h1 h2 => by
  simp only [leS, decide_eq_true_eq] at h1 h2 ⊢
  exact List.le_trans h1 h2
theorem leS_total : ∀ a b : Str, (leS a b || leS b a) = true := fun a b => by
  simp only [leS, Bool.or_eq_true, decide_eq_true_eq]
  exact List.le_total _ _
theorem leS_anti : ∀ a b : Str, leS a b = true → leS b a = true → a = b := fun a b h1 h2 => by
  simp only [leS, decide_eq_true_eq] at h1 h2
  have e := List.le_antisymm h1 h2
  obtain ⟨x⟩ := a
  obtain ⟨y⟩ := b
  exact congrArg Str.mk (Array.toList_inj.mp e)
theorem sortS_perm (xs : List Str) : (sortS xs).Perm xs := List.mergeSort_perm xs leS
theorem sortS_pair (xs : List Str) : (sortS xs).Pairwise (fun a b => leS a b = true) := List.pairwise_mergeSort leS_trans leS_total xs
theorem sortS_uniq {xs ys : List Str} (hp : ys.Perm xs) (hs : ys.Pairwise fun a b => leS a b = true) : ys = sortS xs :=
  List.Perm.eq_of_pairwise (fun a b _ _ h1 h2 => leS_anti a b h1 h2) hs (sortS_pair xs) (hp.trans (sortS_perm xs).symm)
theorem sortS_congr {xs ys : List Str} (hp : xs.Perm ys) : sortS xs = sortS ys := sortS_uniq ((sortS_perm xs).trans hp) (sortS_pair xs)
theorem rising_pair : ∀ (r : List Str) (p : Str), risingS p r = true → (∀ x ∈ r, leS p x = true) ∧ r.Pairwise (fun a b => leS a b = true)
  | [], _, _ => ⟨by simp, .nil⟩
  | x :: r, p, h => by
    rw [risingS, Bool.and_eq_true, ltCps_eq] at h
    obtain ⟨h1, h2⟩ := rising_pair r x h.2
    have hpx : leS p x = true := by
      have h3 : ¬ (x.cps.toList < p.cps.toList) := by simpa using h.1
      exact decide_eq_true (List.not_lt.mp h3)
    refine ⟨fun y hy => ?_, .cons h1 h2⟩
    rcases List.mem_cons.mp hy with e | hy
    · rw [e]; exact hpx
    · exact leS_trans _ _ _ hpx (h1 y hy)
theorem sortedS_pair {ys : List Str} (h : sortedS ys = true) : ys.Pairwise fun a b => leS a b = true := by
  cases ys with
  | nil => exact .nil
  | cons x r =>
    obtain ⟨h1, h2⟩ := rising_pair r x h
    exact .cons h1 h2
theorem sortS_of {xs ys : List Str} (hp : ys.Perm xs) (hs : sortedS ys = true) : ys = sortS xs := sortS_uniq hp (sortedS_pair hs)
/-- texts alone -/
def keysS : KU → Option (List Str)
  | [] => some []
  | (.inr x, _) :: r => (keysS r).map (x :: ·)
  | _ :: _ => none
theorem keysS_ok : ∀ {kvs : KU} {ks : List Str}, keysS kvs = some ks → kvs.map (·.1) = ks.map Sum.inr
  | [], ks, h => by cases h; rfl
  | (.inr x, u) :: r, ks, h => by
    rw [keysS] at h
    cases e : keysS r with
    | none => rw [e] at h; cases h
    | some ks' => rw [e] at h; cases h; rw [List.map_cons, List.map_cons, keysS_ok e]
  | (.inl i, u) :: r, ks, h => by cases h
section
variable {X : Cx}
/-- sorted(t) of a tuple of texts -/
theorem call_sortedTS : CallR X (.builtin "sorted") (fun xs H Q => ∃ (a : Addr) (ks : List Str), xs = [.ref a] ∧ SqT X.K H a (ks.map V.str) ∧ ks.length < 64 ∧
    ∀ ys p, ys.Perm ks → sortedS ys = true → H p = none → Q (.ref p) (upd H p (.lst (ys.map V.str)))) := by
  intro pins s σ H xs us Q I r q
  obtain ⟨a, ks, ex, hd, h64, q⟩ := q
  subst ex
  obtain ⟨u, eu, rx⟩ := vals1 r
  subst eu
  cases rx
  obtain ⟨its, rv, ⟨o, ho, hcl, n, hdat⟩, hz⟩ := I.tuple hd
  have hS := rv.strs
  have hal : its.toArray.toList.length = ks.length := by
    have z := rv.length
    rw [List.length_map] at z
    simpa using z.symm
  have hS' : StrsAre its.toArray.toList ks := by simpa using hS
  refine Calls.call_function_entry PyProof.Rows.kind_sorted PyProof.Rows.plain_sorted PyProof.Rows.entry_sorted (PyProof.Rows.args_sorted1 _) ?_
  unfold Builtin.«sorted»
  refine wpAny_bind (m := checkCount "sorted" 1 1 _) (wpAny_pure ?_)
  refine wpAny_bind (wpAny_collect_seq a (T := "tuple") (.inr rfl) ho hcl hdat (fun h' hk => ?_) (by rw [List.size_toArray, ← rv.length]; exact hz))
  have I1 : Inv X pins σ H { s with heap := h' } := I.kept (t' := s.toks) hk
  refine wpAny_bind (wpAny_newList ?_ (by rw [hal, sizeLine_eq]; omega))
  have hoL : (h'.push (seqObj "list" its.toArray.toList.toArray 0)).get? h'.objs.size = some (seqObj "list" its.toArray.toList.toArray 0) := Heap.get?_push_size _ rfl
  show wpAny _ _ _ _ _ { s with heap := h'.push (seqObj "list" its.toArray.toList.toArray 0) }
  refine wpAny_bind (wpAny_holding (wpAny_call_entry PyProof.Rows.slot_list_sort ⟨_, hoL, rfl⟩ PyProof.Rows.entry_list_sort
    (list_sort_treeK strKind_oneLt (s := { s with heap := h'.push (seqObj "list" its.toArray.toList.toArray 0) }) hoL hS'.keysOf (fun v₁ v₂ rest e => keyKind_strs (by rw [← e]; exact hS')) (by rw [hal]; exact h64) fun st' hp hs => ⟨_, rfl, ?_⟩)
    (PyProof.Rows.args_list_sort _)))
  obtain ⟨ys, g1, g2, g3⟩ := sorted_out_str hS' hp hs
  obtain ⟨e', he'⟩ := PyProof.Rows.sortedHeap_at (vs := its.toArray.toList) (out := (arrOf st').map (·.2)) hoL
  have hlen : (ys.map V.str).length ≤ sizeLine := by
    rw [List.length_map, g2.length_eq]
    exact Nat.le_trans (Nat.le_of_lt h64) (by decide)
  refine wpAny_pure ⟨_, rfl, .ref h'.objs.size, upd H h'.objs.size (.lst (ys.map V.str)), I1.laid (t' := s.toks) (fun b u e => ?_) (Nat.le_refl _)
    (show ObjOk X.prog X.w _ _ _ (.lst (ys.map V.str)) from ⟨hlen, ((arrOf st').map (·.2)).toList, e', vals_of_strs g1, by rw [Array.toArray_toList]; exact he'⟩), rfl, q ys _ g2 g3 (I1.hok.fresh (Nat.le_refl _))⟩
  have hb : b < h'.objs.size := Heap.lt_size e
  rw [PyProof.Rows.sortedHeap_old (Nat.ne_of_lt hb) (by rw [size_push']; exact Nat.lt_succ_of_lt hb)]
  exact Heap.get?_push_of_some _ e
def oSorted : List U → Mem → O U
  | [u], m => match dcells m u with
    | some kvs => match keysS kvs with
      | some ks => if ks.length < 64 then some (.ref m.length, m ++ [.lst ((sortS ks).map .str)]) else none
      | none => none
    | none => match itemsOf m u with
      | some us => match txts us with
        | some ks => if ks.length < 64 then some (.ref m.length, m ++ [.lst ((sortS ks).map .str)]) else none
        | none => none
      | none => none
  | _, _ => none
theorem RUs.strs {K : PySem.W.Frag} {H : Hp} {μ : List Addr} : ∀ xs : List Str, RUs K H μ (xs.map U.str) (xs.map V.str)
  | [] => .nil
  | x :: r => .cons (.str x) (RUs.strs r)
theorem b_sorted (hc : X.calm = true) : CallR X (.builtin "sorted") (rdC X.K oSorted) := by
  intro pins s σ H xs us Q I rx h
  obtain ⟨vs, m, μ, r, M, p⟩ := h
  unfold oSorted at p
  split at p
  · obtain ⟨v, rfl, r1⟩ := r.one
    split at p
    · rename_i kvs e
      split at p
      · rename_i ks e2
        split at p
        · rename_i hz
          obtain ⟨a, ws, rfl, hr, t⟩ := dc_ok M r1 e
          refine call_sortedD hc pins s σ H _ us Q I rx ⟨a, ws, ks, rfl, hr, t.keys.trans (keysS_ok e2), hz, fun ys b hp hs hb => ?_⟩
          rw [sortS_of hp hs]
          exact p.lst M (RUs.strs _) hb
        · exact no_op p
      · exact no_op p
    · split at p
      · rename_i us1 e
        split at p
        · rename_i ks e2
          split at p
          · rename_i hz
            obtain ⟨a, ws, rfl, hq, t, h1, h2⟩ := items_ok M r1 e
            cases txts_ok t e2
            cases hT : isT _ with
            | true =>
              refine call_sortedTS pins s σ H _ us Q I rx ⟨a, ks, rfl, h1 hT, hz, fun ys b hp hs hb => ?_⟩
              rw [sortS_of hp hs]
              exact p.lst M (RUs.strs _) hb
            | false =>
              refine cr_sortedS pins s σ H _ us Q I rx ⟨a, ks, rfl, h2 hT, hz, fun ys b hp hs hb => ?_⟩
              rw [sortS_of hp hs]
              exact p.lst M (RUs.strs _) hb
          · exact no_op p
        · exact no_op p
      · exact no_op p
  · exact no_op p
/-! ### == of dicts -/
def eqKs (m : Mem) (ls : KU) : KU → Option Bool
  | [] => some true
  | (k, u) :: r => match valK ls k with
    | none => some false
    | some v => match eqU m u v, eqKs m ls r with
      | some a, some b => some (a && b)
      | _, _ => none
def eqDD (m : Mem) (u v : U) : Option Bool := match dcells m u, dcells m v with
  | some ks, some ls => if ks.length = ls.length then eqKs m ls ks else some false
  | _, _ => none
def oEqD : U → U → Mem → O U := fun u v m => (eqDD m u v).map fun b => (.bl b, m)
def oNeD : U → U → Mem → O U := fun u v m => (eqDD m u v).map fun b => (.bl (!b), m)
theorem eqAt_u {pins : List (Addr × Obj)} {s : Shared} {σ : L2.St} {H : Hp} {μ : List Addr} {m : Mem} {A : Around} (I : Inv X pins σ H s) (M : MOk X.K H μ m) {u v : U} {x y : V} {a b : Value} {k : Bool} (ru : RU X.K H μ u x) (rv : RU X.K H μ v y) (ra : RelV x a) (rb : RelV y b)
    (h : eqU m u v = some k) (hu : A.units + 64 < cLine) : SeqAt.EqAt A s a b k := by
  obtain ⟨d, e, h1, h2, s1, s2, rfl⟩ := eqU_of h
  obtain ⟨as, r1⟩ := Dp.reads I d x a (dat_ok M ru h1) ra
  obtain ⟨bs, r2⟩ := Dp.reads I e y b (dat_ok M rv h2) rb
  have := SeqAt.depth_of_shaped s1
  exact SeqAt.eqAt_reads d e A s a b as bs r1 r2 (SeqAt.canLay_of_shaped s1) (SeqAt.canLay_of_shaped s2) (by omega)
theorem hits_u {pins : List (Addr × Obj)} {s : Shared} {σ : L2.St} {H : Hp} {μ : List Addr} {m : Mem} {A : Around} (I : Inv X pins σ H s) (M : MOk X.K H μ m) (hu : A.units + 64 < cLine) {ls : KU} {ls' : List (Key × V)} {vb : List (Key × Value)} (tl : PU X.K H μ ls ls') (rb : KV ls' vb) :
    ∀ {ks : KU} {ks' : List (Key × V)} {va : List (Key × Value)} {k : Bool}, PU X.K H μ ks ks' → KV ks' va → eqKs m ls ks = some k → PySem.W.KeqHits A s vb va k
  | [], ks', va, k, tk, ra, h => by
    cases tk
    cases ra
    cases h
    exact .nil
  | (key, u) :: ks, ks', va, k, tk, ra, h => by
    cases tk with
    | @cons _ q _ qs t1 t2 =>
      cases ra with
      | @cons _ z _ zs r1 r2 =>
        obtain ⟨k2, x⟩ := q
        obtain ⟨k3, a⟩ := z
        obtain ⟨e1, ru⟩ := t1
        obtain ⟨e2, rx⟩ := r1
        simp only at e1 e2 ru rx
        subst e1; subst e2
        rw [eqKs] at h
        have rr := rb.val key
        split at h
        · rename_i hv
          cases h
          rw [(tl.val key).2 hv] at rr
          have : valueAt vb key = none := by
            have := rr.isSome_eq
            cases e : valueAt vb key with
            | none => rfl
            | some y => rw [e] at this; cases this
          exact .miss this
        · rename_i v hv
          split at h
          · rename_i b1 b2 h1 h2
            cases h
            obtain ⟨y, hy, ry⟩ := (tl.val key).1 v hv
            rw [hy] at rr
            obtain ⟨w, hw, rw'⟩ := rr.some_of
            exact .hit hw (eqAt_u I M ru ry rx rw' h1 hu) (hits_u I M hu tl rb t2 r2 h2)
          · cases h
theorem eqD_run {pins : List (Addr × Obj)} {s : Shared} {σ : L2.St} {H : Hp} {μ : List Addr} {m : Mem} (I : Inv X pins σ H s) (M : MOk X.K H μ m) (hu : X.A.units + 65 < cLine) {u v : U} {x y : V} {k : Bool} (ru : RU X.K H μ u x) (rv : RU X.K H μ v y) (h : eqDD m u v = some k) :
    ∃ (a b : Addr) (va vb : List (Key × Value)) (r : Bool), x = .ref a ∧ y = .ref b ∧ (a == sysModules) = false ∧ (b == sysModules) = false ∧ s.heap.DictOf (mixKind X.prog X.w) a va ∧ s.heap.DictOf (mixKind X.prog X.w) b vb ∧
      (va.length = vb.length → PySem.W.KeqHits X.A.in1 s vb va r) ∧ k = (va.length == vb.length && r) := by
  unfold eqDD at h
  split at h
  · rename_i ks ls h1 h2
    obtain ⟨a, ks', rfl, ha, tk⟩ := dc_ok M ru h1
    obtain ⟨b, ls', rfl, hb, tl⟩ := dc_ok M rv h2
    obtain ⟨_, ya, va, ra, da⟩ := dk_rd I.hok ha
    obtain ⟨_, yb, vb, rb, db⟩ := dk_rd I.hok hb
    have la : ks.length = va.length := tk.length.trans (Paired.length ra)
    have lb : ls.length = vb.length := tl.length.trans (Paired.length rb)
    split at h
    · rename_i hl
      refine ⟨a, b, va, vb, k, rfl, rfl, ya, yb, da, db, fun _ => hits_u I M (by show X.A.units + 1 + 64 < cLine; omega) tl rb tk ra h, ?_⟩
      rw [← la, ← lb, hl]; simp
    · rename_i hl
      cases h
      refine ⟨a, b, va, vb, false, rfl, rfl, ya, yb, da, db, fun z => absurd (by omega : ks.length = ls.length) hl, ?_⟩
      simp
  · cases h
theorem x_eqD (hu : X.A.units + 65 < cLine) : OpR X (compareOp .Eq) (rd2 X.K oEqD) := by
  intro pins s σ H x y v u Q I rx ry h
  obtain ⟨u1, u2, m, μ, r1, r2, M, p⟩ := h
  unfold oEqD at p
  cases e : eqDD m u1 u2 with
  | none => rw [e] at p; exact no_op p
  | some k =>
    rw [e] at p
    obtain ⟨a, b, va, vb, r, rfl, rfl, ya, yb, da, db, hh, rfl⟩ := eqD_run I M hu r1 r2 e
    obtain rfl : v = Value.ref a := rx
    obtain rfl : u = Value.ref b := ry
    exact PySem.W.keq_eq (knd := mixKind X.prog X.w) ya yb da db (by omega) hh ⟨.bl _, H, I, rfl, p.val M (.bl _)⟩
theorem x_neD (hu : X.A.units + 65 < cLine) : OpR X (compareOp .NotEq) (rd2 X.K oNeD) := by
  intro pins s σ H x y v u Q I rx ry h
  obtain ⟨u1, u2, m, μ, r1, r2, M, p⟩ := h
  unfold oNeD at p
  cases e : eqDD m u1 u2 with
  | none => rw [e] at p; exact no_op p
  | some k =>
    rw [e] at p
    obtain ⟨a, b, va, vb, r, rfl, rfl, ya, yb, da, db, hh, rfl⟩ := eqD_run I M hu r1 r2 e
    obtain rfl : v = Value.ref a := rx
    obtain rfl : u = Value.ref b := ry
    exact PySem.W.keq_ne (knd := mixKind X.prog X.w) ya yb da db (by omega) hh ⟨.bl _, H, I, rfl, p.val M (.bl _)⟩
end
end Ev

set_option Elab.async false
set_option linter.all false
set_option maxRecDepth 100000
set_option maxHeartbeats 2000000
/-! Ev: dict comprehensions; walks over dicts, which are held fast meanwhile; slices stored. -/
namespace Ev
open PySem PySem.Spec PyProof.Rows L2 RZ LiI

/-! ### {k: v for g in s if t} -/
def dcN (nx : Nat → Mem → Option (Option U)) (g : GD) (t : XT) (fk fv : XD) (ρ : Env) : Nat → Nat → KU → Mem → O KU
  | 0, _, _, _ => none
  | n + 1, i, acc, m => match nx i m with
    | none => none
    | some none => some (acc, m)
    | some (some u) => match g u ρ m with
      | none => none
      | some (ρ1, m1) => match toO (t ρ1 m1) with
        | none => none
        | some (b, m2) => if b then match toO (fk ρ1 m2) with
            | none => none
            | some (k, m3) => match keyOf k with
              | none => none
              | some key => match toO (fv ρ1 m3) with
                | none => none
                | some (v, m4) => if acc.length < sizeLine then dcN nx g t fk fv ρ n (i + 1) (putU acc key v) m4 else none
          else dcN nx g t fk fv ρ n (i + 1) acc m2
def srcLen : Src → Nat
  | .fix us => us.length + 1
  | .dyn k _ => k
def dDc (f : ID) (g : GD) (t : XT) (fk fv : XD) (vs : List Nat) : XD := fun ρ m => (f ρ m).bind fun s m1 => match dcN s.next g t fk fv (wipeU ρ vs) (srcLen s) 0 [] m1 with
  | some (kvs, m2) => .ok (.ref m2.length) (m2 ++ [.dK kvs])
  | none => .bad
section
variable {X : Cx} {c : Nat → Addr} {W : WX} {e : Expr} {f : ID} {g0 : TG} {g : GD} {t : XT} {fk fv : XD} {vs : List Nat}
theorem se_dc (hg : GW X.K g0 g vs) (h : PE X e (tDc (rdI (wX X c) W f) g0 (rdT (wX X c) (fun _ _ _ _ => False) t) (rdE (wX X c) (fun _ _ _ _ => False) fk) (rdE (wX X c) (fun _ _ _ _ => False) fv) vs)) : SE X c W e (dDc f g t fk fv vs) := h.imp fun σ H Q q => by
  obtain ⟨ρ, m, μ, E, M, p⟩ := q
  refine ⟨ρ, m, μ, E, M, p.bind.imp fun μ1 H1 m1 src s1 M1 p1 J hJ D hD => ?_⟩
  have E1 := (E.step s1).wipe vs
  let Fin : O KU → Prop := fun o => match o with
    | some (kvs, m') => ∀ μ' H', Step X.K μ1 H1 μ' H' → MOk X.K H' μ' (m' ++ [.dK kvs]) → ∀ v, RU X.K H' μ' (.ref m'.length) v → Q v H'
    | none => False
  have fin0 : Fin (dcN src.next g t fk fv (wipeU ρ vs) (srcLen src) 0 [] m1) := by
    cases q : dcN src.next g t fk fv (wipeU ρ vs) (srcLen src) 0 [] m1 with
    | none => rw [q] at p1; exact p1
    | some z =>
      obtain ⟨kvs, m'⟩ := z
      rw [q] at p1
      exact fun μ' H' s' M' => p1 μ' H' s' M'
  refine ⟨fun i n H => ∃ (m : Mem) (μ : List Addr) (acc : KU) (accV : List (Key × V)), Step X.K μ1 H1 μ H ∧ D ∉ μ ∧ H D = some (.dK accV) ∧ PU X.K H μ acc accV ∧ MOk X.K H μ m ∧ Fin (dcN src.next g t fk fv (wipeU ρ vs) n i acc m),
    ⟨srcLen src, m1, μ1, [], [], .newT hD, M1.nin hD, upd_same, .nil, M1.newT hD, fin0⟩, ?_⟩
  rintro i n H ⟨m, μ, acc, accV, st, nD, hL, ra, M, fin⟩
  cases n with
  | zero => exact False.elim fin
  | succ n =>
    have hj := hJ i μ H m st.mono M
    rw [dcN] at fin
    cases e : src.next i m with
    | none => simp only [e] at fin; exact False.elim fin
    | some o =>
      cases o with
      | none =>
        simp only [e] at fin hj
        exact .inl ⟨hj, fin (μ ++ [D]) H (st.beside hD) (M.beside nD hL ra) _ (.ref (by rw [← M.len]; simp))⟩
      | some u =>
        simp only [e] at fin hj
        refine .inr ⟨hj.1, fun H' => ∃ (m : Mem) (μ : List Addr) (acc : KU) (accV : List (Key × V)), Step X.K μ1 H1 μ H' ∧ D ∉ μ ∧ H' D = some (.dK accV) ∧ PU X.K H' μ acc accV ∧ MOk X.K H' μ m ∧ Fin (dcN src.next g t fk fv (wipeU ρ vs) n (i + 1) acc m), fun H' z => ⟨n, Nat.lt_succ_self n, z⟩, fun x H' y => ?_⟩
        obtain ⟨s2, M2, r2⟩ := hj.2 x H' y
        have E2 := (E1.step st).step s2
        refine hg u (wipeU ρ vs) m x _ H' μ _ r2 E2 M2 ?_
        cases q1 : g u (wipeU ρ vs) m with
        | none => simp only [q1] at fin; exact False.elim fin
        | some z =>
          obtain ⟨ρ3, m3⟩ := z
          simp only [q1] at fin
          refine fun μ3 H3 s3 M3 σ3 E3 w3 => ⟨w3.trans ?_, ?_⟩
          · have idem : ∀ (σ : L2.St) (ws us : List Nat), (∀ i ∈ ws, i ∈ us) → wipe (wipe σ ws) us = wipe σ us := by
              intro σ ws
              induction ws with
              | nil => intro us _; rfl
              | cons w ws ih =>
                intro us h
                rw [show wipe σ (w :: ws) = (wipe σ ws).set w none from rfl, wipe_set (h w (by simp)), ih us fun i hi => h i (by simp [hi])]
            exact idem σ vs vs fun _ h => h
          cases q2 : toO (t ρ3 m3) with
          | none => simp only [q2] at fin; exact False.elim fin
          | some z =>
            obtain ⟨b, m4⟩ := z
            simp only [q2] at fin
            refine ⟨ρ3, m3, μ3, E3, M3, toO_post (w := wX X c) q2 fun μ4 H4 s4 M4 => ?_⟩
            have st4 := ((st.trans s2).trans s3).trans s4
            have stay4 := ((s2.trans s3).trans s4)
            have hL4 : H4 D = some (.dK accV) := stay4.keep D _ hL nD (fun ps z => by cases z)
            have nD4 := (stay4.stay D _ hL nD).1
            have ra4 := ra.step stay4
            cases b with
            | false => exact ⟨m4, μ4, acc, accV, st4, nD4, hL4, ra4, M4, fin⟩
            | true =>
              simp only [if_true] at fin ⊢
              cases q3 : toO (fk ρ3 m4) with
              | none => simp only [q3] at fin; exact False.elim fin
              | some z =>
                obtain ⟨k, m5⟩ := z
                simp only [q3] at fin
                cases qk : keyOf k with
                | none => simp only [qk] at fin; exact False.elim fin
                | some key =>
                simp only [qk] at fin
                cases q4 : toO (fv ρ3 m5) with
                | none => simp only [q4] at fin; exact False.elim fin
                | some z =>
                  obtain ⟨y, m6⟩ := z
                  simp only [q4] at fin
                  refine ⟨ρ3, m4, μ4, E3.step s4, M4, toO_post (w := wX X c) q3 fun μ5 H5 s5 M5 kx rk => ⟨ρ3, m5, μ5, (E3.step s4).step s5, M5, toO_post (w := wX X c) q4 fun μ6 H6 s6 M6 vx rv => ?_⟩⟩
                  have s56 := s5.trans s6
                  have hL6 : H6 D = some (.dK accV) := s56.keep D _ hL4 nD4 (fun ps z => by cases z)
                  have nD6 := (s56.stay D _ hL4 nD4).1
                  have ra6 := ra4.step s56
                  have st6 := st4.trans s56
                  cases keyOf_ok rk qk
                  split at fin
                  · rename_i hz
                    have mo := Mono.growD (K := X.K) (μ := μ6) (ys := putK accV key vx) hL6
                    exact ⟨accV, key, rfl, hL6, by rw [← ra6.length]; exact hz, m6, μ6, putU acc key y, putK accV key vx, st6.growD hD hL6, nD6, upd_same, (ra6.put key rv).mo mo, M6.mo mo fun a ha => by rw [upd_ne fun z : a = D => nD6 (by rw [← z]; exact ha)], fin⟩
                  · exact False.elim fin
end
/-! ### a dict is held fast while it is walked -/
structure MonoW (K : PySem.W.Frag) (μ : List Addr) (H : Hp) (μ' : List Addr) (H' : Hp) : Prop where
  ext : ∃ t, μ' = μ ++ t
  kt : ∀ a xs, SqT K H a xs → SqT K H' a xs
  fz : ∀ b o vs, H b = some (.frz o (.lst vs)) → H' b = some (.frz o (.lst vs))
section
variable {K : PySem.W.Frag} {H H' : Hp} {μ μ' : List Addr} {m : Mem}
theorem MonoW.at (s : MonoW K μ H μ' H') {n : Nat} {a : Addr} (h : μ[n]? = some a) : μ'[n]? = some a := by
  obtain ⟨t, e⟩ := s.ext
  have hl : n < μ.length := (List.getElem?_eq_some_iff.mp h).1
  rw [e, List.getElem?_append_left hl]
  exact h
mutual
theorem RU.mw (s : MonoW K μ H μ' H') : ∀ {u : U} {v : V}, RU K H μ u v → RU K H' μ' u v
  | _, _, .non => .non
  | _, _, .bl b => .bl b
  | _, _, .int i => .int i
  | _, _, .str x => .str x
  | _, _, .tup h t => .tup (s.kt _ _ h) (RUs.mw s t)
  | _, _, .rol h t => .rol (h.imp (fun ⟨o, q⟩ => ⟨o, s.fz _ _ _ q⟩) id) (RUs.mw s t)
  | _, _, .ref h => .ref (s.at h)
  | _, _, .ob v => .ob v
theorem RUs.mw (s : MonoW K μ H μ' H') : ∀ {us : List U} {vs : List V}, RUs K H μ us vs → RUs K H' μ' us vs
  | _, _, .nil => .nil
  | _, _, .cons h t => .cons (RU.mw s h) (RUs.mw s t)
end
theorem COk.mw {c : Cell} {a : Addr} (s : MonoW K μ H μ' H') (e : H' a = H a) (h : COk K H μ c a) : COk K H' μ' c a := by
  cases c with
  | lst us => obtain ⟨vs, q, r⟩ := h; exact ⟨vs, e.trans q, r.mw s⟩
  | dK kvs => obtain ⟨vs, q, r⟩ := h; exact ⟨vs, e.trans q, Paired.mapP r fun p q z => ⟨z.1, z.2.mw s⟩⟩
  | dT kvs => obtain ⟨vs, q, r⟩ := h; exact ⟨vs, e.trans q, Paired.mapP r fun p q z => ⟨z.1, z.2.mw s⟩⟩
  | dF kvs => obtain ⟨o, vs, q, r⟩ := h; exact ⟨o, vs, e.trans q, Paired.mapP r fun p q z => ⟨z.1, z.2.mw s⟩⟩
theorem MonoW.unlock {a : Addr} {od : Obj} {vs : List (Key × V)} (hf : H a = some (.frz od (.dK vs))) : MonoW K μ H μ (upd H a (.dK vs)) := by
  refine ⟨⟨[], by simp⟩, fun b xs h => ?_, fun b o us h => ?_⟩
  · rcases h with (h | ⟨u, h⟩) | h
    · exact .inl (.inl (by rw [upd_ne fun z => by subst z; rw [hf] at h; cases h]; exact h))
    · exact .inl (.inr ⟨u, by rw [upd_ne fun z => by subst z; rw [hf] at h; cases h]; exact h⟩)
    · exact .inr h
  · rw [upd_ne fun z => by subst z; rw [hf] at h; cases h]; exact h
theorem MOk.unlock (M : MOk K H μ m) {n : Nat} {a : Addr} {od : Obj} {vs : List (Key × V)} {kvs : KU} (hn : μ[n]? = some a) (hf : H a = some (.frz od (.dK vs))) (t : PU K (upd H a (.dK vs)) μ kvs vs) : MOk K (upd H a (.dK vs)) μ (m.set n (.dK kvs)) := by
  refine ⟨by simp [M.len], M.nd, fun k b d h1 h2 => ?_⟩
  by_cases hk : k = n
  · subst hk
    have hl : k < m.length := by rw [← M.len]; exact (List.getElem?_eq_some_iff.mp hn).1
    rw [List.getElem?_set_self hl] at h2
    cases h2
    rw [hn] at h1; cases h1
    exact ⟨vs, upd_same, t⟩
  · rw [List.getElem?_set_ne (Ne.symm hk)] at h2
    refine (M.cell k b d h1 h2).mw (MonoW.unlock hf) ?_
    rw [upd_ne fun z => hk (nodup_inj M.nd h1 (by rw [z]; exact hn))]
theorem Step.unlock {a : Addr} {od : Obj} {vs : List (Key × V)} (ha : a ∈ μ) (hq : H a = some (.dK vs)) (s : Step K μ (upd H a (.frz od (.dK vs))) μ' H') : Step K μ H μ' (upd H' a (.dK vs)) := by
  have hf : H' a = some (.frz od (.dK vs)) := s.fz _ _ _ upd_same
  refine ⟨s.ext, fun b o h n hp => ?_, fun b o h n => ?_, fun b xs h => ?_, fun b o u h => ?_⟩
  · have hb : b ≠ a := fun z => n (z ▸ ha)
    rw [upd_ne hb]
    exact s.keep b o (by rw [upd_ne hb]; exact h) n hp
  · have hb : b ≠ a := fun z => n (z ▸ ha)
    obtain ⟨h1, o', h2⟩ := s.stay b o (by rw [upd_ne hb]; exact h) n
    exact ⟨h1, o', by rw [upd_ne hb]; exact h2⟩
  · exact (MonoW.unlock (K := K) (μ := μ') hf).kt b xs (s.kt b xs (kt_set hq rfl b xs h))
  · have hb : b ≠ a := fun z => by subst z; rw [hq] at h; cases h
    rw [upd_ne hb]
    exact s.fz _ _ _ (by rw [upd_ne hb]; exact h)
end
def lockE (i : Nat) (f : XD) : XD := fun ρ m => match ρ[i]? with
  | some (some (.ref n)) => match m[n]? with
    | some (.dK kvs) => match f ρ (m.set n (.dF kvs)) with
      | .ok u m' => .ok u (m'.set n (.dK kvs))
      | _ => .bad
    | _ => .bad
  | _ => .bad
section
variable {X : Cx} {c : Nat → Addr} {W : WX} {f : XD} {o e : Expr}
theorem se_lock {st : Expr} {i : Nat} (h : SE X c W st f) : SE X c W st (lockE i f) :=
  (pe_lock h).imp fun σ H Q ⟨ρ, m, μ, E, M, p⟩ => by
    unfold lockE at p
    split at p
    · rename_i n hρ
      split at p
      · rename_i kvs hm
        obtain ⟨v, hv, rv⟩ := E.at_ i _ hρ
        cases rv with
        | @ref _ a hn =>
          obtain ⟨vs, hq, t⟩ := M.cell _ _ _ hn hm
          have ha := List.mem_of_getElem? hn
          refine ⟨a, .dK vs, hq, trivial, fun od => ?_⟩
          have s : Step X.K μ H μ (upd H a (.frz od (.dK vs))) := .set ha hq rfl
          refine ⟨ρ, m.set n (.dF kvs), μ, E.step s, M.set hn hq rfl ⟨od, vs, upd_same, PU.step t s⟩, ?_⟩
          cases q : f ρ (m.set n (.dF kvs)) with
          | bad => rw [q] at p; exact p
          | err x m1 => rw [q] at p; exact False.elim p
          | ok u m' =>
            rw [q] at p
            intro μ' H' s1 M' v r
            have hf : H' a = some (.frz od (.dK vs)) := s1.fz _ _ _ upd_same
            have hn' := s1.mono.at hn
            have mw := MonoW.unlock (K := X.K) (μ := μ') hf
            exact ⟨hf, p μ' _ (Step.unlock ha hq s1) (M'.unlock hn' hf (Paired.mapP (PU.step (PU.step t s) s1) fun _ _ z => ⟨z.1, z.2.mw mw⟩)) v (r.mw mw)⟩
      · exact False.elim p
    · exact False.elim p
/-- for k in d -/
def iKeysF (f : XD) : ID := fun ρ m => (f ρ m).bind fun u m1 => match u with
  | .ref n => match m1[n]? with
    | some (.dF kvs) => .ok (.fix (kvs.map fun kv => keyU kv.1)) m1
    | _ => .bad
  | _ => .bad
theorem PU.get {K : PySem.W.Frag} {H : Hp} {μ : List Addr} : ∀ {kvs : KU} {vs : List (Key × V)} {i : Nat} {kv : Key × U}, PU K H μ kvs vs → kvs[i]? = some kv → ∃ v, vs[i]? = some (kv.1, v) ∧ RU K H μ kv.2 v
  | _, _, _, _, .nil, e => by simp at e
  | _, _, 0, _, .cons (b := q) h _, e => by
    simp at e; subst e
    obtain ⟨k, v⟩ := q
    exact ⟨v, by rw [h.1]; rfl, h.2⟩
  | _, _, i + 1, _, .cons _ t, e => by
    obtain ⟨v, h1, h2⟩ := PU.get (i := i) t (by simpa using e)
    exact ⟨v, by simpa using h1, h2⟩
theorem si_keysF {tg : Expr} (h : SE X c W e f) : SI X c W tg e (iKeysF f) :=
  (pi_keys h).imp fun σ H R ⟨ρ, m, μ, E, M, p⟩ => ⟨ρ, m, μ, E, M, p.bind.imp fun μ1 H1 m1 u s1 M1 p1 v r => by
    split at p1
    · rename_i n
      split at p1
      · rename_i kvs hm
        cases r with
        | @ref _ a hn =>
          obtain ⟨o, vs, hq, t⟩ := M1.cell _ _ _ hn hm
          refine ⟨a, o, rfl, .inl ⟨vs, hq, p1.ok_at M1 _ (wk_fix fun i μ2 H2 m2 mo M2 hi => ?_)⟩⟩
          have hq2 := mo.fz _ _ _ hq
          rw [List.getElem?_map]
          cases e : kvs[i]? with
          | none => exact ⟨hq2, by rw [← PU.length t]; exact List.getElem?_eq_none_iff.mp e⟩
          | some kv =>
            obtain ⟨w, h1, h2⟩ := PU.get (PU.mo t mo) e
            refine ⟨⟨hq2, (List.getElem?_eq_some_iff.mp h1).1⟩, fun x H' y => ?_⟩
            obtain ⟨rfl, k, v, e2, rfl⟩ := y
            rw [h1] at e2
            cases e2
            exact ⟨.refl, M2, keyU_ok _⟩
      · exact False.elim p1
    · exact False.elim p1⟩
/-- for k, v in d.items() -/
def iItemsF (f : XD) : ID := fun ρ m => (f ρ m).bind fun u m1 => match u with
  | .ref n => match m1[n]? with
    | some (.dF kvs) => .ok (.fix (kvs.map pairU)) m1
    | _ => .bad
  | _ => .bad
theorem si_itemsF {tg st : Expr} (h : PI X tg st (iItems (rdE (wX X c) W f))) : SI X c W tg st (iItemsF f) :=
  h.imp fun σ H R ⟨ρ, m, μ, E, M, p⟩ => ⟨ρ, m, μ, E, M, p.bind.imp fun μ1 H1 m1 u s1 M1 p1 v r => by
    split at p1
    · rename_i n
      split at p1
      · rename_i kvs hm
        cases r with
        | @ref _ a hn =>
          obtain ⟨o, vs, hq, t⟩ := M1.cell _ _ _ hn hm
          refine ⟨a, o, vs, rfl, hq, p1.ok_at M1 _ (wk_fix fun i μ2 H2 m2 mo M2 hi => ?_)⟩
          have hq2 := mo.fz _ _ _ hq
          rw [List.getElem?_map]
          cases e : kvs[i]? with
          | none => exact ⟨hq2, by rw [← PU.length t]; exact List.getElem?_eq_none_iff.mp e⟩
          | some kv =>
            obtain ⟨w, h1, h2⟩ := PU.get (PU.mo t mo) e
            refine ⟨⟨hq2, (List.getElem?_eq_some_iff.mp h1).1⟩, fun x H' y => ?_⟩
            obtain ⟨T, k, v, e2, rfl, hT, rfl⟩ := y
            rw [h1] at e2
            cases e2
            exact pair_new M2 hT (keyU_ok _) h2
      · exact False.elim p1
    · exact False.elim p1⟩
/-! ### xs[i:j] = ys -/
def oSetSl (o : U) (l h : Option Int) (v : U) (m : Mem) : O Unit := match o, l, h, v with
  | .ref n, some i, some j, .ref k => match m[n]?, m[k]? with
    | some (.lst us), some (.lst ws) => if n ≠ k ∧ 0 ≤ i ∧ i ≤ j ∧ j ≤ us.length ∧ us.length + ws.length ≤ sizeLine then some ((), m.set n (.lst (us.take i.toNat ++ ws ++ us.drop j.toNat))) else none
    | _, _ => none
  | _, _, _, _ => none
def sSetSl (fv fo : XD) (fl fh : Env → Mem → R (Option Int)) : SD := fun ρ m => thenE (fv ρ m) ρ fun v m1 => thenE (fo ρ m1) ρ fun o m2 => thenE (fl ρ m2) ρ fun l m3 => thenE (fh ρ m3) ρ fun h m4 => thenO (oSetSl o l h v m4) fun _ m5 => .ok .nx ρ m5
theorem ps_slput {o value : Expr} {lo hi : Option Expr} {p2 pos' pos : Pos} {td tv : TE} {tl th : TO} (hv : PE X value tv) (ho : PE X o td) (hl : PO X lo tl) (hh : PO X hi th) (hs : swapsWith value (some (.Subscript o (.Slice lo hi none p2) pos')) pos.line X.env = pure false) :
    PS X (.Assign [.Subscript o (.Slice lo hi none p2) pos'] value pos) (fun D σ H => tv σ H fun v H1 => td σ H1 fun x H2 => tl σ H2 fun l H3 => th σ H3 fun h H4 => ∃ (a b : Addr) (xs ys : List V) (i j : Int), x = .ref a ∧ v = .ref b ∧ l = some i ∧ h = some j ∧
      H4 a = some (.lst xs) ∧ H4 b = some (.lst ys) ∧ a ≠ b ∧ 0 ≤ i ∧ i ≤ j ∧ j ≤ xs.length ∧ xs.length + ys.length ≤ sizeLine ∧ D.nx σ (upd H4 a (.lst (xs.take i.toNat ++ ys ++ xs.drop j.toNat)))) := by
  refine ⟨fun pins s σ H D I h => ?_⟩
  refine wpAny_Assign_Subscript (thn (hv.run pins s σ H _ I h) fun r s1 ⟨v, H1, I1, rv, q1⟩ => thn (ho.run pins s1 σ H1 _ I1 q1) fun u s2 ⟨x, H2, I2, rx, q2⟩ => wpAny_Slice (thn (hl.run pins s2 σ H2 _ I2 q2) fun vl s3 ⟨l, H3, I3, pl, q3⟩ => thn (hh.run pins s3 σ H3 _ I3 q3) fun vu s4 ⟨hh', H4, I4, pu, q4⟩ => ?_)) hs
  rw [evalPart_none]
  refine wpAny_pure ?_
  obtain ⟨a, b, xs, ys, i, j, rfl, rfl, rfl, rfl, ha, hb, hne, h0, hij, hj, hz, q⟩ := q4
  obtain rfl : u = Value.ref a := rx
  obtain rfl : r = Value.ref b := rv
  have I5 : Inv X pins σ H4 { s4 with heap := s4.heap.push { cls := .type "slice", data := .fields #[vl, vu, .none] } } := I4.kept (t' := s4.toks) fun b ob q => Heap.get?_push_of_some _ q
  cases pl with
  | int _ t1 =>
    cases pu with
    | int _ t2 => exact set_slice I5 ha hb hne (Heap.IsSliceOf.new ..) ⟨t1, rfl⟩ ⟨t2, rfl⟩ h0 hij hj hz fun s' I' => ⟨σ, _, I', q⟩
theorem ss_setSl {o value : Expr} {lo hi : Option Expr} {p2 pos' pos : Pos} {fv fo : XD} {fl fh : Env → Mem → R (Option Int)} (hv : SE X c W value fv) (ho : SE X c W o fo) (hl : SP X c W lo fl) (hh : SP X c W hi fh) (hs : swapsWith value (some (.Subscript o (.Slice lo hi none p2) pos')) pos.line X.env = pure false) :
    SS X c W (.Assign [.Subscript o (.Slice lo hi none p2) pos'] value pos) (sSetSl fv fo fl fh) :=
  (ps_slput hv ho hl hh hs).imp fun D σ H ⟨ρ, m, μ, E, M, p⟩ => ⟨ρ, m, μ, E, M, (PostS.thenE E p).imp fun μ1 H1 m1 v s1 M1 p1 vv rv => ⟨ρ, m1, μ1, E.step s1, M1, (PostS.thenE (E.step s1) p1).imp fun μ2 H2 m2 o s2 M2 p2 vo ro =>
    ⟨ρ, m2, μ2, (E.step s1).step s2, M2, (PostS.thenE ((E.step s1).step s2) p2).imp fun μ3 H3 m3 l s3 M3 p3 => ⟨ρ, m3, μ3, ((E.step s1).step s2).step s3, M3, (PostS.thenE (((E.step s1).step s2).step s3) p3).imp fun μ4 H4 m4 h s4 M4 p4 => by
      have p4 := PostS.thenO p4
      unfold oSetSl at p4
      split at p4
      · rename_i n i j k _
        split at p4
        · rename_i us ws h1 h2
          split at p4
          · rename_i hz
            obtain ⟨hnk, h0, hij, hj, hl⟩ := hz
            obtain ⟨a, xs, rfl, hn, hq, t⟩ := ((ro.step s3).step s4).cl M4 h1
            obtain ⟨b, ys, rfl, hk, hq2, t2⟩ := (((rv.step s2).step s3).step s4).cl M4 h2
            have s : Step X.K μ4 H4 μ4 (upd H4 a (.lst (xs.take i.toNat ++ ys ++ xs.drop j.toNat))) := .set (List.mem_of_getElem? hn) hq rfl
            have M5 := M4.set hn hq rfl (o := .lst (xs.take i.toNat ++ ys ++ xs.drop j.toNat)) (c := .lst (us.take i.toNat ++ ws ++ us.drop j.toNat)) ⟨_, upd_same, (((t.take _).append t2).append (t.drop _)).step s⟩
            exact ⟨a, b, xs, ys, i, j, rfl, rfl, rfl, rfl, hq, hq2, fun z => hnk (nodup_inj M4.nd hn (z ▸ hk)), h0, hij, by rw [← t.length]; exact hj, by rw [← t.length, ← t2.length]; exact hl, (p4 μ4 _ s M5).nx M5 ((((E.step s1).step s2).step s3).step s4 |>.step s)⟩
          · exact no_op p4
        · exact no_op p4
      · exact no_op p4⟩⟩⟩⟩
end
end Ev

set_option Elab.async false
set_option linter.all false
set_option maxRecDepth 100000
set_option maxHeartbeats 2000000
/-! Ev: a written dict of defs: in it or not, and the def at a key called by a local name. -/
namespace Ev
open PySem PySem.Spec PyProof.Rows L2 RZ LiI

abbrev TabU := List (Str × (List U → Mem → R U))
def tabAt (tab : TabU) (z : Str) : Option (List U → Mem → R U) := (tab.find? fun p => decide (p.1 = z)).map (·.2)
/-- what is known of the written dict at aJ -/
structure TabOk (P : Program) (w : World) (K : PySem.W.Frag) (mg : Str → Option Value) (base : Heap) (c : Nat → Addr) (k : Nat) (aJ : Addr) (tab : TabU) : Prop where
  kd : ∃ es n, KDict K w aJ es n
  fn : ∀ z F, tabAt tab z = some F → ∃ (f : Addr) (fd : FuncData) (ps : List Str), PySem.W.nsIn K aJ z = some (some (.ref f)) ∧ FnOk P w K mg base (L2.CX P w) k f fd ps (spF K c 1 F) ∧ PySem.W.keepIn K (.ref f) = true ∧ Binds K fd ps [] ∧ ∀ us m, us.length ≠ 1 → F us m = .bad
/-- z not in the dict, where z is one of its keys -/
def oTabNot (tab : TabU) (u : U) (m : Mem) : O U := match u with
  | .str z => match tabAt tab z with
    | some _ => some (.bl false, m)
    | none => none
  | _ => none
def sJudge (tab : TabU) (i : Nat) (fx fa : XD) : SD := fun ρ m => if i < ρ.length then thenE (fx ρ m) ρ fun k m1 => match k with
  | .str z => match tabAt tab z with
    | some F => thenE (fa (ρ.set i none) m1) (ρ.set i none) fun u m2 => thenE (F [u] m2) (ρ.set i none) fun r m3 => .ok (.rt r) (ρ.set i none) m3
    | none => .bad
  | _ => .bad else .bad
section
variable {X : Cx} {c : Nat → Addr} {W : WX} {fx fa : XD} {k : Nat} {aJ : Addr} {tab : TabU}
theorem tabNot_of (T : TabOk X.prog X.w X.K X.mg X.base c k aJ tab) {σ : L2.St} {H : Hp} {Q : VK} (q : rdE (wX X c) W (dUn (oTabNot tab) fa) σ H Q) :
    tOp (fun x y H Q => ∃ (z : Str) (r : Option Value), x = .str z ∧ y = .ref aJ ∧ PySem.W.nsIn X.K aJ z = some r ∧ Q (.bl (!r.isSome)) H) (rdE (wX X c) W fa) (tC (.ref aJ)) σ H Q := by
  obtain ⟨ρ, m, μ, E, M, p⟩ := q
  refine ⟨ρ, m, μ, E, M, p.bind.imp fun μ1 H1 m1 u s1 M1 p1 v r1 => ?_⟩
  have q := p1.o
  unfold oTabNot at q
  split at q
  · rename_i z
    split at q
    · rename_i F e
      obtain ⟨f, fd, ps, h1, _⟩ := T.fn z F e
      cases r1
      exact ⟨z, _, rfl, rfl, h1, q.val M1 (.bl _)⟩
    · exact no_op q
  · exact no_op q
theorem se_tabNot {a : Expr} {x : Str} {px pos : Pos} (T : TabOk X.prog X.w X.K X.mg X.base c k aJ tab) (hg : Gl X x) (hm : X.mg x = some (.ref aJ)) (ha : SE X c W a fa) (hn : behindInMarks .NotIn (.Name x px) = false) (hd : (x == ("__debug__" : Str)) = false := by decide) :
    SE X c W (.Compare a [.NotIn] [.Name x px] pos) (dUn (oTabNot tab) fa) := by
  obtain ⟨es, n, D⟩ := T.kd
  exact (pe_cmpR (op_notIn_kd D) ha (pe_glob (v := .ref aJ) hg hm rfl hd) hn).imp fun σ H Q q => tabNot_of T q
theorem st_tabNot {a : Expr} {x : Str} {px pos : Pos} (T : TabOk X.prog X.w X.K X.mg X.base c k aJ tab) (hg : Gl X x) (hm : X.mg x = some (.ref aJ)) (ha : SE X c W a fa) (hn : behindInMarks .NotIn (.Name x px) = false) (hd : (x == ("__debug__" : Str)) = false := by decide) :
    ST X c W (.Compare a [.NotIn] [.Name x px] pos) (tBl (dUn (oTabNot tab) fa)) := by
  obtain ⟨es, n, D⟩ := T.kd
  exact (pt_cmpR (op_notIn_kd D) ha (pe_glob (v := .ref aJ) hg hm rfl hd) hn).imp fun σ H Q q => rdB_of (fun σ H Q q => tabNot_of T q) q
/-- the call of a local name that holds a def -/
theorem pe_callTab {i : Nat} {x : Str} {p pos : Pos} {e : Expr} {es : List Expr} {t : TA} (hr : Room k X.A) (hN : X.N[i]? = some x) (hv : Vis X.env.scope x) (hx : ∀ σ, PassesAt (L2.CX X.prog X.w) X σ (WE W σ)) (ha : PA X (e :: es) t)
    (hdb : (x == ("__debug__" : Str)) = false := by decide) (hcd : (x == ("__classdict__" : Str)) = false := by decide)
    (he : starEach (e :: es) X.env = (false, eval e X.env) :: starEach es X.env := by rfl) (hpl : (backTo pos (starEach es X.env)).any (·.1) = false := by rfl) :
    PE X (.Call (.Name x p) (e :: es) [] pos) (fun σ H Q => ∃ (f : Addr) (sp : Sp) (fd : FuncData) (ps : List Str), σ[i]? = some (some (.ref f)) ∧ FnOk X.prog X.w X.K X.mg X.base (L2.CX X.prog X.w) k f fd ps sp ∧ PySem.W.keepIn X.K (.ref f) = true ∧ Binds X.K fd ps [] ∧ t σ H fun vs H1 => sp vs H1 Q (WE W σ)) := by
  refine ⟨fun pins s σ H Q I h => ?_⟩
  obtain ⟨f, sp, fd, ps, hs, F, hk, hb, ht⟩ := h
  refine wpAny_Call_Name_kw (thn ((pe_var (pos := p) hN hv hdb hcd).run pins s σ H (fun v H1 => v = .ref f ∧ H1 = H) I ⟨.ref f, hs, rfl, rfl⟩) fun u s1 ⟨v, H1, I1, r1, q1⟩ => ?_)
  obtain ⟨rfl, rfl⟩ := q1
  cases r1
  refine PySem.W.callWith_K (h₀ := X.base) I.ok.mod.kin hk (thn (ha.run pos pins s1 σ _ _ I1 ht) fun us s2 ⟨vs, H2, I2, r, q⟩ => ⟨I2.kIn, ?_⟩) he hpl
  exact run_fnS F hr hb (hx σ) I2 r q
theorem EOk.hide {K : PySem.W.Frag} {H : Hp} {μ : List Addr} {ρ : Env} {σ : L2.St} (E : EOk K H μ ρ σ) (i : Nat) (v : V) : EOk K H μ (ρ.set i none) (σ.set i (some v)) := by
  refine ⟨by simp [E.len], fun j w h => ?_⟩
  by_cases hj : j = i
  · subst hj
    by_cases hl : j < ρ.length
    · rw [List.getElem?_set_self hl] at h; cases h
    · rw [List.getElem?_eq_none (by simpa using hl)] at h; cases h
  · rw [List.getElem?_set_ne (Ne.symm hj)] at h
    obtain ⟨x, e, q⟩ := E.at_ j w h
    exact ⟨x, by rw [List.getElem?_set_ne (Ne.symm hj)]; exact e, q⟩
theorem sb_judge {i : Nat} {y xJ : Str} {py pJ p1 p2 p3 p4 p5 : Pos} {ix arg : Expr} (T : TabOk X.prog X.w X.K X.mg X.base c k aJ tab) (hc : X.N.Nodup) (hi : X.N[i]? = some y) (hy : Loc X.env.scope y) (hv : Vis X.env.scope y) (hg : Gl X xJ) (hm : X.mg xJ = some (.ref aJ)) (hr : Room k X.A)
    (hx : ∀ σ, PassesAt (L2.CX X.prog X.w) X σ (WE W σ)) (hix : SE X c W ix fx) (harg : SE X c W arg fa) (hpl : PlainIx ix)
    (hs : swapsWith (.Subscript (.Name xJ pJ) ix p1) (some (.Name y py)) p2.line X.env = pure false := by rfl) (hf : X.fn y = true ∨ X.env.scope.names.lookup y = some .local := by first | exact .inl rfl | exact .inr rfl | assumption)
    (hdb : (y == ("__debug__" : Str)) = false := by decide) (hcd : (y == ("__classdict__" : Str)) = false := by decide) (hdJ : (xJ == ("__debug__" : Str)) = false := by decide)
    (he : starEach [arg] X.env = (false, eval arg X.env) :: starEach [] X.env := by rfl) :
    SB X c W [.Assign [.Name y py] (.Subscript (.Name xJ pJ) ix p1) p2, .Return (some (.Call (.Name y p3) [arg] [] p4)) p5] (sJudge tab i fx fa) := by
  have h1 := ps_set (pos' := py) (pos := p2) hc hi hy (pe_ix (pos := p1) (ix_kdict (X := X)) (pe_glob (X := X) (pos := pJ) (v := .ref aJ) hg hm rfl hdJ) hix hpl) hs hf
  have h2 := ps_ret (pos := p5) (pe_callTab (W := W) (p := p3) (pos := p4) hr hi hv hx (pa_cons harg pa_nil he) hdb hcd he rfl)
  refine (pss_cons h1 (pss_one h2)).imp fun D σ H ⟨ρ, m, μ, E, M, p⟩ => ?_
  unfold sJudge at p
  split at p
  · rename_i hl
    refine ⟨ρ, m, μ, E, M, (PostS.thenE E p).imp fun μ1 H1 m1 u s1 M1 p1 v r1 => ?_⟩
    split at p1
    · rename_i z
      split at p1
      · rename_i F e
        obtain ⟨f, fd, ps, hn, FO, hk, hb, hF⟩ := T.fn z F e
        obtain ⟨es, n, D'⟩ := T.kd
        cases r1
        refine ⟨aJ, z, .ref f, rfl, rfl, ⟨es, n, _, D'.at_, D'.lit, hn, rfl⟩, ?_⟩
        have E1 := (E.step s1).hide i (.ref f)
        refine ⟨f, spF X.K c 1 F, fd, ps, by rw [List.getElem?_set_self (by rw [← E.len]; exact hl)], FO, hk, hb, ?_⟩
        refine ⟨ρ.set i none, m1, μ1, E1, M1, (PostS.thenE E1 p1).imp fun μ2 H2 m2 u2 s2 M2 p2 v2 r2 => ?_⟩
        refine ⟨rfl, [u2], m2, μ2, .cons r2 .nil, M2, ?_⟩
        have p3 := PostS.thenE (E1.step s2) p2
        cases q : F [u2] m2 with
        | bad => rw [q] at p3; exact p3
        | err x m3 =>
          rw [q] at p3
          exact fun μ3 H3 d s3 M3 e3 => p3 μ3 H3 d s3 M3 e3
        | ok r m3 =>
          rw [q] at p3
          exact fun μ3 H3 s3 M3 v r => p3 μ3 H3 s3 M3 μ3 H3 _ .refl M3 ((E1.step s2).step s3) v r
      · exact False.elim p1
    · exact False.elim p1
  · exact False.elim p
end
/-! ### a, b, c = x, y, z -/
def sPar3 (i j l : Nat) (f : XL) : SD := fun ρ m => thenE (f ρ m) ρ fun us m1 => match us with
  | [u, v, w] => .ok .nx (((ρ.set i (some u)).set j (some v)).set l (some w)) m1
  | _ => .bad
section
variable {X : Cx} {c : Nat → Addr} {W : WX}
theorem ss_par3 {i j l : Nat} {st : Stmt} {fl : XL} (hps : PS X st (tPar3 i j l (rdL (wX X c) W fl))) : SS X c W st (sPar3 i j l fl) :=
  hps.imp fun D σ H ⟨ρ, m, μ, E, M, p⟩ => ⟨ρ, m, μ, E, M, (PostS.thenE E p).imp fun μ1 H1 m1 us s1 M1 p1 vs r => by
    cases r with
    | nil => exact False.elim p1
    | cons r1 r =>
      cases r with
      | nil => exact False.elim p1
      | cons r2 r =>
        cases r with
        | nil => exact False.elim p1
        | cons r3 r =>
          cases r with
          | nil => exact ⟨_, _, _, rfl, p1.nx M1 ((((E.step s1).set r1).set r2).set r3)⟩
          | cons _ _ => exact False.elim p1⟩
/-- f() -/
theorem pe_callS0 {CX : CXT} {k : Nat} {f : Addr} {fd : FuncData} {ps : List Str} {sp : Sp} {E : L2.St → XK} {x : Str} {p pos : Pos} (F : FnOk X.prog X.w X.K X.mg X.base CX k f fd ps sp) (hr : Room k X.A) (hg : Gl X x) (hm : X.mg x = some (.ref f)) (hk : PySem.W.keepIn X.K (.ref f) = true) (hb : Binds X.K fd ps []) (hx : ∀ σ, PassesAt CX X σ (E σ))
    (hdb : (x == ("__debug__" : Str)) = false := by decide) : PE X (.Call (.Name x p) [] [] pos) (tCallS sp E tNil) := by
  refine ⟨fun pins s σ H Q I h => ?_⟩
  refine wpAny_Call_Name_kw (ld_glob I hg hm ?_ hdb)
  exact PySem.W.callWith_K0 I.kIn hk (run_fnS (us := []) F hr hb (hx σ) I .nil h)
theorem se_call0 {st : Expr} {F : List U → Mem → R U} (h : PE X st (tCallS (spF X.K c 0 F) (WE W) tNil)) : SE X c W st (dCall F lNil) :=
  h.imp fun σ H Q ⟨ρ, m, μ, E, M, p⟩ => by
    have p1 : Post (wX X c) W σ μ H (F [] m) _ := p
    refine ⟨rfl, [], m, μ, .nil, M, ?_⟩
    cases q : F [] m with
    | ok u m2 => rw [q] at p1; exact p1
    | err x m2 => rw [q] at p1; exact p1
    | bad => rw [q] at p1; exact p1
end
theorem u1 {k : Nat} {A : Around} (hr : Room k A) : A.units + 1 < cLine := by have := hr.un; omega
theorem tab_nil {G : Str → (List U → Mem → R U) → Prop} : ∀ z F, tabAt [] z = some F → G z F := fun _ _ h => by cases h
theorem tab_cons {G : Str → (List U → Mem → R U) → Prop} {z : Str} {F : List U → Mem → R U} {tab : TabU} (h : G z F) (t : ∀ z F, tabAt tab z = some F → G z F) : ∀ z' F', tabAt ((z, F) :: tab) z' = some F' → G z' F' := fun z' F' e => by
  by_cases hz : z = z'
  · subst hz
    have : F = F' := by simpa [tabAt] using e
    exact this ▸ h
  · exact t z' F' (by simpa [tabAt, hz] using e)
end Ev

set_option Elab.async false
set_option linter.all false
set_option maxRecDepth 100000
set_option maxHeartbeats 2000000
/-! Ev: trees (dicts from texts to tuples of ints) and texts, reckoned with by rewriting. -/
namespace Ev
open PySem PySem.Spec PyProof.Rows L2 RZ

/-! ### texts -/
theorem eqU_s {m : Mem} {x y : Str} (hx : PyData.strOk x = true) (hy : PyData.strOk y = true) : eqU m (.str x) (.str y) = some (decide (x = y)) := by
  show (if SeqAt.shaped (.str x) && SeqAt.shaped (.str y) then some (PyData.eqv (.str x) (.str y)) else none) = _
  have h1 : SeqAt.shaped (.str x) = true := by simp [SeqAt.shaped, PyData.canLay0, hx, PyData.depth]
  have h2 : SeqAt.shaped (.str y) = true := by simp [SeqAt.shaped, PyData.canLay0, hy, PyData.depth]
  rw [h1, h2]
  show some (x == y) = _
  by_cases h : x = y
  · subst h; simp
  · simp [h]
/-- texts all of which are in order -/
abbrev tS (l : List Str) : U := .tup (l.map .str)
abbrev cS (l : List Str) : Cell := .lst (l.map .str)
theorem datRL_strs (res : Nat → Option PyData) : ∀ l : List Str, datRL res (l.map .str) = some (l.map .str)
  | [] => rfl
  | i :: r => by
    show (match datR res (.str i) with | none => none | some d => (datRL res (r.map .str)).map (d :: ·)) = _
    rw [datRL_strs res r]; rfl
theorem canAll_strs : ∀ l : List Str, (∀ x ∈ l, PyData.strOk x = true) → PyData.canLayAll0 (l.map .str) = true
  | [], _ => rfl
  | i :: r, h => by
    show (PyData.strOk i && PyData.canLayAll0 (r.map .str)) = true
    rw [h i (List.mem_cons_self ..), canAll_strs r fun x hx => h x (List.mem_cons_of_mem _ hx)]; rfl
theorem depth_strs : ∀ l : List Str, PyData.depthAll (l.map .str) = 0
  | [] => rfl
  | i :: r => by simp [PyData.depthAll, PyData.depth, depth_strs r]
theorem shaped_tS {l : List Str} (h : ∀ x ∈ l, PyData.strOk x = true) : SeqAt.shaped (.tuple (l.map .str)) = true := by
  simp [SeqAt.shaped, PyData.canLay0, PyData.depth, canAll_strs l h, depth_strs]
theorem shaped_lS {l : List Str} (h : ∀ x ∈ l, PyData.strOk x = true) : SeqAt.shaped (.list (l.map .str)) = true := by
  simp [SeqAt.shaped, PyData.canLay0, PyData.depth, canAll_strs l h, depth_strs]
theorem eqvAll_strs : ∀ a b : List Str, PyData.eqvAll (a.map .str) (b.map .str) = decide (a = b)
  | [], [] => rfl
  | [], _ :: _ => rfl
  | _ :: _, [] => rfl
  | x :: a, y :: b => by
    show (PyData.eqv (.str x) (.str y) && PyData.eqvAll (a.map .str) (b.map .str)) = _
    rw [eqvAll_strs a b]
    show ((x == y) && _) = _
    by_cases h : x = y
    · subst h; simp
    · simp [h]
theorem dat_tS (m : Mem) (l : List Str) : dat m (tS l) = some (.tuple (l.map .str)) := by
  show (datRL (resM m 6) (l.map .str)).map PyData.tuple = _
  rw [datRL_strs]; rfl
theorem eqU_tS {m : Mem} {a b : List Str} (ha : ∀ x ∈ a, PyData.strOk x = true) (hb : ∀ x ∈ b, PyData.strOk x = true) : eqU m (tS a) (tS b) = some (decide (a = b)) := by
  unfold eqU
  simp only [dat_tS, shaped_tS ha, shaped_tS hb, Bool.and_true, if_true]
  show some (PyData.eqvAll (a.map .str) (b.map .str)) = _
  rw [eqvAll_strs]
theorem eqU_nn (m : Mem) : eqU m .non .non = some true := rfl
theorem eqU_nt {m : Mem} {a : List Str} (ha : ∀ x ∈ a, PyData.strOk x = true) : eqU m .non (tS a) = some false := by
  unfold eqU
  rw [show dat m .non = some .none from rfl]
  simp only [dat_tS, shaped_tS ha, show SeqAt.shaped .none = true from rfl, Bool.and_true, if_true]; rfl
theorem eqU_tn {m : Mem} {a : List Str} (ha : ∀ x ∈ a, PyData.strOk x = true) : eqU m (tS a) .non = some false := by
  unfold eqU
  rw [show dat m .non = some .none from rfl]
  simp only [dat_tS, shaped_tS ha, show SeqAt.shaped .none = true from rfl, Bool.and_true, if_true]; rfl
/-- None or a tuple of texts -/
def rsU : Option (List Str) → U
  | none => .non
  | some l => tS l
theorem eqU_rs {m : Mem} {a b : Option (List Str)} (ha : ∀ l, a = some l → ∀ x ∈ l, PyData.strOk x = true) (hb : ∀ l, b = some l → ∀ x ∈ l, PyData.strOk x = true) : eqU m (rsU a) (rsU b) = some (decide (a = b)) := by
  cases a with
  | none =>
    cases b with
    | none => rw [rsU, eqU_nn]; simp
    | some l => rw [rsU, rsU, eqU_nt (hb l rfl)]; simp
  | some k =>
    cases b with
    | none => rw [rsU, rsU, eqU_tn (ha k rfl)]; simp
    | some l => rw [rsU, rsU, eqU_tS (ha k rfl) (hb l rfl)]; simp
/-- None or a tuple of ints -/
def voU : Option (List Int) → U
  | none => .non
  | some l => tI l
theorem eqU_vo (m : Mem) (a b : Option (List Int)) : eqU m (voU a) (voU b) = some (decide (a = b)) := by
  have h1 : ∀ l : List Int, eqU m .non (tI l) = some false := fun l => by
    unfold eqU
    rw [show dat m .non = some .none from rfl]
    simp only [dat_tI, shaped_tI, show SeqAt.shaped .none = true from rfl, Bool.and_true, if_true]; rfl
  have h2 : ∀ l : List Int, eqU m (tI l) .non = some false := fun l => by
    unfold eqU
    rw [show dat m .non = some .none from rfl]
    simp only [dat_tI, shaped_tI, show SeqAt.shaped .none = true from rfl, Bool.and_true, if_true]; rfl
  cases a with
  | none =>
    cases b with
    | none => rw [voU, eqU_nn]; simp
    | some l => rw [voU, voU, h1]; simp
  | some k =>
    cases b with
    | none => rw [voU, voU, h2]; simp
    | some l => rw [voU, voU, eqU_tI]; simp
/-- x in (..) of texts -/
theorem anyEq {x : Str} (l : List Str) : ((l.map PyData.str).any fun z => PyData.eqv z (.str x)) = decide (x ∈ l) := by
  induction l with
  | nil => rfl
  | cons y r ih =>
    rw [List.map_cons, List.any_cons, ih]
    show ((y == x) || _) = _
    by_cases h : y = x
    · subst h; simp
    · have h' : ¬ x = y := fun e => h e.symm
      simp [h, h']
theorem inU_t {m : Mem} {x : Str} {l : List Str} (hx : PyData.strOk x = true) (h : ∀ x ∈ l, PyData.strOk x = true) : inU m (.str x) (tS l) = some (decide (x ∈ l)) := by
  show (match dat m (.str x), datsOf m (tS l) with
    | some d, some ds => if SeqAt.shaped d && SeqAt.shaped (.list ds) then some (ds.any fun z => PyData.eqv z d) else none
    | _, _ => none) = _
  have h1 : SeqAt.shaped (.str x) = true := by simp [SeqAt.shaped, PyData.canLay0, hx, PyData.depth]
  rw [show dat m (.str x) = some (.str x) from rfl, show datsOf m (tS l) = some (l.map .str) from datRL_strs _ l]
  simp only [h1, shaped_lS h, Bool.and_true, if_true, anyEq]
theorem txts_strs : ∀ l : List Str, txts (l.map U.str) = some l
  | [] => rfl
  | x :: r => by show (txts (r.map U.str)).map _ = _; rw [txts_strs r]; rfl
/-! ### trees -/
abbrev Tr := List (Str × List Int)
def dkU (T : Tr) : KU := T.map fun p => (.inr p.1, tI p.2)
abbrev cT (T : Tr) : Cell := .dK (dkU T)
def tget (T : Tr) (x : Str) : Option (List Int) := (T.find? fun p => decide (p.1 = x)).map (·.2)
def tput (T : Tr) (x : Str) (c : List Int) : Tr := if (T.any fun p => decide (p.1 = x)) = true then T.map (fun p => if p.1 = x then (p.1, c) else p) else T ++ [(x, c)]
def tdrop (T : Tr) (x : Str) : Tr := T.filter fun p => decide (p.1 ≠ x)
abbrev tkeys (T : Tr) : List Str := T.map (·.1)
theorem inr_eq {x y : Str} : ((Sum.inr x : Key) = Sum.inr y) = (x = y) := by simp
theorem valK_dk (T : Tr) (x : Str) : valK (dkU T) (.inr x) = (tget T x).map tI := by
  unfold valK tget dkU
  induction T with
  | nil => rfl
  | cons p r ih =>
    rw [List.map_cons, List.find?_cons, List.find?_cons]
    by_cases h : p.1 = x
    · simp [h]
    · simp only [inr_eq, h, decide_false]; exact ih
theorem any_dk (T : Tr) (x : Str) : ((dkU T).any fun kv => decide (kv.1 = .inr x)) = T.any fun p => decide (p.1 = x) := by
  unfold dkU
  induction T with
  | nil => rfl
  | cons p r ih => rw [List.map_cons, List.any_cons, List.any_cons, ih]; simp
theorem putU_dk (T : Tr) (x : Str) (c : List Int) : putU (dkU T) (.inr x) (tI c) = dkU (tput T x c) := by
  unfold putU tput
  rw [any_dk]
  split
  · unfold dkU
    rw [List.map_map, List.map_map]
    refine List.map_congr_left fun p _ => ?_
    by_cases h : p.1 = x
    · simp [h]
    · simp [h]
  · simp [dkU]
theorem dropU_dk (T : Tr) (x : Str) : dropU (dkU T) (.inr x) = dkU (tdrop T x) := by
  unfold dropU tdrop dkU
  induction T with
  | nil => rfl
  | cons p r ih =>
    rw [List.map_cons]
    by_cases h : p.1 = x
    · rw [List.filter_cons_of_neg (by simp [h]), List.filter_cons_of_neg (by simp [h])]; exact ih
    · rw [List.filter_cons_of_pos (by simp [h]), List.filter_cons_of_pos (by simp [h]), List.map_cons, ih]
theorem tget_cons (p : Str × List Int) (r : Tr) (x : Str) : tget (p :: r) x = if p.1 = x then some p.2 else tget r x := by
  unfold tget
  rw [List.find?_cons]
  by_cases h : p.1 = x
  · simp [h]
  · simp [h]
theorem tget_append (T S : Tr) (x : Str) : tget (T ++ S) x = (tget T x).or (tget S x) := by
  induction T with
  | nil => simp [tget]
  | cons p r ih =>
    rw [List.cons_append, tget_cons, tget_cons, ih]
    split <;> rfl
theorem tany (T : Tr) (x : Str) : (T.any fun p => decide (p.1 = x)) = (tget T x).isSome := by
  induction T with
  | nil => rfl
  | cons p r ih =>
    rw [List.any_cons, tget_cons, ih]
    by_cases h : p.1 = x
    · simp [h]
    · simp [h]
theorem tget_put (T : Tr) (x y : Str) (c : List Int) : tget (tput T x c) y = if y = x then some c else tget T y := by
  unfold tput
  rw [tany]
  cases e : tget T x with
  | none =>
    rw [Option.isSome_none, if_neg Bool.false_ne_true, tget_append, tget_cons]
    by_cases h : y = x
    · subst h; rw [e]; simp
    · have h' : ¬ x = y := fun z => h z.symm
      rw [if_neg h, if_neg h']
      simp [tget]
  | some d =>
    rw [Option.isSome_some, if_pos rfl]
    have : ∀ T : Tr, (tget T x).isSome = true → tget (T.map fun p => if p.1 = x then (p.1, c) else p) y = if y = x then some c else tget T y := by
      intro T
      induction T with
      | nil => intro h; cases h
      | cons p r ih =>
        intro h
        rw [List.map_cons, tget_cons, tget_cons]
        rw [tget_cons] at h
        by_cases hp : p.1 = x
        · rw [if_pos hp]
          by_cases hy : y = x
          · subst hy; rw [if_pos (by exact hp), if_pos rfl]
          · have hy' : ¬ p.1 = y := fun z => hy (z ▸ hp)
            rw [if_neg (show ¬ (p.1, c).1 = y from hy'), if_neg hy, if_neg hy']
            have same : ∀ r : Tr, tget (r.map fun p => if p.1 = x then (p.1, c) else p) y = tget r y := by
              intro r
              induction r with
              | nil => rfl
              | cons q s ih2 =>
                rw [List.map_cons, tget_cons, tget_cons, ih2]
                by_cases hq : q.1 = x
                · have : ¬ q.1 = y := fun z => hy (z ▸ hq)
                  rw [if_pos hq, if_neg (show ¬ (q.1, c).1 = y from this), if_neg this]
                · rw [if_neg hq]
            exact same r
        · rw [if_neg hp] at h ⊢
          rw [ih h]
          by_cases hpy : p.1 = y
          · have : ¬ y = x := fun z => hp (hpy.trans z)
            rw [if_pos hpy, if_neg this, if_pos hpy]
          · rw [if_neg hpy, if_neg hpy]
    exact this T (by rw [e]; rfl)
theorem tget_drop (T : Tr) (x y : Str) : tget (tdrop T x) y = if y = x then none else tget T y := by
  unfold tdrop
  induction T with
  | nil => simp [tget]
  | cons p r ih =>
    by_cases h : p.1 = x
    · rw [List.filter_cons_of_neg (by simp [h]), ih, tget_cons]
      by_cases hy : y = x
      · rw [if_pos hy, if_pos hy]
      · have : ¬ p.1 = y := fun z => hy (z ▸ h)
        rw [if_neg hy, if_neg hy, if_neg this]
    · rw [List.filter_cons_of_pos (by simp [h]), tget_cons, tget_cons, ih]
      by_cases hp : p.1 = y
      · have : ¬ y = x := fun z => h (hp.trans z)
        rw [if_pos hp, if_neg this, if_pos hp]
      · rw [if_neg hp, if_neg hp]
theorem tkeys_put_sub {T : Tr} {x : Str} {c : List Int} {k : Str} (h : k ∈ tkeys (tput T x c)) : k = x ∨ k ∈ tkeys T := by
  unfold tput at h
  split at h
  · rw [tkeys, List.map_map] at h
    obtain ⟨p, hp, rfl⟩ := List.mem_map.mp h
    refine .inr (List.mem_map.mpr ⟨p, hp, ?_⟩)
    show p.1 = (if p.1 = x then (p.1, c) else p).1
    split <;> rfl
  · rw [tkeys, List.map_append] at h
    rcases List.mem_append.mp h with h | h
    · exact .inr h
    · exact .inl (by simpa using h)
theorem tget_none {T : Tr} {x : Str} : tget T x = none ↔ x ∉ tkeys T := by
  induction T with
  | nil => simp [tget]
  | cons p r ih =>
    rw [tget_cons]
    by_cases h : p.1 = x
    · rw [if_pos h]; simp [h]
    · have h' : ¬ x = p.1 := fun z => h z.symm
      rw [if_neg h, ih]; simp [h, h']
theorem nodup_tput {T : Tr} {x : Str} {c : List Int} (h : (tkeys T).Nodup) : (tkeys (tput T x c)).Nodup := by
  unfold tput
  rw [tany]
  split
  · rw [tkeys, List.map_map]
    rw [show (((fun p : Str × List Int => p.1) ∘ fun p => if p.1 = x then (p.1, c) else p)) = fun p => p.1 from by funext p; show (if p.1 = x then (p.1, c) else p).1 = p.1; split <;> rfl]
    exact h
  · rename_i e
    rw [tkeys, List.map_append, List.nodup_append]
    refine ⟨h, by simp, fun a ha b hb e2 => ?_⟩
    have : b = x := by simpa using hb
    subst this; subst e2
    exact tget_none.mp (by cases q : tget T a with | none => rfl | some _ => rw [q] at e; exact absurd rfl e) ha
theorem nodup_tdrop {T : Tr} {x : Str} (h : (tkeys T).Nodup) : (tkeys (tdrop T x)).Nodup := (List.Sublist.map _ (List.filter_sublist)).nodup h
theorem tkeys_drop_sub {T : Tr} {x k : Str} (h : k ∈ tkeys (tdrop T x)) : k ∈ tkeys T := (List.Sublist.map _ (List.filter_sublist)).subset h
theorem tget_mem {T : Tr} {x : Str} {c : List Int} (h : tget T x = some c) : (x, c) ∈ T := by
  induction T with
  | nil => cases h
  | cons p r ih =>
    rw [tget_cons] at h
    split at h
    · rename_i e; cases h; rw [← e]; exact List.mem_cons_self ..
    · exact List.mem_cons_of_mem _ (ih h)
theorem tget_of_mem {T : Tr} (hn : (tkeys T).Nodup) {p : Str × List Int} (h : p ∈ T) : tget T p.1 = some p.2 := by
  induction T with
  | nil => cases h
  | cons q r ih =>
    have hn' := List.nodup_cons.mp hn
    rw [tget_cons]
    rcases List.mem_cons.mp h with e | h
    · rw [e, if_pos rfl]
    · have : ¬ q.1 = p.1 := fun z => hn'.1 (by show q.1 ∈ _; rw [z]; exact List.mem_map.mpr ⟨p, h, rfl⟩)
      rw [if_neg this]; exact ih hn'.2 h
theorem dk_len (T : Tr) : (dkU T).length = T.length := by simp [dkU]
theorem keysS_dk : ∀ T : Tr, keysS (dkU T) = some (tkeys T)
  | [] => rfl
  | p :: r => by
    show (keysS (dkU r)).map _ = _
    rw [keysS_dk r]; rfl
theorem keyU_dk (T : Tr) : ((dkU T).map fun kv => keyU kv.1) = (tkeys T).map U.str := by simp [dkU, keyU]
theorem len_same {T S : Tr} (hT : (tkeys T).Nodup) (hS : (tkeys S).Nodup) (h : ∀ x, tget T x = tget S x) : T.length = S.length := by
  have hp : (tkeys T).Perm (tkeys S) := (List.perm_ext_iff_of_nodup hT hS).mpr fun x => by
    have := h x
    constructor
    · intro hx
      refine Classical.byContradiction fun z => ?_
      rw [tget_none.mpr z] at this
      exact tget_none.mp this hx
    · intro hx
      refine Classical.byContradiction fun z => ?_
      rw [tget_none.mpr z] at this
      exact tget_none.mp this.symm hx
  have := hp.length_eq
  simpa using this
theorem eqKs_same {m : Mem} {S : Tr} : ∀ (T : Tr), (∀ p ∈ T, tget S p.1 = some p.2) → eqKs m (dkU S) (dkU T) = some true
  | [], _ => rfl
  | p :: r, h => by
    show (match valK (dkU S) (.inr p.1) with
      | none => some false
      | some v => match eqU m (tI p.2) v, eqKs m (dkU S) (dkU r) with
        | some a, some b => some (a && b)
        | _, _ => none) = _
    rw [valK_dk, h p (List.mem_cons_self ..), eqKs_same r fun q hq => h q (List.mem_cons_of_mem _ hq)]
    show (match eqU m (tI p.2) (tI p.2), some true with | some a, some b => some (a && b) | _, _ => none) = _
    rw [eqU_tI]; simp
theorem eqDD_same {m : Mem} {u v : U} {T S : Tr} (hu : dcells m u = some (dkU T)) (hv : dcells m v = some (dkU S)) (hT : (tkeys T).Nodup) (hS : (tkeys S).Nodup) (h : ∀ x, tget T x = tget S x) : eqDD m u v = some true := by
  unfold eqDD
  simp only [hu, hv, dk_len, len_same hT hS h, if_true]
  exact eqKs_same T fun p hp => (h p.1) ▸ tget_of_mem hT hp
theorem eqDD_nil {m : Mem} {u v : U} {T : Tr} (hu : dcells m u = some (dkU T)) (hv : dcells m v = some []) : eqDD m u v = some (decide (T = [])) := by
  unfold eqDD
  simp only [hu, hv, dk_len, List.length_nil]
  cases T with
  | nil => rfl
  | cons p r => simp
/-! ### the rules -/
theorem dc_K {m : Mem} {n : Nat} {kvs : KU} (h : m[n]? = some (.dK kvs)) : dcells m (.ref n) = some kvs := by unfold dcells; simp only [h]
theorem dc_F {m : Mem} {n : Nat} {kvs : KU} (h : m[n]? = some (.dF kvs)) : dcells m (.ref n) = some kvs := by unfold dcells; simp only [h]
theorem evD :
    (∀ u x m, oDGet u (.str x) m = match dcells m u with | some kvs => (match valK kvs (.inr x) with | some z => some (z, m) | none => none) | none => none) ∧
    (∀ neg u x m, oDIn neg (.str x) u m = match dcells m u with | some kvs => some (.bl (neg ^^ (valK kvs (.inr x)).isSome), m) | none => none) ∧
    (∀ o x v m, oSetD o (.str x) v m = match dcell m o with | some (n, kvs) => if kvs.length < sizeLine then some ((), m.set n (.dK (putU kvs (.inr x) v))) else none | none => none) ∧
    (∀ n m, dcells m (.ref n) = match m[n]? with | some (.dK kvs) => some kvs | some (.dF kvs) => some kvs | _ => none) ∧
    (∀ n m, dcell m (.ref n) = match m[n]? with | some (.dK kvs) => some (n, kvs) | _ => none) ∧
    (∀ u m, oDictD [u] m = match dcells m u with | some kvs => some (.ref m.length, m ++ [.dK kvs]) | none => none) ∧
    (∀ u m, oListD [u] m = match dcells m u with | some kvs => some (.ref m.length, m ++ [.lst (kvs.map fun kv => keyU kv.1)]) | none => none) ∧
    (∀ u v m, oEqD u v m = match eqDD m u v with | some b => some (.bl b, m) | none => none) ∧
    (∀ u v m, oNeD u v m = match eqDD m u v with | some b => some (.bl (!b), m) | none => none) ∧
    (∀ ρ m, dDNew ρ m = .ok (.ref m.length) (m ++ [.dK []])) ∧
    (∀ us m, oIsN (.tup us) .non m = some (.bl false, m)) ∧ (∀ m, oIsN .non .non m = some (.bl true, m)) ∧
    (∀ us m, oNotN (.tup us) .non m = some (.bl true, m)) ∧ (∀ m, oNotN .non .non m = some (.bl false, m)) ∧
    (∀ m x T, isTy m T (.str x) = some (match T with | .str => true | _ => false)) ∧
    (∀ x m, oLen [.str x] m = if x.length ≤ sizeLine then some (.int x.length, m) else none) ∧
    (∀ i j l f ρ m, sPar3 i j l f ρ m = thenE (f ρ m) ρ fun us m1 => match us with | [u, v, w] => .ok .nx (((ρ.set i (some u)).set j (some v)).set l (some w)) m1 | _ => .bad) ∧
    (∀ x y m, oIn x y m = match inU m x y with | some b => some (.bl b, m) | none => none) ∧
    (∀ x y m, oNotIn x y m = match inU m x y with | some b => some (.bl (!b), m) | none => none) := by
  refine ⟨fun u x m => ?_, fun neg u x m => ?_, fun o x v m => ?_, fun n m => rfl, fun n m => rfl, fun u m => rfl, fun u m => rfl, fun u v m => ?_, fun u v m => ?_, fun _ _ => rfl, fun _ _ => rfl, fun _ => rfl, fun _ _ => rfl, fun _ => rfl, fun m x T => by cases T <;> rfl, fun _ _ => rfl, fun _ _ _ _ _ _ => rfl, fun x y m => ?_, fun x y m => ?_⟩
  · show (match dcells m u, some (Sum.inr x : Key) with | some kvs, some key => (valK kvs key).map fun z => (z, m) | _, _ => none) = _
    cases dcells m u with
    | none => rfl
    | some kvs =>
      show (valK kvs (.inr x)).map (fun z => (z, m)) = (match valK kvs (.inr x) with | some z => some (z, m) | none => none)
      cases valK kvs (.inr x) <;> rfl
  · show (match dcells m u, some (Sum.inr x : Key) with | some kvs, some key => some (U.bl (neg ^^ (valK kvs key).isSome), m) | _, _ => none) = _
    cases dcells m u <;> rfl
  · show (match dcell m o, some (Sum.inr x : Key) with | some (n, kvs), some key => if kvs.length < sizeLine then some ((), m.set n (.dK (putU kvs key v))) else none | _, _ => none) = _
    cases dcell m o with
    | none => rfl
    | some z => obtain ⟨n, kvs⟩ := z; rfl
  · unfold oEqD; cases eqDD m u v <;> rfl
  · unfold oNeD; cases eqDD m u v <;> rfl
  · unfold oIn; cases inU m x y <;> rfl
  · unfold oNotIn; cases inU m x y <;> rfl
end Ev

set_option Elab.async false
set_option linter.all false
set_option maxRecDepth 100000
set_option maxHeartbeats 2000000
/-! Ev: text.index, list(text), repr(x) in texts, a dict in a tuple of tuples, sorted pairs. -/
namespace Ev
open PySem PySem.Spec PyProof.Rows L2 RZ

/-! ### text.index -/
def oSindex : U → List U → Mem → O U
  | .str a, [.str b], m => match Builtin.Str.occurrences a b 0 a.length 1 with
    | i :: _ => some (.int (i : Nat), m)
    | [] => none
  | _, _, _ => none
section
variable {X : Cx}
theorem m_sindex : MtR X "str.index" (rdM X.K oSindex) := by
  intro pins s σ H x xs v us Q I rx rxs q
  obtain ⟨u, ws, m, μ, r, rs, M, p⟩ := q
  unfold oSindex at p
  split at p
  · obtain ⟨y, rfl, ry⟩ := rs.one
    cases r.s; cases ry.s
    split at p
    · rename_i i rest e
      exact mt_sindex pins s σ H _ _ v us Q I rx rxs ⟨_, _, i, rest, rfl, rfl, e, p.val M (.int _)⟩
    · exact no_op p
  · exact no_op p
end

/-! ### list(text) -/
def signsU (x : Str) : List U := x.cps.toList.map fun c => .str ⟨#[c]⟩
def oListS : List U → Mem → O U
  | [.str x], m => if x.cps.size ≤ 1000 then some (.ref m.length, m ++ [.lst (signsU x)]) else none
  | _, _ => none
section
variable {X : Cx}
theorem call_listS (hc : X.calm = true) : CallR X (.type "list") (fun xs H Q => ∃ x : Str, xs = [V.str x] ∧ x.cps.size ≤ 1000 ∧ ∀ p, H p = none → Q (.ref p) (upd H p (.lst (x.cps.toList.map fun c => V.str ⟨#[c]⟩)))) := by
  intro pins s σ H xs us Q I r h
  obtain ⟨x, rfl, hz, q⟩ := h
  obtain ⟨u, rfl, t, rfl⟩ := vals1 r
  have hsz : x.cps.size ≤ sizeLine := by rw [sizeLine_eq]; omega
  refine call_list_str (hn := hsz) (I.ok.hd hc) x t fun h' tk acc c' hk e' ha => ?_
  have hl : acc.toList.length = x.cps.size := by rw [Array.length_toList]; exact ha.1
  refine ⟨.ref s.heap.objs.size, upd H s.heap.objs.size (.lst (x.cps.toList.map fun c => V.str ⟨#[c]⟩)), I.laid hk (Nat.le_refl _) (show ObjOk X.prog X.w _ _ _ (.lst _) from ⟨?_, acc.toList, c', ?_, ?_⟩), rfl, q _ (I.hok.fresh (Nat.le_refl _))⟩
  · rw [List.length_map, Array.length_toList]; exact hsz
  · refine vals_of_at (by rw [List.length_map, Array.length_toList, hl]) fun j y w h1 h2 => ?_
    obtain ⟨c, u, hc', rfl⟩ := ha.2 j w (by rw [← Array.getElem?_toList]; exact h2)
    rw [List.getElem?_map, Array.getElem?_toList, hc'] at h1
    cases h1
    exact ⟨u, rfl⟩
  · rw [Array.toArray_toList]; exact e'
theorem signs_ru {K : PySem.W.Frag} {H : Hp} {μ : List Addr} : ∀ l : List Nat, RUs K H μ (l.map fun c => U.str ⟨#[c]⟩) (l.map fun c => V.str ⟨#[c]⟩)
  | [] => .nil
  | c :: l => .cons (.str _) (signs_ru l)
theorem b_listS (hc : X.calm = true) : CallR X (.type "list") (rdC X.K oListS) := by
  intro pins s σ H xs us Q I rx h
  obtain ⟨vs, m, μ, r, M, p⟩ := h
  unfold oListS at p
  split at p
  · split at p
    · rename_i hz
      obtain ⟨v, rfl, r1⟩ := r.one
      cases r1.s
      exact call_listS hc pins s σ H _ us Q I rx ⟨_, rfl, hz, fun p' hp => p.lst M (signs_ru _) hp⟩
    · exact no_op p
  · exact no_op p
end

/-! ### sep.join(texts) -/
def oJoin : U → List U → Mem → O U
  | .str a, [u], m => match itemsOf m u with
    | some us => match txts us with
      | some ys => if (ys.map (·.length)).sum + ys.length * a.length ≤ 16777216 then some (.str (Txt.join a ys), m) else none
      | none => none
    | none => none
  | _, _, _ => none
section
variable {X : Cx}
theorem m_join : MtR X "str.join" (rdM X.K oJoin) := by
  intro pins s σ H x xs v us Q I rx rxs q
  obtain ⟨u, ws, m, μ, r, rs, M, p⟩ := q
  unfold oJoin at p
  split at p
  · split at p
    · rename_i us1 e
      split at p
      · rename_i ys e2
        split at p
        · rename_i hz
          obtain ⟨y, rfl, ry⟩ := rs.one
          cases r.s
          obtain ⟨b, zs, rfl, hq, t, h1, h2⟩ := items_ok M ry e
          cases txts_ok t e2
          exact mt_join pins s σ H _ _ v us Q I rx rxs ⟨_, b, ys, rfl, rfl, hq, hz, p.val M (.str _)⟩
        · exact no_op p
      · exact no_op p
    · exact no_op p
  · exact no_op p
end

/-! ### a dict in a tuple of tuples -/
def allTup : List U → Bool
  | [] => true
  | .tup _ :: r => allTup r
  | _ :: _ => false
def oInX : U → U → Mem → O U := fun x y m => match dcells m x with
  | some _ => match y with
    | .tup us => if allTup us then some (.bl false, m) else none
    | _ => none
  | none => oIn x y m
theorem tuple_eq_declines_dict (l b : Addr) (items : Array Value) (n : Nat) (es : Array DictEntry) (n2 : Nat) (dd dd2 : Option Addr) (sl sl2 : Array (Option Value)) :
    Meets (Builtin.«tuple.__eq__» ⟨[.ref l, .ref b], []⟩) (fun _ R s => s.heap.get? l = some { cls := .type "tuple", dict := dd, data := .seq items n, slots := sl } ∧ s.heap.get? b = some { cls := .type "dict", dict := dd2, data := .dict es n2, slots := sl2 } ∧ R (.ok (.ret .notImplemented)) s) :=
  .of_wp fun prog w A R s h => by obtain ⟨hp, g, d, tk, os⟩ := s; obtain ⟨hl, hb, h⟩ := h; have f1 := F.sub_dict_tuple; wp_walk using AutoSeq1.wpAny_loadPart' hl, AutoSeq1.wpAny_loadPart' hb; exact ⟨_, rfl, h⟩
theorem dict_eq_declines_tuple (l b : Addr) (items : Array Value) (n : Nat) (es : Array DictEntry) (n2 : Nat) (dd dd2 : Option Addr) (sl sl2 : Array (Option Value)) :
    Meets (Builtin.«dict.__eq__» ⟨[.ref b, .ref l], []⟩) (fun _ R s => s.heap.get? b = some { cls := .type "dict", dict := dd2, data := .dict es n2, slots := sl2 } ∧ s.heap.get? l = some { cls := .type "tuple", dict := dd, data := .seq items n, slots := sl } ∧ R (.ok (.ret .notImplemented)) s) :=
  .of_wp fun prog w A R s h => by obtain ⟨hp, g, d, tk, os⟩ := s; obtain ⟨hl, hb, h⟩ := h; have f1 := F.sub_tuple_dict; wp_walk using AutoSeq1.wpAny_loadPart' hl, AutoSeq1.wpAny_loadPart' hb; exact ⟨_, rfl, h⟩
theorem eqAt_tuple_dict {A : Around} {s : Shared} {l b : Addr} {items : Array Value} {ob : Obj} {es : Array DictEntry} {n2 : Nat} (hl : s.heap.IsTuple l items) (hb : s.heap.get? b = some ob) (hbc : ob.cls = .type "dict") (hbd : ob.data = .dict es n2) (hu : A.units < cLine) : SeqAt.EqAt A s (.ref l) (.ref b) false := by
  obtain ⟨⟨cls, dd, data, sl⟩, ho, hc, n, hd⟩ := id hl
  obtain ⟨cls2, dd2, data2, sl2⟩ := ob
  simp only at hc hd hbc hbd
  subst hc hd hbc hbd
  have hne : l ≠ b := fun e => by
    rw [e, hb] at ho
    have := congrArg (fun o => (o.map Obj.cls)) ho
    simp at this
  refine SeqAt.EqAt.of_refs hne fun prog w E Q h => ?_
  exact (SeqAt.rc_eq_decline_or (k := false) ⟨_, ho, rfl⟩ ⟨_, hb, rfl⟩ (by decide) F.sub_dict_tuple F.slot_tuple_eq PySem.F.slot_dict_eq
    (fun _ hq => call_meets F.slot_tuple_eq ⟨_, ho, rfl⟩ F.entry_tuple_eq (F.args_tuple_eq_2 _ _) (tuple_eq_declines_dict l b items n es n2 dd dd2 sl sl2) ⟨ho, hb, hq⟩)
    (fun _ hq => call_meets PySem.F.slot_dict_eq ⟨_, hb, rfl⟩ PySem.F.entry_dict_eq (PySem.F.args_dict_eq_2 _ _) (dict_eq_declines_tuple l b items n es n2 dd dd2 sl sl2) ⟨hb, ho, hq⟩)
    (fun _ hq => SeqAt.wpAny_isSame_ref_other' hne ho hb (by simp) hq) (.inr hu) h)
section
variable {X : Cx}
theorem allTup_ok {K : PySem.W.Frag} {H : Hp} {μ : List Addr} : ∀ {us : List U} {vs : List V}, RUs K H μ us vs → allTup us = true → ∀ v ∈ vs, ∃ a xs, v = .ref a ∧ SqT K H a xs
  | [], _, .nil, _, v, hv => by cases hv
  | u :: us, _, .cons r t, h, v, hv => by
    cases u with
    | tup ws =>
      rcases List.mem_cons.mp hv with e | hv
      · subst e
        cases r with
        | tup h1 h2 => exact ⟨_, _, rfl, h1⟩
      · exact allTup_ok t h v hv
    | _ => cases h
theorem vals_mem {vs : List V} {us : List Value} (r : Vals vs us) : ∀ u ∈ us, ∃ v ∈ vs, RelV v u := by
  induction r with
  | nil => intro u h; cases h
  | cons h t ih =>
    intro u hu
    rcases List.mem_cons.mp hu with e | hu
    · subst e; exact ⟨_, List.mem_cons_self, h⟩
    · obtain ⟨v, h1, h2⟩ := ih u hu; exact ⟨v, List.mem_cons_of_mem _ h1, h2⟩
theorem x_inX (hu : X.A.units + 65 < cLine) : OpR X (compareOp .In) (rd2 X.K oInX) := by
  intro pins s σ H x y v u Q I rx ry h
  obtain ⟨u1, u2, m, μ, r1, r2, M, p⟩ := h
  unfold oInX at p
  split at p
  · rename_i kvs e
    split at p
    · rename_i us
      split at p
      · rename_i ht
        obtain ⟨b, ks', rfl, hb, tk⟩ := dc_ok M r1 e
        obtain ⟨_, yb, vb, rb, ob, es, ep, hob, hex, hdat, _⟩ := dk_rd I.hok hb
        cases r2 with
        | @tup a vs _ hq t =>
          obtain rfl : v = Value.ref b := rx
          obtain rfl : u = Value.ref a := ry
          obtain ⟨its, rv, hl, hz⟩ := I.tuple hq
          refine SeqAt.in_tupleAt (fun _ => false) hl (fun y hy => ?_) ?_
          · obtain ⟨w, hw, rw'⟩ := vals_mem rv y (by simpa using hy)
            obtain ⟨c, zs, rfl, hc⟩ := allTup_ok t ht w hw
            obtain rfl : y = Value.ref c := rw'
            obtain ⟨its2, rv2, hl2, hz2⟩ := I.tuple hc
            exact eqAt_tuple_dict hl2 hob hex.1 hdat (by show X.A.units + 1 < cLine; omega)
          · have : (its.toArray.any fun _ => false) = false := by simp
            rw [this]
            exact ⟨.bl _, H, I, rfl, p.val M (.bl _)⟩
      · exact no_op p
    · exact no_op p
  · exact x_in hu pins s σ H x y v u Q I rx ry ⟨u1, u2, m, μ, r1, r2, M, p⟩
end
/-! ### repr(x) in texts -/
def rI (i : Int) : Str := ((toString i : String) : Str)
inductive Reps (K : PySem.W.Frag) (H : Hp) : V → List Str → Prop
  | int {i : Int} : i.natAbs.log2 < 1920 → Reps K H (.int i) [rI i]
  | bl (b : Bool) : Reps K H (.bl b) [((if b then "True" else "False" : String) : Str)]
  | non : Reps K H .non [("None" : Str)]
  | str {x : Str} : (reprText x).length ≤ sizeLine → Reps K H (.str x) [reprText x]
  | tup {a : Addr} {is : List Int} : SqT K H a (is.map V.int) → (∀ i ∈ is, i.natAbs.log2 < 1920) → (tupleText (is.map rI)).length ≤ sizeLine → Reps K H (.ref a) [tupleText (is.map rI), ("(...)" : Str)]
def repsU : U → Option (List Str)
  | .int i => if i.natAbs.log2 < 1920 then some [rI i] else none
  | .bl b => some [((if b then "True" else "False" : String) : Str)]
  | .non => some [("None" : Str)]
  | .str x => if (reprText x).length ≤ sizeLine then some [reprText x] else none
  | .tup us => match nums us with
    | some is => if (is.all fun i => decide (i.natAbs.log2 < 1920)) && decide ((tupleText (is.map rI)).length ≤ sizeLine) then some [tupleText (is.map rI), ("(...)" : Str)] else none
    | none => none
  | _ => none
theorem nums_vals {K : PySem.W.Frag} {H : Hp} {μ : List Addr} : ∀ {us : List U} {vs : List V} {is : List Int}, RUs K H μ us vs → nums us = some is → vs = is.map V.int
  | [], _, _, .nil, h => by cases h; rfl
  | u :: us, _, is, .cons r t, h => by
    cases u with
    | int i =>
      rw [nums] at h
      cases e : nums us with
      | none => rw [e] at h; cases h
      | some js =>
        rw [e] at h
        cases h
        cases r
        rw [nums_vals t e]; rfl
    | _ => cases h
theorem reps_ok {K : PySem.W.Frag} {H : Hp} {μ : List Addr} {u : U} {v : V} {l : List Str} (r : RU K H μ u v) (h : repsU u = some l) : Reps K H v l := by
  cases u with
  | int i => cases r; simp only [repsU] at h; split at h <;> cases h; exact .int (by assumption)
  | bl b => cases r; cases h; exact .bl b
  | non => cases r; cases h; exact .non
  | str x => cases r.s; simp only [repsU] at h; split at h <;> cases h; exact .str (by assumption)
  | tup us =>
    cases r with
    | tup h1 t =>
      simp only [repsU] at h
      split at h
      · rename_i is e
        split at h
        · rename_i hz
          cases h
          rw [Bool.and_eq_true] at hz
          cases nums_vals t e
          exact .tup h1 (fun i hi => of_decide_eq_true (List.all_eq_true.mp hz.1 i hi)) (of_decide_eq_true hz.2)
        · cases h
      · cases h
  | _ => cases h
theorem repr_ints {prog : Program} {w : World} : ∀ {l : List Int} {its : List Value}, Vals (l.map V.int) its → (∀ i ∈ l, i.natAbs.log2 < 1920) → ReprAll prog w its (l.map rI)
  | [], _, r, _ => by cases r; exact .nil
  | i :: l, _, r, h => by
    cases r with
    | cons r1 r2 =>
      obtain ⟨t, rfl⟩ := r1
      exact .cons (ReprIs.int t (h i List.mem_cons_self)) (repr_ints r2 fun z hz => h z (List.mem_cons_of_mem _ hz))
theorem tuple_reprs {prog : Program} {w : World} {A : Around} {E : Value → Shared → Prop} {s : Shared} {a : Addr} {o : Obj} {items : Array Value} {n : Nat} {ts : List Str} {Q : Value → Shared → Prop} (ha : s.heap.get? a = some o) (hc : o.cls = .type "tuple") (hd : o.data = .seq items n) (hT : ReprAll prog w items.toList ts) (hsz : (tupleText ts).length ≤ sizeLine)
    (h1 : ∀ u tk, Q (.str (tupleText ts) u) { s with toks := tk }) (h2 : ∀ u tk, Q (.str ("(...)" : Str) u) { s with toks := tk }) : wpAny (model prog w) A (call (.builtin "tuple.__repr__") [.ref a]) Q E s := by
  refine wpAny_call (codeAny_call_builtin_own (Code.quiet_builtin _ (by decide +kernel)) F.entry_tuple_repr (F.slot_tuple_repr.check _ _ _ _ _ _ _ _ ⟨o, ha, hc⟩ (F.args_tuple_repr_1 _) (wpOwn_of_wpAny ?_)))
  show wpAny _ _ (Builtin.tupleReprAt 0 ⟨[.ref a], []⟩) _ _ s
  rw [tuple_repr_tree]
  refine wpAny_bind (fmt_underWay fun b => ?_)
  cases b with
  | true =>
    refine PySem.W.KFB.if_so rfl ?_
    refine wpAny_bind (wpAny_rule ?_)
    refine wpAny_bind (wpAny_mkStr (wpAny_pure ?_) (by decide +kernel))
    exact h2 _ _
  | false =>
    refine PySem.W.KFB.if_not rfl ?_
    exact wpAny_tupleReprRest ha hd hT (fun u tk => h1 u tk) (by omega)
section
variable {X : Cx}
def rReprs (K : PySem.W.Frag) : List V → Hp → VK → Prop := fun xs H Q => ∃ x l, xs = [x] ∧ Reps K H x l ∧ ∀ t ∈ l, Q (.str t) H
theorem call_reprs (hu : X.A.units + 64 < cLine) : CallR X (.builtin "repr") (rReprs X.K) := by
  intro pins s σ H xs us Q I r h
  obtain ⟨x, l, rfl, hr, q⟩ := h
  obtain ⟨u, rfl, rx⟩ := vals1 r
  cases hr with
  | int hz => obtain ⟨t, rfl⟩ := rx; exact PySem.P.repr_of_int hz ⟨.str _, H, I.tok _, ⟨_, rfl⟩, q _ List.mem_cons_self⟩
  | bl b => cases (show u = _ from rx); exact PySem.P.repr_of_bool ⟨.str _, H, I.tok _, ⟨_, rfl⟩, q _ (by cases b <;> exact List.mem_cons_self)⟩
  | non => cases (show u = _ from rx); exact PySem.P.repr_of_none ⟨.str _, H, I.tok _, ⟨_, rfl⟩, q _ List.mem_cons_self⟩
  | str hz => obtain ⟨t, rfl⟩ := rx; exact PySem.P.repr_of_str ⟨.str _, H, I.tok _, ⟨_, rfl⟩, q _ List.mem_cons_self⟩ hz
  | @tup a is ht hi hz =>
    cases (show u = _ from rx)
    obtain ⟨its, rv, ⟨o, ho, hcl, n, hd⟩, _⟩ := I.tuple ht
    refine call_repr_slot (by omega) ⟨o, ho, hcl⟩ F.slot_tuple_repr (tuple_reprs (ts := is.map rI) ho hcl hd (by simpa using repr_ints rv hi) hz (fun u tk => ?_) fun u tk => ?_)
    · exact ⟨_, _, rfl, .str _, H, I.tok _, ⟨_, rfl⟩, q _ List.mem_cons_self⟩
    · exact ⟨_, _, rfl, .str _, H, I.tok _, ⟨_, rfl⟩, q _ (by simp)⟩
def allIn (m : Mem) (v : U) : List Str → Option Bool
  | [] => none
  | [t] => inU m (.str t) v
  | t :: r => match inU m (.str t) v, allIn m v r with
    | some a, some b => if a = b then some a else none
    | _, _ => none
theorem allIn_at {m : Mem} {v : U} : ∀ {l : List Str} {b : Bool}, allIn m v l = some b → ∀ t ∈ l, inU m (.str t) v = some b
  | [], _, h => by cases h
  | [t], b, h => fun z hz => by cases List.mem_singleton.mp hz; exact h
  | t :: t2 :: r, b, h => fun z hz => by
    unfold allIn at h
    split at h
    · rename_i a c h1 h2
      split at h
      · rename_i e
        cases h
        subst e
        rcases List.mem_cons.mp hz with e | hz
        · rw [e]; exact h1
        · exact allIn_at h2 z hz
      · cases h
    · cases h
def dReprIn (fr : XL) (fb : XD) : XD := fun ρ m => (fr ρ m).bind fun us m1 => match us with
  | [u] => match repsU u with
    | some l => (fb ρ m1).bind fun v m2 => match allIn m2 v l with
      | some b => .ok (.bl b) m2
      | none => .bad
    | none => .bad
  | _ => .bad
theorem se_reprIn {c : Nat → Addr} {W : WX} {st b : Expr} {pos : Pos} {fr : XL} {fb : XD} (h : PE X st (tCB (rReprs X.K) (rdL (wX X c) W fr))) (hb : SE X c W b fb) (hu : X.A.units + 65 < cLine) (hm : behindInMarks .In b = false) : SE X c W (.Compare st [.In] [b] pos) (dReprIn fr fb) :=
  (pe_cmpR (x_in hu) h hb hm).imp fun σ H Q ⟨ρ, m, μ, E, M, p⟩ => ⟨ρ, m, μ, E, M, p.bind.imp fun μ1 H1 m1 us s1 M1 p1 vs rs => by
    split at p1
    · rename_i u
      split at p1
      · rename_i l e
        obtain ⟨x, rfl, r1⟩ := rs.one
        refine ⟨x, l, rfl, reps_ok r1 e, fun t ht => ?_⟩
        exact ⟨ρ, m1, μ1, E.step s1, M1, p1.bind.imp fun μ2 H2 m2 v s2 M2 p2 y ry => by
          split at p2
          · rename_i k e2
            refine ⟨.str t, v, m2, μ2, .str t, ry, M2, ?_⟩
            unfold oIn
            rw [allIn_at e2 t ht]
            exact Post.o (o := some (U.bl k, m2)) p2
          · exact False.elim p2⟩
      · exact False.elim p1
    · exact False.elim p1⟩
end
/-! ### sorted pairs of ints -/
def pU (p : Int × Int) : U := .tup [.int p.1, .int p.2]
def pD (p : Int × Int) : PyData := .tuple [.int p.1, .int p.2]
def leP (p q : Int × Int) : Bool := decide (p.1 < q.1 ∨ (p.1 = q.1 ∧ p.2 ≤ q.2))
def pairsU : List U → Option (List (Int × Int))
  | [] => some []
  | .tup [.int a, .int b] :: r => (pairsU r).map ((a, b) :: ·)
  | _ :: _ => none
theorem pairsU_ok : ∀ {us : List U} {ps : List (Int × Int)}, pairsU us = some ps → us = ps.map pU
  | [], ps, h => by cases h; rfl
  | u :: r, ps, h => by
    unfold pairsU at h
    split at h
    · rename_i e; cases e
    · rename_i a b r' e
      cases e
      cases e2 : pairsU r with
      | none => rw [e2] at h; cases h
      | some qs => rw [e2] at h; cases h; rw [pairsU_ok e2]; rfl
    · cases h
def oSortedP : List U → Mem → O U
  | [.ref n], m => match itemsOf m (.ref n) with
    | some us => match pairsU us with
      | some ps => some (.ref m.length, m ++ [.lst ((ps.mergeSort leP).map pU)])
      | none => none
    | none => none
  | _, _ => none
def sortD (bs : List (V × PyData)) : List V := (bs.mergeSort (PySem.W.dataLe false Prod.snd)).map Prod.fst
theorem each_vals : ∀ {bs : List (V × PyData)} {its : List Value}, Vals (bs.map Prod.fst) its → PySem.W.EachIs (fun v (b : V × PyData) => RelV b.1 v) its bs
  | [], _, h => by cases h; exact .nil
  | b :: r, _, h => by
    cases h with
    | cons h1 h2 => exact .cons h1 (each_vals h2)
theorem vals_each : ∀ {bs : List (V × PyData)} {its : List Value}, PySem.W.EachIs (fun v (b : V × PyData) => RelV b.1 v) its bs → Vals (bs.map Prod.fst) its
  | _, _, .nil => .nil
  | _, _, .cons h t => .cons h (vals_each t)
theorem leP_data (v w : V) (p q : Int × Int) : PySem.W.dataLe false Prod.snd (v, pD p) (w, pD q) = leP p q := by
  obtain ⟨a, b⟩ := p
  obtain ⟨c, d⟩ := q
  show (!lexLt itemOrd [.inl 1, .inl c, .inl 1, .inl d, .inl 0] [.inl 1, .inl a, .inl 1, .inl b, .inl 0]) = _
  simp only [PyProof.Rows.lexLt, itemLt, leP]
  by_cases h1 : c < a
  · have : ¬ (a < c ∨ a = c ∧ b ≤ d) := by omega
    simp [h1, this]
  · by_cases h2 : a < c
    · simp [h1, h2]
    · obtain rfl : a = c := by omega
      by_cases h3 : d < b
      · have : ¬ (b ≤ d) := by omega
        simp [h3, this]
      · have h4 : b ≤ d := by omega
        simp [h3, h4]
section
variable {X : Cx}
theorem call_sortedD {X : Cx} (hu : X.A.units + 64 < cLine) : CallR X (.builtin "sorted") (fun vs H Q => ∃ (a : Addr) (bs : List (V × PyData)), vs = [V.ref a] ∧ SqL X.K H a (bs.map Prod.fst) ∧ (∀ b ∈ bs, Dp X.K H b.1 b.2) ∧ PySem.W.AllAlike (bs.map Prod.snd) ∧ PySem.W.Sortable (bs.map Prod.snd) ∧
    (∀ b ∈ bs, b.2.depth ≤ 60) ∧ ∀ p, H p = none → Q (.ref p) (upd H p (.lst (sortD bs)))) := by
  intro pins s σ H vs us Q I r h
  obtain ⟨a, bs, rfl, hs, hd, hal, hk, hdep, q⟩ := h
  obtain ⟨its, rv, hl, hz⟩ := I.list hs
  rw [Vals.ref1 r]
  have e1 := each_vals rv
  have e2 : ∀ {cs : List (V × PyData)} {jts : List Value}, (∀ b ∈ cs, Dp X.K H b.1 b.2) → PySem.W.EachIs (fun v (b : V × PyData) => RelV b.1 v) jts cs → PySem.W.EachIs (fun v (b : V × PyData) => ∃ as, PySem.Reads s.heap v b.2 as) jts cs := by
    intro cs jts hc e
    induction e with
    | nil => exact .nil
    | @cons v b as bs' h1 t ih => exact .cons (Dp.reads I b.2 b.1 v (hc b (by simp)) h1) (ih fun b hb => hc b (List.mem_cons_of_mem _ hb))
  have hlen : bs.length ≤ sizeLine := by rw [List.length_map] at hz; exact hz
  refine PySem.W.sorted_data hl.isList e1 (e2 hd e1) hal hk hlen (fun b hb => by have := hdep b hb; omega) fun out h1 h2 => ?_
  obtain ⟨ep, he'⟩ := PyProof.Rows.sortedAll_at s.heap its out.toArray
  have hv := vals_each h2
  have hlen' : (sortD bs).length ≤ sizeLine := by
    unfold sortD
    rw [List.length_map, List.length_mergeSort]
    exact hlen
  exact ⟨.ref _, upd H (s.heap.objs.size + 1) (.lst (sortD bs)), I.laid (t' := s.toks) (fun _ _ => PyProof.Rows.sortedAll_old) (Nat.le_succ _) ⟨hlen', out, ep, hv, he'⟩, rfl, q _ (I.hok.fresh (Nat.le_succ _))⟩
theorem b_sortedP (hu : X.A.units + 64 < cLine) : CallR X (.builtin "sorted") (rdC X.K oSortedP) := by
  intro pins s σ H xs us Q I rx h
  obtain ⟨vs, m, μ, r, M, p⟩ := h
  unfold oSortedP at p
  split at p
  · rename_i n
    split at p
    · rename_i us1 e
      split at p
      · rename_i ps e2
        obtain ⟨v, rfl, r1⟩ := r.one
        obtain ⟨a, ws, rfl, hq, t, h1, h2⟩ := items_ok M r1 e
        have eu := pairsU_ok e2
        subst eu
        -- the triples
        have hlen : ps.length = ws.length := by have := t.length; simpa using this
        have hz : ∀ q ∈ ps.zip ws, RU X.K H μ (pU q.1) q.2 := by
          have key : ∀ (ps : List (Int × Int)) (ws : List V), RUs X.K H μ (ps.map pU) ws → ∀ q ∈ ps.zip ws, RU X.K H μ (pU q.1) q.2 := by
            intro ps
            induction ps with
            | nil => intro ws _ q hq; simp at hq
            | cons x ps ih =>
              intro ws t q hq
              cases t with
              | cons r t =>
                rcases List.mem_cons.mp hq with e | hq
                · subst e; exact r
                · exact ih _ t q hq
          exact key ps ws t
        have hf1 : (ps.zip ws).map Prod.fst = ps := List.map_fst_zip (by omega)
        have hf2 : (ps.zip ws).map Prod.snd = ws := List.map_snd_zip (by omega)
        refine call_sortedD hu pins s σ H _ us Q I rx ⟨a, (ps.zip ws).map fun q => (q.2, pD q.1), rfl, ?_, ?_, ?_, ?_, ?_, fun b hb => ?_⟩
        · rw [List.map_map, show (Prod.fst ∘ fun q : (Int × Int) × V => (q.2, pD q.1)) = Prod.snd from rfl, hf2]
          exact h2 rfl
        · intro b hb
          obtain ⟨q, hq, rfl⟩ := List.mem_map.mp hb
          have := hz q hq
          show Dp X.K H q.2 (pD q.1)
          generalize q.2 = w at this
          cases this with
          | tup hs t => 
            cases t with
            | cons r1 t =>
              cases t with
              | cons r2 t =>
                cases t
                cases r1.i; cases r2.i
                exact .tup hs (.cons (.int _) (.cons (.int _) .nil))
        · intro d hd d' hd'
          simp only [List.map_map, List.mem_map, Function.comp] at hd hd'
          obtain ⟨q, _, rfl⟩ := hd
          obtain ⟨q', _, rfl⟩ := hd'
          rfl
        · refine .inl fun d hd => ?_
          simp only [List.map_map, List.mem_map, Function.comp] at hd
          obtain ⟨q, _, rfl⟩ := hd
          exact ⟨_, _, rfl⟩
        · intro b hb
          obtain ⟨q, hq, rfl⟩ := List.mem_map.mp hb
          simp [pD, PyData.depth, PyData.depthAll]
        · have eS : sortD ((ps.zip ws).map fun q => (q.2, pD q.1)) = ((ps.zip ws).mergeSort fun q r => leP q.1 r.1).map Prod.snd := by
            unfold sortD
            rw [← List.map_mergeSort (r := fun q r => leP q.1 r.1) (f := fun q : (Int × Int) × V => (q.2, pD q.1)) (fun a _ b _ => (leP_data _ _ _ _).symm), List.map_map]
            rfl
          have eP : ps.mergeSort leP = ((ps.zip ws).mergeSort fun q r => leP q.1 r.1).map Prod.fst := by
            conv => lhs; rw [← hf1]
            rw [List.map_mergeSort (r := fun q r => leP q.1 r.1) (s := leP) (f := Prod.fst) (fun a _ b _ => rfl)]
          rw [eP, List.map_map] at p
          rw [eS]
          refine p.lst M ?_ hb
          have hz2 : ∀ q ∈ (ps.zip ws).mergeSort (fun q r => leP q.1 r.1), RU X.K H μ (pU q.1) q.2 := fun q hq => hz q ((List.mergeSort_perm _ _).mem_iff.mp hq)
          generalize (ps.zip ws).mergeSort (fun q r => leP q.1 r.1) = S at hz2
          clear eS eP p
          induction S with
          | nil => exact .nil
          | cons q S ih => exact .cons (hz2 q List.mem_cons_self) (ih fun q hq => hz2 q (List.mem_cons_of_mem _ hq))
      · exact no_op p
    · exact no_op p
  · exact no_op p
end
end Ev

set_option Elab.async false
set_option linter.all false
set_option maxRecDepth 100000
set_option maxHeartbeats 4000000
namespace My
open PySem L2 Ev RZ RT
def b_is_number : SD :=
  (sSeq (sIf (tO (tN (tTru (dIsi .int (dSlot 0)))) (tTru (dIsi .bool (dSlot 0)))) (sRet (dC (.bl false))) sNext)
  (sRet (dChain oLe oLe (dB oMax2 (lCons (dSlot 1) (lCons (dUn oNeg (dC (.int 999999999999999999999999999999999999999999999999999999999999))) lNil))) (dSlot 0) (dB oMin2 (lCons (dSlot 2) (lCons (dC (.int 999999999999999999999999999999999999999999999999999999999999)) lNil))))))
def d_is_number : List U → Mem → R U := runB 3 3 b_is_number
def b_is_name : SD :=
  (sSeq (sIf (tO (tN (tTru (dIsi .str (dSlot 0)))) (tN (tBl (dChain oLe oLe (dC (.int 1)) (dB oLen (lCons (dSlot 0) lNil)) (dC (.int 4)))))) (sRet (dC (.bl false))) sNext)
  (sRet (dB oAll (lCons (dLc (iAny (dSlot 0)) (gName 1) tYesU (dOp oIn (dSlot 1) (dC (.str (st [97, 98, 99, 100, 101, 102, 103, 104, 105, 106, 107, 108, 109, 110, 111, 112, 113, 114, 115, 116, 117, 118, 119, 120, 121, 122])))) [1]) lNil))))
def d_is_name : List U → Mem → R U := runB 2 1 b_is_name
def b_law_well : SD :=
  (sSeq (sAsg (dIf (tBl (dOp oLt (dSlot 1) (dB oLen (lCons (dSlot 0) lNil)))) (dB oInt (lCons (dOp oIx (dSlot 0) (dSlot 1)) lNil)) (dOp oAdd (dOp oAdd (dOp oMulG (dC (.int 4001)) (dSlot 1)) (dC (.int 71))) (dOp oMod (dB oInt (lCons (dB oSum (lCons (dSlice (dSlot 0) pNone (pSome (dC (.int 1)))) lNil)) lNil)) (dC (.int 1000231))))) (gName 2))
  (sSeq (sAsg (dOp oMod (dB oInt (lCons (dB oAbs (lCons (dSlot 2) lNil)) lNil)) (dOp oPow (dOp oPow (dC (.int 10)) (dC (.int 57))) (dC (.int 8)))) (gName 3))
  (sSeq (sAsg (dB oInt (lCons (dOp oAdd (dOp oAdd (dOp oAdd (dOp oMulG (dOp oMod (dSlot 3) (dC (.int 2305843009213693921))) (dC (.int 60091))) (dOp oMulG (dC (.int 7001)) (dSlot 1))) (dOp oMulG (dC (.int 53)) (dB oInt (lCons (dOp oLt (dSlot 2) (dC (.int 0))) lNil)))) (dC (.int 97))) lNil)) (gName 4))
  (sRet (dLst (lCons (dB oMax2 (lCons (dC (.int 0)) (lCons (dOp oSub (dSlot 3) (dOp oPow (dC (.int 10)) (dC (.int 16)))) lNil))) (lCons (dOp oMod (dSlot 4) (dC (.int 2305843009213693951))) (lCons (dC (.int 0)) lNil))))))))
def d_law_well : List U → Mem → R U := runB 5 2 b_law_well
def b_law_drawn : SD :=
  (sSeq (sIf (tBl (dOp oGt (dOp oIx (dSlot 0) (dC (.int 0))) (dC (.int 0)))) (sSeq (sAsg (dOp oMod (dB oInt (lCons (dOp oIx (dSlot 0) (dC (.int 0))) lNil)) (dSlot 1)) (gName 2))
  (sSeq (sAsg (dOp oDiv (dOp oIx (dSlot 0) (dC (.int 0))) (dSlot 1)) (gSub oSetL (dSlot 0) (dC (.int 0))))
  (sRet (dSlot 2)))) sNext)
  (sSeq (sAsg (dOp oAdd (dOp oIx (dSlot 0) (dC (.int 2))) (dC (.int 1))) (gSub oSetL (dSlot 0) (dC (.int 2))))
  (sSeq (sAsg (dOp oMod (dB oInt (lCons (dOp oAdd (dOp oIx (dSlot 0) (dC (.int 1))) (dOp oMulG (dC (.int 49979687)) (dOp oIx (dSlot 0) (dC (.int 2))))) lNil)) (dC (.int 2305843009213693907))) (gName 3))
  (sSeq (sAsg (dOp oAdd (dOp oAdd (dOp oMulG (dOp oMod (dB oInt (lCons (dOp oMulG (dSlot 3) (dSlot 3)) lNil)) (dC (.int 2305843009213693951))) (dC (.int 32452867))) (dSlot 3)) (dOp oMulG (dC (.int 37)) (dOp oIx (dSlot 0) (dC (.int 2))))) (gName 4))
  (sRet (dOp oMod (dB oInt (lCons (dOp oDiv (dSlot 4) (dC (.int 131071))) lNil)) (dSlot 1)))))))
def d_law_drawn : List U → Mem → R U := runB 5 2 b_law_drawn
def b_law_figures : SD :=
  (sSeq (sAsg (dLst (lCons (dC (.int 0)) (lCons (dC (.int 0)) lNil))) (gName 1))
  (sSeq (sFor (iEnum (lCons (dSlot 0) lNil)) (gTup 2 (gCons (gName 2) (gCons (gName 3) gNil))) (sAsg (dOp oAdd (dOp oIx (dSlot 1) (dOp oDiv (dSlot 2) (dC (.int 2)))) (dOp oMulG (dOp oIx (dTup (lCons (dC (.int 27)) (lCons (dC (.int 1)) lNil))) (dOp oMod (dSlot 2) (dC (.int 2)))) (dOp oAdd (dM .str oSindex (dC (.str (st [97, 98, 99, 100, 101, 102, 103, 104, 105, 106, 107, 108, 109, 110, 111, 112, 113, 114, 115, 116, 117, 118, 119, 120, 121, 122]))) (lCons (dSlot 3) lNil)) (dC (.int 1))))) (gSub oSetL (dSlot 1) (dOp oDiv (dSlot 2) (dC (.int 2))))))
  (sRet (dB oToTup (lCons (dSlot 1) lNil)))))
def d_law_figures : List U → Mem → R U := runB 4 1 b_law_figures
def b_law_spelled : SD :=
  (sSeq (sIf (tO (tBl (dOp oGt (dSlot 0) (dC (.int 728)))) (tBl (dOp oGt (dSlot 1) (dC (.int 728))))) (sRet (dC .non)) sNext)
  (sSeq (sAsg (dC (.str (st [32, 97, 98, 99, 100, 101, 102, 103, 104, 105, 106, 107, 108, 109, 110, 111, 112, 113, 114, 115, 116, 117, 118, 119, 120, 121, 122]))) (gName 2))
  (sSeq (sAsg (dOp oAdd (dOp oAdd (dOp oAdd (dOp oIx (dSlot 2) (dOp oDiv (dSlot 0) (dC (.int 27)))) (dOp oIx (dSlot 2) (dOp oMod (dSlot 0) (dC (.int 27))))) (dOp oIx (dSlot 2) (dOp oDiv (dSlot 1) (dC (.int 27))))) (dOp oIx (dSlot 2) (dOp oMod (dSlot 1) (dC (.int 27))))) (gName 3))
  (sRet (dIf (tAn (tBl (dOp oNe (dOp oIx (dSlot 3) (dC (.int 0))) (dC (.str (st [32]))))) (tBl (dOp oNotIn (dC (.str (st [32]))) (dM0 .str oRstrip (dSlot 3))))) (dM0 .str oStrip (dSlot 3)) (dC .non))))))
def d_law_spelled : List U → Mem → R U := runB 4 2 b_law_spelled
def b_check_number : SD :=
  (sIf (tN (tTru (dCall d_is_number (lCons (dSlot 0) (lCons (dSlot 1) (lCons (dSlot 2) lNil)))))) sBad sNext)
def d_check_number : List U → Mem → R U := runB 3 3 b_check_number
def b_is_cell : SD :=
  (sRet (dCall d_is_number (lCons (dSlot 0) (lCons (dC (.int 0)) (lCons (dC (.int 996)) lNil)))))
def d_is_cell : List U → Mem → R U := runB 1 1 b_is_cell
def b_check_name : SD :=
  (sIf (tN (tTru (dCall d_is_name (lCons (dSlot 0) lNil)))) sBad sNext)
def d_check_name : List U → Mem → R U := runB 1 1 b_check_name
def b_law_given : SD :=
  (sRet (dOp oIx (dSlot 1) (dCall d_law_drawn (lCons (dSlot 0) (lCons (dB oLen (lCons (dSlot 1) lNil)) lNil)))))
def d_law_given : List U → Mem → R U := runB 2 2 b_law_given
def b_is_cells : SD :=
  (sRet (dAnd (dIsi .tuple (dSlot 0)) (dB oAll (lCons (dLc (iAny (dSlot 0)) (gName 1) tYesU (dCall d_is_cell (lCons (dSlot 1) lNil)) [1]) lNil))))
def d_is_cells : List U → Mem → R U := runB 2 1 b_is_cells
def b_name_cells : SD :=
  (sSeq (sExpr (dCall d_check_name (lCons (dSlot 0) lNil)))
  (sSeq (sAsg (dOp oAdd (dLc (iAny (dSlot 0)) (gName 2) tYesU (dOp oAdd (dM .str oSindex (dC (.str (st [97, 98, 99, 100, 101, 102, 103, 104, 105, 106, 107, 108, 109, 110, 111, 112, 113, 114, 115, 116, 117, 118, 119, 120, 121, 122]))) (lCons (dSlot 2) lNil)) (dC (.int 1))) [2]) (dOp oMulG (dLst (lCons (dC (.int 0)) lNil)) (dOp oSub (dC (.int 4)) (dB oLen (lCons (dSlot 0) lNil))))) (gName 1))
  (sRet (dTup (lCons (dOp oAdd (dOp oMulG (dC (.int 27)) (dOp oIx (dSlot 1) (dC (.int 0)))) (dOp oIx (dSlot 1) (dC (.int 1)))) (lCons (dOp oAdd (dOp oMulG (dC (.int 27)) (dOp oIx (dSlot 1) (dC (.int 2)))) (dOp oIx (dSlot 1) (dC (.int 3)))) lNil))))))
def d_name_cells : List U → Mem → R U := runB 3 1 b_name_cells
def b_cells_name : SD :=
  (sSeq (sExpr (dCall d_check_number (lCons (dSlot 0) (lCons (dC (.int 0)) (lCons (dC (.int 996)) lNil)))))
  (sSeq (sExpr (dCall d_check_number (lCons (dSlot 1) (lCons (dC (.int 0)) (lCons (dC (.int 996)) lNil)))))
  (sSeq (sAsg (dOp oAdd (dB oToLst (lCons (dB oDivmod (lCons (dSlot 0) (lCons (dC (.int 27)) lNil))) lNil)) (dB oToLst (lCons (dB oDivmod (lCons (dSlot 1) (lCons (dC (.int 27)) lNil))) lNil))) (gName 2))
  (sSeq (sWhile (tAn (tTru (dSlot 2)) (tBl (dOp oEq (dOp oIx (dSlot 2) (dUn oNeg (dC (.int 1)))) (dC (.int 0))))) (sExpr (dM0 .list oPop (dSlot 2))))
  (sSeq (sIf (tO (tN (tTru (dSlot 2))) (tO (tBl (dOp oEq (dB oMinL (lCons (dSlot 2) lNil)) (dC (.int 0)))) (tBl (dOp oGt (dB oMaxL (lCons (dSlot 2) lNil)) (dB oLen (lCons (dC (.str (st [97, 98, 99, 100, 101, 102, 103, 104, 105, 106, 107, 108, 109, 110, 111, 112, 113, 114, 115, 116, 117, 118, 119, 120, 121, 122]))) lNil)))))) (sRet (dC .non)) sNext)
  (sRet (dM .str oJoin (dC (.str (st []))) (lCons (dLc (iAny (dSlot 2)) (gName 3) tYesU (dOp oIx (dC (.str (st [97, 98, 99, 100, 101, 102, 103, 104, 105, 106, 107, 108, 109, 110, 111, 112, 113, 114, 115, 116, 117, 118, 119, 120, 121, 122]))) (dOp oSub (dSlot 3) (dC (.int 1)))) [3]) lNil))))))))
def d_cells_name : List U → Mem → R U := runB 4 2 b_cells_name
def b_law_near : SD :=
  (sSeq (sAsg (dCall d_law_given (lCons (dSlot 0) (lCons (dLst (lCons (dC (.str (st []))) (lCons (dC (.str (st [65]))) (lCons (dC (.str (st [97, 98, 99, 100, 101]))) (lCons (dC (.str (st [97, 32, 98]))) (lCons (dC (.str (st [97, 49]))) (lCons (dC (.str (st [97, 98, 10]))) (lCons (dC .non) (lCons (dC (.int 5)) (lCons (dTup (lCons (dC (.str (st [97]))) lNil)) (lCons (dLst (lCons (dC (.str (st [97]))) lNil)) (lCons (dC (.str (st [122]))) (lCons (dC (.str (st [122, 122, 122, 122]))) (lCons (dC (.str (st [97, 98, 99]))) (lCons (dC (.bl true)) lNil))))))))))))))) lNil))) (gName 1))
  (sSeq (sAsg (dCall d_law_given (lCons (dSlot 0) (lCons (dLst (lCons (dUn oNeg (dC (.int 1))) (lCons (dC (.int 997)) (lCons (dC (.int 996)) (lCons (dC (.int 0)) (lCons (dC (.bl true)) (lCons (dC .non) (lCons (dC (.str (st [53]))) (lCons (dTup (lCons (dC (.int 5)) lNil)) (lCons (dOp oPow (dC (.int 10)) (dC (.int 60))) lNil)))))))))) lNil))) (gName 2))
  (sSeq (sAsg (dCall d_law_given (lCons (dSlot 0) (lCons (dLst (lCons (dTup lNil) (lCons (dTup (lCons (dC (.int 0)) (lCons (dC (.int 996)) lNil))) (lCons (dTup (lCons (dC (.int 997)) lNil)) (lCons (dLst (lCons (dC (.int 1)) lNil)) (lCons (dTup (lCons (dC (.bl true)) lNil)) (lCons (dC .non) (lCons (dTup (lCons (dC (.str (st [49]))) lNil)) (lCons (dTup (lCons (dC (.int 1)) (lCons (dUn oNeg (dC (.int 1))) lNil))) (lCons (dC (.int 5)) (lCons (dTup (lCons (dC (.int 1)) (lCons (dTup (lCons (dC (.int 2)) lNil)) lNil))) (lCons dDNew lNil)))))))))))) lNil))) (gName 3))
  (sRet (dTup (lCons (dSlot 1) (lCons (dSlot 2) (lCons (dSlot 3) lNil))))))))
def d_law_near : List U → Mem → R U := runB 4 1 b_law_near
def b_law_right : SD :=
  (sSeq (sAsg (dLst lNil) (gName 1))
  (sSeq (sFor (iRange1 (lCons (dC (.int 5)) lNil)) (gName 2) (sSeq (sAsg (dLc (iRange1 (lCons (dOp oAdd (dC (.int 1)) (dCall d_law_drawn (lCons (dSlot 0) (lCons (dC (.int 4)) lNil)))) lNil)) (gName 10) tYesU (dCall d_law_given (lCons (dSlot 0) (lCons (dB oListS (lCons (dC (.str (st [97, 97, 98, 109, 122]))) lNil)) lNil))) [10]) (gName 3))
  (sExpr (dM .list oAppend (dSlot 1) (lCons (dM .str oJoin (dC (.str (st []))) (lCons (dSlot 3) lNil)) lNil)))))
  (sSeq (sFor (iAny (dSlot 1)) (gName 4) (sIf (tO (tBl (dOp oNe (dCall d_name_cells (lCons (dSlot 4) lNil)) (dCall d_law_figures (lCons (dSlot 4) lNil)))) (tBl (dOp oNe (dCall d_cells_name (lCons (dOp oIx (dCall d_name_cells (lCons (dSlot 4) lNil)) (dC (.int 0))) (lCons (dOp oIx (dCall d_name_cells (lCons (dSlot 4) lNil)) (dC (.int 1))) lNil))) (dSlot 4)))) (sRet (dC (.bl false))) sNext))
  (sSeq (sIf (tBl (dOp oNe (dB oSorted (lCons (dSlot 1) lNil)) (dLc (iAny (dB oSortedP (lCons (dLc (iAny (dSlot 1)) (gName 4) tYesU (dCall d_name_cells (lCons (dSlot 4) lNil)) [4]) lNil))) (gName 11) tYesU (dCall d_cells_name (lCons (dOp oIx (dSlot 11) (dC (.int 0))) (lCons (dOp oIx (dSlot 11) (dC (.int 1))) lNil))) [11]))) (sRet (dC (.bl false))) sNext)
  (sSeq (sFor (iRange1 (lCons (dC (.int 6)) lNil)) (gName 2) (sSeq (sAsg (dCall d_law_given (lCons (dSlot 0) (lCons (dLst (lCons (dC (.int 0)) (lCons (dC (.int 27)) (lCons (dC (.int 28)) (lCons (dC (.int 728)) (lCons (dC (.int 729)) (lCons (dC (.int 996)) (lCons (dCall d_law_drawn (lCons (dSlot 0) (lCons (dC (.int 997)) lNil))) (lCons (dOp oMulG (dC (.int 27)) (dCall d_law_drawn (lCons (dSlot 0) (lCons (dC (.int 27)) lNil)))) lNil))))))))) lNil))) (gName 5))
  (sSeq (sAsg (dCall d_law_given (lCons (dSlot 0) (lCons (dLst (lCons (dC (.int 0)) (lCons (dC (.int 0)) (lCons (dC (.int 1)) (lCons (dC (.int 26)) (lCons (dC (.int 27)) (lCons (dC (.int 728)) (lCons (dC (.int 729)) (lCons (dCall d_law_drawn (lCons (dSlot 0) (lCons (dC (.int 997)) lNil))) (lCons (dOp oMulG (dC (.int 27)) (dCall d_law_drawn (lCons (dSlot 0) (lCons (dC (.int 27)) lNil)))) lNil)))))))))) lNil))) (gName 6))
  (sIf (tBl (dOp oNe (dCall d_cells_name (lCons (dSlot 5) (lCons (dSlot 6) lNil))) (dCall d_law_spelled (lCons (dSlot 5) (lCons (dSlot 6) lNil))))) (sRet (dC (.bl false))) sNext))))
  (sSeq (sAsg (dCall d_law_near (lCons (dSlot 0) lNil)) (gTup 3 (gCons (gName 4) (gCons (gName 7) (gCons (gName 8) gNil)))))
  (sSeq (sAsg (dLst (lCons (dCall d_is_name (lCons (dSlot 4) lNil)) (lCons (dCall d_is_cell (lCons (dSlot 7) lNil)) (lCons (dCall d_is_cells (lCons (dSlot 8) lNil)) lNil)))) (gName 9))
  (sRet (dOp oEq (dSlot 9) (dLst (lCons (dOp oIn (dSlot 4) (dTup (lCons (dC (.str (st [122]))) (lCons (dC (.str (st [122, 122, 122, 122]))) (lCons (dC (.str (st [97, 98, 99]))) lNil))))) (lCons (dReprIn (lCons (dSlot 7) lNil) (dTup (lCons (dC (.str (st [57, 57, 54]))) (lCons (dC (.str (st [48]))) lNil)))) (lCons (dOp oInX (dSlot 8) (dTup (lCons (dTup lNil) (lCons (dTup (lCons (dC (.int 0)) (lCons (dC (.int 996)) lNil))) lNil)))) lNil)))))))))))))
def d_law_right : List U → Mem → R U := runB 12 1 b_law_right
def b_law : SD :=
  (sSeq (sFor (iRange1 (lCons (dB oMax2 (lCons (dC (.int 1)) (lCons (dB oMin2 (lCons (dC (.int 4)) (lCons (dB oLen (lCons (dSlot 0) lNil)) lNil))) lNil))) lNil)) (gName 1) (sIf (tN (tTru (dCall d_law_right (lCons (dCall d_law_well (lCons (dSlot 0) (lCons (dSlot 1) lNil))) lNil)))) (sRet (dC (.bl false))) sNext))
  (sSeq (sAsg (dLst (lCons (dCall d_name_cells (lCons (dC (.str (st [97]))) lNil)) (lCons (dCall d_name_cells (lCons (dC (.str (st [122, 97]))) lNil)) (lCons (dCall d_name_cells (lCons (dC (.str (st [97, 98, 99, 100]))) lNil)) (lCons (dCall d_name_cells (lCons (dC (.str (st [122, 122, 122, 122]))) lNil)) (lCons (dCall d_cells_name (lCons (dC (.int 27)) (lCons (dC (.int 1)) lNil))) lNil)))))) (gName 2))
  (sSeq (sAsg (dOp oAdd (dSlot 2) (dLst (lCons (dCall d_cells_name (lCons (dC (.int 0)) (lCons (dC (.int 0)) lNil))) lNil))) (gName 2))
  (sSeq (sIf (tBl (dOp oNe (dSlot 2) (dLst (lCons (dTup (lCons (dC (.int 27)) (lCons (dC (.int 0)) lNil))) (lCons (dTup (lCons (dC (.int 703)) (lCons (dC (.int 0)) lNil))) (lCons (dTup (lCons (dC (.int 29)) (lCons (dC (.int 85)) lNil))) (lCons (dTup (lCons (dC (.int 728)) (lCons (dC (.int 728)) lNil))) (lCons (dC .non) (lCons (dC .non) lNil))))))))) (sRet (dC (.bl false))) sNext)
  (sRet (dOp oEq (dTup (lCons (dC (.int 997)) (lCons (dC (.int 996)) (lCons (dC (.int 4)) lNil)))) (dTup (lCons (dC (.int 997)) (lCons (dC (.int 996)) (lCons (dC (.int 4)) lNil))))))))))
def d_law : List U → Mem → R U := runB 3 1 b_law
end My

set_option Elab.async false
set_option linter.all false
set_option maxRecDepth 100000
set_option maxHeartbeats 2000000
namespace My
open PySem L2 Ev RZ
local macro_rules | `(tactic| walk_at "ev") => `(tactic| simp (disch := first | assumption | omega | simp; done | (simp only [List.length_map, List.length_append, List.length_cons, List.length_nil, List.length_replicate]; omega)) only [runB_e, List.length_cons, List.length_nil, List.length_map, Nat.reduceAdd, Nat.reduceSub, List.reduceReplicate, List.map_cons, List.map_nil, List.cons_append, List.nil_append, List.append_nil, List.set_cons_zero, List.set_cons_succ, List.getElem?_cons_zero, List.getElem?_cons_succ, evB, evX, evS, evO, evR, evR2, evI, evJ, evD, eqU_s, eqU_vo, valK_dk, Option.map_none,  nums_ints, flat_rep, Option.map_some, List.getElem?_append_left, dSlot_d, oMulG_a, oMulG_b, oMod_e, oTup_e, oLst_e, oList_e, oAdd_t, oMulG_t, eqU_tI, eqU_nil, eqU_i, dk_len, Bool.not_true, Bool.not_false, Bool.false_eq_true, if_true, if_false, if_pos, if_neg, mem_last, mem_setl, mem_mid, mem_setm, at3_0, at3_1, at3_2, ix3_0, ix3_2, decide_eq_true_eq, decide_true, decide_false, and_true, true_and, and_false, false_and, not_true_eq_false, not_false_eq_true, wipeU, *])
theorem p_num (i lo hi : Int) (m : Mem) (h1 : -(999999999999999999999999999999999999999999999999999999999999) ≤ lo) (h2 : hi ≤ 999999999999999999999999999999999999999999999999999999999999) : d_is_number [.int i, .int lo, .int hi] m = .ok (.bl (decide (lo ≤ i ∧ i ≤ hi))) m := by
  unfold d_is_number b_is_number
  by_cases h : lo ≤ i
  · walk_at "ev"
  · walk_at "ev"
theorem p_cell (i : Int) (m : Mem) : d_is_cell [.int i] m = .ok (.bl (decide (0 ≤ i ∧ i ≤ 996))) m := by
  unfold d_is_cell b_is_cell
  have h := p_num i 0 996 m (by decide) (by decide)
  walk_at "ev"
def okC (l : List Int) : Prop := ∀ c ∈ l, 0 ≤ c ∧ c ≤ 996
instance (l : List Int) : Decidable (okC l) := by unfold okC; infer_instance
/-! names -/
abbrev ABC : List Nat := [97, 98, 99, 100, 101, 102, 103, 104, 105, 106, 107, 108, 109, 110, 111, 112, 113, 114, 115, 116, 117, 118, 119, 120, 121, 122]
theorem st_list (l : List Nat) : (st l).cps.toList = l := by simp [st]
theorem signs_st (l : List Nat) : signs (st l) = l.map fun c => .str (st [c]) := by
  unfold signs
  simp [st]
theorem p_name (l : List Nat) (h1 : 1 ≤ l.length) (h4 : l.length ≤ 4) (h : ∀ c ∈ l, c ∈ ABC) (m : Mem) : ∃ t, d_is_name [.str (st l)] m = .ok (.bl true) (m ++ t) := by
  unfold d_is_name b_is_name
  have hlen : (st l).length = l.length := by simp [st, Str.length]
  have hs : srcA m (.str (st l)) = some (.fix (l.map fun c => .str (st [c]))) := by
    show some (Src.fix (signs (st l))) = _
    rw [signs_st]
  obtain ⟨t, e⟩ := compL_map (g := gName 1) (e := dOp oIn (dSlot 1) (dC (.str (st ABC)))) (ρ := [some (.str (st l)), none]) (F := fun _ => .bl true) (P := fun _ => True) (fun _ _ _ => trivial) (l.map fun c => .str (st [c])) m trivial (by
    intro u hu m _
    obtain ⟨c, hc, rfl⟩ := List.mem_map.mp hu
    refine ⟨[some (.str (st l)), some (.str (st [c]))], [], rfl, ?_⟩
    have hi : inU m (.str (st [c])) (.str (st ABC)) = some true := by
      show (match (st [c]).cps.toList with | [k] => some (decide (k ∈ (st ABC).cps.toList)) | _ => none) = _
      rw [st_list, st_list]
      show some (decide (c ∈ ABC)) = _
      rw [decide_eq_true (h c hc)]
    walk_at "ev")
  have hb : bools ((l.map fun c => U.str (st [c])).map fun _ => .bl true) = some (l.map fun _ => true) := by
    rw [List.map_map]; exact bools_map (fun _ => true) l
  have ha : ((l.map fun _ : Nat => true).all id) = true := by rw [List.all_map, List.all_eq_true]; intro x _; rfl
  have hsz : l.length ≤ sizeLine := Nat.le_trans h4 (by decide)
  have c1 : (1 : Int) ≤ (l.length : Nat) := by omega
  have c2 : ((l.length : Nat) : Int) ≤ 4 := by omega
  refine ⟨t ++ [.lst ((l.map fun c => U.str (st [c])).map fun _ => .bl true)], ?_⟩
  walk_at "ev"
  rw [List.append_assoc]
end My

set_option Elab.async false
set_option linter.all false
set_option maxRecDepth 100000
set_option maxHeartbeats 2000000
namespace My
open PySem L2 Ev RZ
local macro_rules | `(tactic| walk_at "ev") => `(tactic| simp (disch := first | assumption | omega | simp; done | (simp only [List.length_map, List.length_append, List.length_cons, List.length_nil, List.length_replicate]; omega)) only [runB_e, List.length_cons, List.length_nil, List.length_map, Nat.reduceAdd, Nat.reduceSub, List.reduceReplicate, List.map_cons, List.map_nil, List.cons_append, List.nil_append, List.append_nil, List.set_cons_zero, List.set_cons_succ, List.getElem?_cons_zero, List.getElem?_cons_succ, evB, evX, evS, evO, evR, evR2, evI, evJ, evD, eqU_s, eqU_vo, valK_dk, Option.map_none,  nums_ints, flat_rep, Option.map_some, List.getElem?_append_left, dSlot_d, oMulG_a, oMulG_b, oMod_e, oTup_e, oLst_e, oList_e, oAdd_t, oMulG_t, eqU_tI, eqU_nil, eqU_i, dk_len, Bool.not_true, Bool.not_false, Bool.false_eq_true, if_true, if_false, if_pos, if_neg, mem_last, mem_setl, mem_mid, mem_setm, at3_0, at3_1, at3_2, ix3_0, ix3_2, decide_eq_true_eq, decide_true, decide_false, and_true, true_and, and_false, false_and, not_true_eq_false, not_false_eq_true, wipeU, *])
/-! texts of numbers -/
open PyProof.Rows in
def cd (n : Int) : Nat := if n = 0 then 32 else (96 + n).toNat
def trimL : List Int → List Int
  | [] => []
  | a :: r => if trimL r = [] ∧ a = 0 then [] else a :: trimL r
theorem trim_zero (l : List Int) : trimL (l ++ [0]) = trimL l := by
  induction l with
  | nil => simp [trimL]
  | cons a r ih => simp only [List.cons_append, trimL, ih]
theorem trim_end (l : List Int) {a : Int} (h : a ≠ 0) : trimL (l ++ [a]) = l ++ [a] := by
  induction l with
  | nil => simp [trimL, h]
  | cons b r ih => simp [trimL, ih]
theorem nil_or_end {α : Type} (l : List α) : l = [] ∨ ∃ s a, l = s ++ [a] := by
  rcases List.eq_nil_or_concat l with h | ⟨s, a, h⟩
  · exact .inl h
  · exact .inr ⟨s, a, by rw [h, List.concat_eq_append]⟩
theorem trim_mem {l : List Int} {x : Int} (h : x ∈ trimL l) : x ∈ l := by
  induction l with
  | nil => exact h
  | cons a r ih =>
    unfold trimL at h
    split at h
    · cases h
    · rcases List.mem_cons.mp h with e | h
      · rw [e]; exact List.mem_cons_self
      · exact List.mem_cons_of_mem _ (ih h)
theorem mem_trim {l : List Int} {x : Int} (hx : x ≠ 0) (h : x ∈ l) : x ∈ trimL l := by
  induction l with
  | nil => exact h
  | cons a r ih =>
    unfold trimL
    rcases List.mem_cons.mp h with e | h
    · rw [if_neg (fun z => hx (e.trans z.2)), e]; exact List.mem_cons_self
    · have := ih h
      rw [if_neg (fun z => by rw [z.1] at this; cases this)]
      exact List.mem_cons_of_mem _ this
theorem trim_head {a : Int} {r : List Int} : trimL (a :: r) = [] ∨ ∃ s, trimL (a :: r) = a :: s := by
  unfold trimL
  split
  · exact .inl rfl
  · exact .inr ⟨_, rfl⟩
theorem trim_head0 {a : Int} {r : List Int} (h : a ≠ 0) : ∃ s, trimL (a :: r) = a :: s := by
  unfold trimL
  rw [if_neg fun z => h z.2]
  exact ⟨_, rfl⟩
abbrev sp (c : Nat) : Bool := Unicode.isSpace c
theorem sp_cd : ∀ n : Nat, n < 27 → sp (cd (n : Int)) = decide (n = 0) := by decide +kernel
theorem sp_cdI {n : Int} (h0 : 0 ≤ n) (h1 : n ≤ 26) : sp (cd n) = decide (n = 0) := by
  have := sp_cd n.toNat (by omega)
  rw [Int.toNat_of_nonneg h0] at this
  rw [this]
  by_cases h : n = 0
  · simp [h]
  · have : ¬ n.toNat = 0 := by omega
    simp [h, this]
theorem tw (k : Nat) : ∀ l : List Int, l.length ≤ k → (∀ n ∈ l, 0 ≤ n ∧ n ≤ 26) → ((l.map cd).reverse.takeWhile sp).length + (trimL l).length = l.length ∧ trimL l = l.take (trimL l).length := by
  induction k with
  | zero => intro l hl h; cases l with
    | nil => exact ⟨rfl, rfl⟩
    | cons a r => simp at hl
  | succ k ih =>
    intro l hl h
    rcases nil_or_end l with e | ⟨s, a, e⟩
    · subst e; exact ⟨rfl, rfl⟩
    · subst e
      have ha := h a (by simp)
      have hs := sp_cdI ha.1 ha.2
      by_cases h0 : a = 0
      · subst h0
        obtain ⟨i1, i2⟩ := ih s (by simp at hl; omega) fun n hn => h n (by simp [hn])
        rw [trim_zero]
        have hle : (trimL s).length ≤ s.length := by omega
        refine ⟨?_, ?_⟩
        · rw [List.map_append, List.map_cons, List.map_nil, List.reverse_append, List.reverse_cons, List.reverse_nil, List.nil_append, List.cons_append, List.nil_append, List.takeWhile_cons, if_pos (by rw [hs]; rfl), List.length_cons, List.length_append, List.length_cons, List.length_nil]
          omega
        · rw [List.take_append_of_le_length hle]; exact i2
      · rw [trim_end s h0]
        refine ⟨?_, ?_⟩
        · rw [List.map_append, List.map_cons, List.map_nil, List.reverse_append, List.reverse_cons, List.reverse_nil, List.nil_append, List.cons_append, List.nil_append, List.takeWhile_cons, if_neg (by rw [hs]; simp [h0])]
          simp
        · rw [List.take_length]
theorem rs (l : List Int) (h : ∀ n ∈ l, 0 ≤ n ∧ n ≤ 26) : Txt.rstrip (st (l.map cd)) = st ((trimL l).map cd) := by
  obtain ⟨h1, h2⟩ := tw l.length l (Nat.le_refl _) h
  unfold Txt.rstrip
  rw [PyProof.Rows.stripBy_eq]
  have e0 : stripLo Unicode.isSpace false (st (l.map cd)) = 0 := rfl
  rw [e0]
  have e1 : stripHi Unicode.isSpace true (st (l.map cd)) 0 = (trimL l).length := by
    show (st (l.map cd)).length - (((st (l.map cd)).cps.toList.drop 0).reverse.takeWhile sp).length = _
    rw [st_list, List.drop_zero]
    have : (st (l.map cd)).length = l.length := by simp [st, Str.length]
    omega
  rw [e1]
  show Str.mk ((st (l.map cd)).cps.extract 0 (trimL l).length) = _
  rw [show trimL l = l.take (trimL l).length from h2, List.map_take]
  simp [st]
theorem ss (a : Int) (r : List Int) (h : ∀ n ∈ a :: r, 0 ≤ n ∧ n ≤ 26) (ha : a ≠ 0) : Txt.strip (st ((a :: r).map cd)) = st ((trimL (a :: r)).map cd) := by
  rw [← rs (a :: r) h]
  unfold Txt.strip Txt.rstrip
  rw [PyProof.Rows.stripBy_eq, PyProof.Rows.stripBy_eq]
  have hs := sp_cdI (h a List.mem_cons_self).1 (h a List.mem_cons_self).2
  have e0 : stripLo Unicode.isSpace true (st ((a :: r).map cd)) = 0 := by
    show ((st ((a :: r).map cd)).cps.toList.takeWhile sp).length = 0
    rw [st_list, List.map_cons, List.takeWhile_cons, if_neg (by rw [hs]; simp [ha])]
    rfl
  rw [e0]
  rfl
def stJ : List Nat → Str := st
theorem join_st : ∀ l : List Nat, Str.join (st []) (l.map fun c => st [c]) = st l
  | [] => rfl
  | [c] => rfl
  | c :: d :: r => by
    have ih := join_st (d :: r)
    show st [c] ++ st [] ++ Str.join (st []) ((d :: r).map fun c => st [c]) = _
    rw [ih]
    show Str.mk (((st [c]).cps ++ (st []).cps) ++ (st (d :: r)).cps) = _
    unfold st
    simp
end My

set_option Elab.async false
set_option linter.all false
set_option maxRecDepth 100000
set_option maxHeartbeats 2000000
namespace My
open PySem L2 Ev RZ
local macro_rules | `(tactic| walk_at "ev") => `(tactic| simp (disch := first | assumption | omega | simp; done | (simp only [List.length_map, List.length_append, List.length_cons, List.length_nil, List.length_replicate]; omega)) only [runB_e, List.length_cons, List.length_nil, List.length_map, Nat.reduceAdd, Nat.reduceSub, List.reduceReplicate, List.map_cons, List.map_nil, List.cons_append, List.nil_append, List.append_nil, List.set_cons_zero, List.set_cons_succ, List.getElem?_cons_zero, List.getElem?_cons_succ, evB, evX, evS, evO, evR, evR2, evI, evJ, evD, eqU_s, eqU_vo, valK_dk, Option.map_none,  nums_ints, flat_rep, Option.map_some, List.getElem?_append_left, dSlot_d, oMulG_a, oMulG_b, oMod_e, oTup_e, oLst_e, oList_e, oAdd_t, oMulG_t, eqU_tI, eqU_nil, eqU_i, dk_len, Bool.not_true, Bool.not_false, Bool.false_eq_true, if_true, if_false, if_pos, if_neg, mem_last, mem_setl, mem_mid, mem_setm, at3_0, at3_1, at3_2, ix3_0, ix3_2, decide_eq_true_eq, decide_true, decide_false, and_true, true_and, and_false, false_and, not_true_eq_false, not_false_eq_true, wipeU, *])
abbrev LT : List Nat := [32, 97, 98, 99, 100, 101, 102, 103, 104, 105, 106, 107, 108, 109, 110, 111, 112, 113, 114, 115, 116, 117, 118, 119, 120, 121, 122]
theorem at_let0 : ∀ n : Nat, n < 27 → atI LT (n : Int) = some (cd n) := by decide +kernel
theorem at_let {n : Int} (h0 : 0 ≤ n) (h1 : n ≤ 26) (m : Mem) : oIx (.str (st LT)) (.int n) m = some (.str (st [cd n]), m) := by
  have h := at_let0 n.toNat (by omega)
  rw [Int.toNat_of_nonneg h0] at h
  show (if (st LT).length ≤ sizeLine then (atI (st LT).cps.toList n).map fun c => (U.str ⟨#[c]⟩, m) else none) = _
  rw [if_pos (by decide +kernel), st_list, h]
  rfl
theorem add_st (a b : List Nat) (h : a.length + b.length ≤ 100) (m : Mem) : oAdd (.str (st a)) (.str (st b)) m = some (.str (st (a ++ b)), m) := by
  have hl : ∀ l : List Nat, (st l).length = l.length := fun l => by simp [st, Str.length]
  have e : st a ++ st b = st (a ++ b) := by
    show Str.mk ((st a).cps ++ (st b).cps) = _
    unfold st; simp
  rw [← e]
  show (if (st a).length + (st b).length ≤ sizeLine then some (U.str (st a ++ st b), m) else none) = _
  rw [if_pos (by rw [hl, hl]; exact Nat.le_trans h (by decide))]
theorem len_st (l : List Nat) : (st l).length = l.length := by simp [st, Str.length]
theorem div27 (x : Int) (m : Mem) : oDiv (.int x) (.int 27) m = some (.int (x / 27), m) := by
  show (if (0 : Int) < 27 ∧ (27 : Int).natAbs.log2 < 9000 then some (U.int (x / 27), m) else none) = _
  rw [if_pos ⟨by decide, by decide +kernel⟩]
theorem cd_32 {n : Int} (h0 : 0 ≤ n) : (cd n = 32) ↔ n = 0 := by
  unfold cd
  split
  · simp_all
  · constructor
    · intro h; omega
    · intro h; omega
theorem st_inj {a b : List Nat} : st a = st b ↔ a = b := ⟨fun h => by have := congrArg (fun x => x.cps.toList) h; simpa [st] using this, fun h => by rw [h]⟩
theorem ok_cd0 : ∀ n : Nat, n < 27 → PyData.strOk (st [cd (n : Int)]) = true := by decide +kernel
theorem ok_cd {n : Int} (h0 : 0 ≤ n) (h1 : n ≤ 26) : PyData.strOk (st [cd n]) = true := by
  have := ok_cd0 n.toNat (by omega)
  rwa [Int.toNat_of_nonneg h0] at this
def dig (f s : Int) : List Int := [f / 27, f % 27, s / 27, s % 27]
def spl (f s : Int) : U := if 728 < f ∨ 728 < s then .non else if f / 27 ≠ 0 ∧ 0 ∉ trimL (dig f s) then .str (st ((trimL (dig f s)).map cd)) else .non
theorem in_cd {l : List Int} (h : ∀ n ∈ l, 0 ≤ n) : (32 ∈ l.map cd) ↔ 0 ∈ l := by
  constructor
  · intro h1
    obtain ⟨n, hn, e⟩ := List.mem_map.mp h1
    rw [(cd_32 (h n hn)).mp e] at hn
    exact hn
  · intro h1
    exact List.mem_map.mpr ⟨0, h1, rfl⟩
theorem p_spelled (f s : Int) (hf0 : 0 ≤ f) (hf1 : f ≤ 996) (hs0 : 0 ≤ s) (hs1 : s ≤ 996) (m : Mem) : d_law_spelled [.int f, .int s] m = .ok (spl f s) m := by
  unfold d_law_spelled b_law_spelled
  have hd := div27
  by_cases h1 : 728 < f
  · have h2 : spl f s = .non := if_pos (.inl h1)
    rw [h2]
    walk_at "ev"
  · by_cases h2 : 728 < s
    · have h3 : spl f s = .non := if_pos (.inr h2)
      rw [h3]
      walk_at "ev"
    · have h3 : spl f s = if f / 27 ≠ 0 ∧ 0 ∉ trimL (dig f s) then .str (st ((trimL (dig f s)).map cd)) else .non := if_neg (by omega)
      rw [h3]
      have hb : ∀ n ∈ dig f s, 0 ≤ n ∧ n ≤ 26 := by
        intro n hn
        simp only [dig, List.mem_cons, List.not_mem_nil, or_false] at hn
        rcases hn with e | e | e | e <;> subst e <;> omega
      have e0 := fun m => at_let (n := f / 27) (by omega) (by omega) m
      have e1 := fun m => at_let (n := f % 27) (by omega) (by omega) m
      have e2 := fun m => at_let (n := s / 27) (by omega) (by omega) m
      have e3 := fun m => at_let (n := s % 27) (by omega) (by omega) m
      have a1 := fun m => add_st [cd (f / 27)] [cd (f % 27)] (by simp) m
      have a2 := fun m => add_st [cd (f / 27), cd (f % 27)] [cd (s / 27)] (by simp) m
      have a3 := fun m => add_st [cd (f / 27), cd (f % 27), cd (s / 27)] [cd (s % 27)] (by simp) m
      simp only [List.cons_append, List.nil_append] at a1 a2 a3
      have e4 : ∀ m, oIx (.str (st [cd (f / 27), cd (f % 27), cd (s / 27), cd (s % 27)])) (.int 0) m = some (.str (st [cd (f / 27)]), m) := fun m => by
        show (if (st [cd (f / 27), cd (f % 27), cd (s / 27), cd (s % 27)]).length ≤ sizeLine then (atI (st [cd (f / 27), cd (f % 27), cd (s / 27), cd (s % 27)]).cps.toList 0).map fun c => (U.str ⟨#[c]⟩, m) else none) = _
        rw [len_st, if_pos (by simp; decide), st_list]
        rfl
      have hmod : ∀ x (m : Mem), oMod (.int x) (.int 27) m = some (.int (x % 27), m) := fun x m => by
        exact oMod_e (by decide)
      have hr : ∀ m, oRstrip (.str (st [cd (f / 27), cd (f % 27), cd (s / 27), cd (s % 27)])) [] m = some (.str (st ((trimL (dig f s)).map cd)), m) := fun m => by
        show (if lenOk (st [cd (f / 27), cd (f % 27), cd (s / 27), cd (s % 27)]) then some (U.str (Txt.rstrip (st [cd (f / 27), cd (f % 27), cd (s / 27), cd (s % 27)])), m) else none) = _
        rw [if_pos (show lenOk _ = true from decide_eq_true (by rw [len_st]; simp; decide)), ← rs (dig f s) hb]
        rfl
      have hin : ∀ m, inU m (.str (st [32])) (.str (st ((trimL (dig f s)).map cd))) = some (decide (0 ∈ trimL (dig f s))) := fun m => by
        show (match (st [32]).cps.toList with | [k] => some (decide (k ∈ (st ((trimL (dig f s)).map cd)).cps.toList)) | _ => none) = _
        rw [st_list, st_list]
        show some (decide (32 ∈ (trimL (dig f s)).map cd)) = _
        congr 1
        exact decide_eq_decide.mpr (in_cd fun n hn => (hb n (trim_mem hn)).1)
      have hmt : ∀ (m : Mem) (z : Str), isMT m .str (.str z) = true := fun _ _ => rfl
      by_cases h4 : f / 27 = 0
      · have h5 : cd (f / 27) = 32 := (cd_32 (by omega)).mpr h4
        have hq : ∀ m, eqU m (.str (st [cd (f / 27)])) (.str (st [32])) = some true := fun m => by rw [h5, eqU_s (by decide +kernel) (by decide +kernel)]; simp
        rw [if_neg (fun z => z.1 h4)]
        clear h5 h3 hb h4
        walk_at "ev"
      · have hq : ∀ m, eqU m (.str (st [cd (f / 27)])) (.str (st [32])) = some false := fun m => by
          rw [eqU_s (ok_cd (by omega) (by omega)) (by decide +kernel)]
          congr 1
          simp only [st_inj, List.cons.injEq, and_true]
          exact decide_eq_false fun z => h4 ((cd_32 (by omega)).mp z)
        have hst : ∀ m, oStrip (.str (st [cd (f / 27), cd (f % 27), cd (s / 27), cd (s % 27)])) [] m = some (.str (st ((trimL (dig f s)).map cd)), m) := fun m => by
          show (if lenOk (st [cd (f / 27), cd (f % 27), cd (s / 27), cd (s % 27)]) then some (U.str (Txt.strip (st [cd (f / 27), cd (f % 27), cd (s / 27), cd (s % 27)])), m) else none) = _
          rw [if_pos (show lenOk _ = true from decide_eq_true (by rw [len_st]; simp; decide))]
          exact congrArg (fun z => some (U.str z, m)) (ss (f / 27) [f % 27, s / 27, s % 27] hb h4)
        by_cases h5 : 0 ∈ trimL (dig f s)
        · rw [if_neg (fun z => z.2 h5)]
          rw [decide_eq_true h5] at hin
          clear h5 h3 hb h4
          walk_at "ev"
        · rw [if_pos ⟨h4, h5⟩]
          rw [decide_eq_false h5] at hin
          clear h5 h3 hb h4
          walk_at "ev"
end My

set_option Elab.async false
set_option linter.all false
set_option maxRecDepth 100000
set_option maxHeartbeats 2000000
namespace My
open PySem L2 Ev RZ
local macro_rules | `(tactic| walk_at "ev") => `(tactic| simp (disch := first | assumption | omega | simp; done | (simp only [List.length_map, List.length_append, List.length_cons, List.length_nil, List.length_replicate]; omega)) only [runB_e, List.length_cons, List.length_nil, List.length_map, Nat.reduceAdd, Nat.reduceSub, List.reduceReplicate, List.map_cons, List.map_nil, List.cons_append, List.nil_append, List.append_nil, List.set_cons_zero, List.set_cons_succ, List.getElem?_cons_zero, List.getElem?_cons_succ, evB, evX, evS, evO, evR, evR2, evI, evJ, evD, eqU_s, eqU_vo, valK_dk, Option.map_none,  nums_ints, flat_rep, Option.map_some, List.getElem?_append_left, dSlot_d, oMulG_a, oMulG_b, oMod_e, oTup_e, oLst_e, oList_e, oAdd_t, oMulG_t, eqU_tI, eqU_nil, eqU_i, dk_len, Bool.not_true, Bool.not_false, Bool.false_eq_true, if_true, if_false, if_pos, if_neg, mem_last, mem_setl, mem_mid, mem_setm, at3_0, at3_1, at3_2, ix3_0, ix3_2, decide_eq_true_eq, decide_true, decide_false, and_true, true_and, and_false, false_and, not_true_eq_false, not_false_eq_true, wipeU, *])
theorem runB_3 (l : Nat) (b : SD) (x y z : U) (m : Mem) : runB l 3 b [x, y, z] m = finS (b ([some x, some y, some z] ++ List.replicate (l - 3) none) m) := rfl
theorem runB_2 (l : Nat) (b : SD) (x y : U) (m : Mem) : runB l 2 b [x, y] m = finS (b ([some x, some y] ++ List.replicate (l - 2) none) m) := rfl
theorem runB_1 (l : Nat) (b : SD) (x : U) (m : Mem) : runB l 1 b [x] m = finS (b ([some x] ++ List.replicate (l - 1) none) m) := rfl
theorem seq_ok {a b : SD} {ρ ρ' : Ev.Env} {m m' : Mem} (h : a ρ m = .ok .nx ρ' m') : sSeq a b ρ m = b ρ' m' := by
  show thenS (a ρ m) b = _
  rw [h]; rfl
theorem if_no {t : XT} {a : SD} {ρ : Ev.Env} {m m' : Mem} (h : t ρ m = .ok false m') : sIf t a sNext ρ m = .ok .nx ρ m' := by
  show thenE (t ρ m) ρ _ = _
  rw [h]; rfl
theorem asg_ok {f : XD} {i : Nat} {u : U} {ρ : Ev.Env} {m m' : Mem} (h : f ρ m = .ok u m') : sAsg f (gName i) ρ m = .ok .nx (ρ.set i (some u)) m' := by
  show thenE (f ρ m) ρ _ = _
  rw [h]; rfl
theorem pos_of {α : Type} {l : List α} (h : l ≠ []) : 0 < l.length := List.length_pos_iff.mpr h
theorem last_at {l : List Int} (h : l ≠ []) : atI (l.map U.int) (-1) = some (.int (l.getD (l.length - 1) 0)) := by
  have hl : 0 < l.length := pos_of h
  unfold atI ixN
  rw [if_neg (by decide), List.length_map, if_pos (by omega)]
  show (l.map U.int)[(-1 + (l.length : Int)).toNat]? = _
  rw [show (-1 + (l.length : Int)).toNat = l.length - 1 by omega, List.getElem?_map, List.getD_eq_getElem?_getD, List.getElem?_eq_getElem (by omega)]
  rfl
theorem p_pops (x y z : Option U) (M : Mem) : ∀ (k : Nat) (l : List Int), l.length < k → whileN (tAn (tTru (dSlot 2)) (tBl (dOp oEq (dOp oIx (dSlot 2) (dUn oNeg (dC (.int 1)))) (dC (.int 0))))) (sExpr (dM0 .list oPop (dSlot 2))) k [x, y, some (.ref M.length), z] (M ++ [cI l]) = .ok .nx [x, y, some (.ref M.length), z] (M ++ [cI (trimL l)])
  | 0, l, h => by omega
  | k + 1, l, h => by
    rcases nil_or_end l with e | ⟨s, a, e⟩
    · subst e
      rw [whileN_step (c := false) (m1 := M ++ [cI []]) (by walk_at "ev")]
      simp [trimL]
    · subst e
      have hne : s ++ [a] ≠ [] := by simp
      have h2 := last_at hne
      have hget : (s ++ [a]).getD ((s ++ [a]).length - 1) 0 = a := by simp
      rw [hget] at h2
      have hie : ((s ++ [a]).map U.int).isEmpty = false := by simp
      by_cases ha : a = 0
      · have hpop : oPop (.ref M.length) [] (M ++ [cI (s ++ [a])]) = some (.int a, M ++ [cI s]) := by
          have := oPop_r (n := M.length) (us := s.map U.int) (u := .int a) (m := M ++ [cI (s ++ [a])]) (by rw [mem_last]; simp)
          rw [this, mem_setl]
        subst ha
        rw [whileN_step (c := true) (m1 := M ++ [cI (s ++ [0])]) (by walk_at "ev")]
        have ih := p_pops x y z M k s (by simp at h; omega)
        rw [if_pos rfl]
        simp only [evS, evX, evB, dSlot_d, List.getElem?_cons_zero, List.getElem?_cons_succ, isMT_r (mem_last M (cI (s ++ [0]))), if_true, hpop]
        rw [ih, trim_zero]
      · rw [whileN_step (c := false) (m1 := M ++ [cI (s ++ [a])]) (by walk_at "ev")]
        rw [if_neg (by simp), trim_end s ha]
def cnm (l : List Int) : U := if l = [] ∨ 0 ∈ l ∨ (∃ x ∈ l, 26 < x) then .non else .str (st (l.map cd))
theorem at_abc0 : ∀ n : Nat, n < 26 → atI ABC (n : Int) = some (cd ((n : Int) + 1)) := by decide +kernel
theorem at_abc {n : Int} (h0 : 1 ≤ n) (h1 : n ≤ 26) (m : Mem) : oIx (.str (st ABC)) (.int (n - 1)) m = some (.str (st [cd n]), m) := by
  have h := at_abc0 (n - 1).toNat (by omega)
  rw [Int.toNat_of_nonneg (by omega), show n - 1 + 1 = n by omega] at h
  show (if (st ABC).length ≤ sizeLine then (atI (st ABC).cps.toList (n - 1)).map fun c => (U.str ⟨#[c]⟩, m) else none) = _
  rw [if_pos (by decide +kernel), st_list, h]
  rfl
theorem txts_st : ∀ l : List Int, txts (l.map fun n => U.str (st [cd n])) = some (l.map fun n => st [cd n])
  | [] => rfl
  | n :: l => by rw [List.map_cons, txts, txts_st l]; rfl
theorem join_ok (l : List Int) (h4 : l.length ≤ 4) (M : Mem) : oJoin (.str (st [])) [.ref M.length] (M ++ [.lst (l.map fun n => U.str (st [cd n]))]) = some (.str (st (l.map cd)), M ++ [.lst (l.map fun n => U.str (st [cd n]))]) := by
  unfold oJoin itemsOf
  simp only [mem_last, txts_st]
  rw [if_pos]
  · have := join_st (l.map cd)
    rw [List.map_map] at this
    have hj : Txt.join (st []) (l.map fun n => st [cd n]) = Str.join (st []) (l.map fun n => st [cd n]) := PySem.StrLaws.glued_eq_join _ _
    rw [hj, show (l.map fun n => st [cd n]) = l.map ((fun c => st [c]) ∘ cd) from rfl, this]
  · have h0 : (st []).length = 0 := rfl
    rw [h0, Nat.mul_zero, Nat.add_zero]
    have : ∀ l : List Int, ((l.map fun n => st [cd n]).map (·.length)).sum = l.length := by
      intro l
      induction l with
      | nil => rfl
      | cons a r ih => rw [List.map_cons, List.map_cons, List.sum_cons, ih, List.length_cons, len_st]; simp; omega
    rw [this]; omega
theorem trim_len (l : List Int) : (trimL l).length ≤ l.length := by
  induction l with
  | nil => exact Nat.le_refl _
  | cons a r ih =>
    unfold trimL
    split
    · exact Nat.zero_le _
    · simp; omega
theorem min_zero {a : Int} {r : List Int} (h : ∀ x ∈ a :: r, 0 ≤ x) : (minL a r = 0) ↔ 0 ∈ a :: r := by
  obtain ⟨h1, h2⟩ := minL_ok r a
  constructor
  · intro e; rw [e] at h1; exact h1
  · intro e
    have := h2 0 e
    have := h _ h1
    omega
theorem max_big {a : Int} {r : List Int} : (26 < maxL a r) ↔ ∃ x ∈ a :: r, 26 < x := by
  obtain ⟨h1, h2⟩ := maxL_ok r a
  constructor
  · intro e; exact ⟨_, h1, e⟩
  · intro ⟨x, hx, e⟩
    have := h2 x hx
    omega
theorem p_chk (i : Int) (h0 : 0 ≤ i) (h1 : i ≤ 996) (m : Mem) : d_check_number [.int i, .int 0, .int 996] m = .ok .non m := by
  unfold d_check_number b_check_number
  have h := p_num i 0 996 m (by decide) (by decide)
  rw [decide_eq_true ⟨h0, h1⟩] at h
  walk_at "ev"
theorem p_cname (f s : Int) (hf0 : 0 ≤ f) (hf1 : f ≤ 996) (hs0 : 0 ≤ s) (hs1 : s ≤ 996) (m : Mem) : ∃ t, d_cells_name [.int f, .int s] m = .ok (cnm (trimL (dig f s))) (m ++ t) := by
  have c1 := p_chk f hf0 hf1
  have c2 := p_chk s hs0 hs1
  have hnn : ∀ x ∈ trimL (dig f s), 0 ≤ x := by
    intro x hx
    have := trim_mem hx
    simp only [dig, List.mem_cons, List.not_mem_nil, or_false] at this
    rcases this with e | e | e | e <;> subst e <;> omega
  have hl := trim_len (dig f s)
  have hl4 : (dig f s).length = 4 := rfl
  have hw := p_pops (some (.int f)) (some (.int s)) none (m ++ [cI [f / 27, f % 27]] ++ [cI [s / 27, s % 27]]) 1000000 (dig f s) (by rw [hl4]; decide)
  have hdm : ∀ (x : Int) (m : Mem), oDivmod [.int x, .int 27] m = some (.tup [.int (x / 27), .int (x % 27)], m) := fun x m => (if_pos (by decide) : (if (0 : Int) < 27 ∧ (27 : Int) < 1073741824 then some (U.tup [.int (x / 27), .int (x % 27)], m) else none) = _)
  have htl : ∀ (us : List U) (m : Mem), oToLst [.tup us] m = some (.ref m.length, m ++ [.lst us]) := fun _ _ => rfl
  have had : ∀ (a b c d : Int) (m : Mem), oAdd (.ref m.length) (.ref (m ++ [Cell.lst [.int a, .int b]]).length) (m ++ [Cell.lst [.int a, .int b]] ++ [Cell.lst [.int c, .int d]]) = some (.ref (m ++ [Cell.lst [.int a, .int b]] ++ [Cell.lst [.int c, .int d]]).length, m ++ [Cell.lst [.int a, .int b]] ++ [Cell.lst [.int c, .int d]] ++ [Cell.lst [.int a, .int b, .int c, .int d]]) := by
    intro a b c d m
    rw [oAdd_r (mem_old (mem_last m _)) (mem_last _ _) (by simp)]
    rfl
  have e3 : (dOp oAdd (dB oToLst (lCons (dB oDivmod (lCons (dSlot 0) (lCons (dC (.int 27)) lNil))) lNil)) (dB oToLst (lCons (dB oDivmod (lCons (dSlot 1) (lCons (dC (.int 27)) lNil))) lNil))) [some (.int f), some (.int s), none, none] m = .ok (.ref (m ++ [cI [f / 27, f % 27]] ++ [cI [s / 27, s % 27]]).length) (m ++ [cI [f / 27, f % 27]] ++ [cI [s / 27, s % 27]] ++ [cI (dig f s)]) := by
    show _ = R.ok (U.ref (m ++ [Cell.lst [.int (f / 27), .int (f % 27)]] ++ [Cell.lst [.int (s / 27), .int (s % 27)]]).length) (m ++ [Cell.lst [.int (f / 27), .int (f % 27)]] ++ [Cell.lst [.int (s / 27), .int (s % 27)]] ++ [Cell.lst [.int (f / 27), .int (f % 27), .int (s / 27), .int (s % 27)]])
    clear hw hnn hl
    walk_at "ev"
  unfold d_cells_name b_cells_name
  rw [runB_2]
  show ∃ t, finS (sSeq _ _ [some (.int f), some (.int s), none, none] m) = _
  rw [seq_ok (show sExpr _ [some (.int f), some (.int s), none, none] m = .ok .nx [some (.int f), some (.int s), none, none] m by walk_at "ev")]
  rw [seq_ok (show sExpr _ [some (.int f), some (.int s), none, none] m = .ok .nx [some (.int f), some (.int s), none, none] m by walk_at "ev")]
  rw [seq_ok (asg_ok e3)]
  show ∃ t, finS (sSeq _ _ [some (.int f), some (.int s), some (.ref (m ++ [cI [f / 27, f % 27]] ++ [cI [s / 27, s % 27]]).length), none] (m ++ [cI [f / 27, f % 27]] ++ [cI [s / 27, s % 27]] ++ [cI (dig f s)])) = _
  rw [seq_ok (show sWhile _ _ _ _ = _ from hw)]
  clear hw e3
  obtain ⟨M, hM⟩ : ∃ M, m ++ [cI [f / 27, f % 27]] ++ [cI [s / 27, s % 27]] = M := ⟨_, rfl⟩
  rw [hM]
  suffices h : ∃ t, finS (sSeq (sIf (tO (tN (tTru (dSlot 2))) (tO (tBl (dOp oEq (dB oMinL (lCons (dSlot 2) lNil)) (dC (.int 0)))) (tBl (dOp oGt (dB oMaxL (lCons (dSlot 2) lNil)) (dB oLen (lCons (dC (.str (st ABC))) lNil)))))) (sRet (dC .non)) sNext)
      (sRet (dM .str oJoin (dC (.str (st []))) (lCons (dLc (iAny (dSlot 2)) (gName 3) tYesU (dOp oIx (dC (.str (st ABC))) (dOp oSub (dSlot 3) (dC (.int 1)))) [3]) lNil))) [some (.int f), some (.int s), some (.ref M.length), none] (M ++ [cI (trimL (dig f s))])) = .ok (cnm (trimL (dig f s))) (M ++ t) by
    obtain ⟨t, e⟩ := h
    refine ⟨[cI [f / 27, f % 27]] ++ [cI [s / 27, s % 27]] ++ t, ?_⟩
    rw [show m ++ ([cI [f / 27, f % 27]] ++ [cI [s / 27, s % 27]] ++ t) = M ++ t by rw [← hM]; simp only [List.append_assoc]]
    exact e
  clear hM c1 c2 had htl hdm
  generalize trimL (dig f s) = L at *
  cases L with
  | nil =>
    have he : cnm [] = .non := rfl
    rw [he]
    refine ⟨[cI []], ?_⟩
    walk_at "ev"
  | cons a r =>
    have hmn : oMinL [.ref M.length] (M ++ [cI (a :: r)]) = some (.int (minL a r), M ++ [cI (a :: r)]) := by
      unfold oMinL itemsOf
      simp only [mem_last, nums_ints]
      rfl
    have hmx : oMaxL [.ref M.length] (M ++ [cI (a :: r)]) = some (.int (maxL a r), M ++ [cI (a :: r)]) := by
      unfold oMaxL itemsOf
      simp only [mem_last, nums_ints]
      rfl
    have z1 : (minL a r = 0) ↔ 0 ∈ a :: r := min_zero hnn
    have z2 : (26 < maxL a r) ↔ ∃ x ∈ a :: r, 26 < x := max_big
    have hie : ((a :: r).map U.int).isEmpty = false := rfl
    have hne : a :: r ≠ [] := by simp
    generalize minL a r = mn at *
    generalize maxL a r = mx at *
    generalize a :: r = L at *
    have l26 : (st ABC).length = 26 := rfl
    have b26 : 26 ≤ sizeLine := by decide
    have i26 : ((26 : Nat) : Int) = 26 := rfl
    by_cases h0 : 0 ∈ L
    · have he : cnm L = .non := if_pos (.inr (.inl h0))
      rw [he]
      have hq : ∀ m : Mem, eqU m (.int mn) (.int 0) = some true := fun m => by rw [eqU_i, decide_eq_true (z1.mpr h0)]
      refine ⟨[cI L], ?_⟩
      clear hnn hl z1 z2 h0 he
      walk_at "ev"
    · have hq : ∀ m : Mem, eqU m (.int mn) (.int 0) = some false := fun m => by rw [eqU_i, decide_eq_false (fun z => h0 (z1.mp z))]
      by_cases h6 : ∃ x ∈ L, 26 < x
      · have he : cnm L = .non := if_pos (.inr (.inr h6))
        rw [he]
        have hg : decide ((26 : Int) < mx) = true := decide_eq_true (z2.mpr h6)
        refine ⟨[cI L], ?_⟩
        clear hnn hl z1 z2 h0 he h6
        walk_at "ev"
      · have he : cnm L = .str (st (L.map cd)) := if_neg (fun z => z.elim hne fun z => z.elim h0 h6)
        rw [he]
        have hg : decide ((26 : Int) < mx) = false := decide_eq_false fun z => h6 (z2.mp z)
        have hb : ∀ x ∈ L, 1 ≤ x ∧ x ≤ 26 := fun x hx => by
          have e1 := hnn x hx
          have e2 : ¬ 26 < x := fun z => h6 ⟨x, hx, z⟩
          have e3 : x ≠ 0 := fun z => h0 (z ▸ hx)
          omega
        have hlen : L.length ≤ 4 := by omega
        have hl24 : L.length ≤ 16777216 := by omega
        obtain ⟨t, e⟩ := compN_map (nx := nxL M.length) (g := gName 3) (e := dOp oIx (dC (.str (st ABC))) (dOp oSub (dSlot 3) (dC (.int 1)))) (ρ := [some (.int f), some (.int s), some (.ref M.length), none]) (P := fun m => m[M.length]? = some (cI L)) (us := L.map .int) (F := fun u => match u with | .int n => .str (st [cd n]) | _ => .non) (fun m t h => mem_old h) (fun i m h => nxL_e h i) L.length 0 (M ++ [cI L]) (mem_last _ _) (by simp) (by
          intro u hu m _
          obtain ⟨n, hn, rfl⟩ := List.mem_map.mp hu
          have ha := at_abc (hb n hn).1 (hb n hn).2
          refine ⟨[some (.int f), some (.int s), some (.ref M.length), some (.int n)], [], rfl, ?_⟩
          walk_at "ev")
        have e0 : ((L.map U.int).drop 0).map (fun u => match u with | .int n => U.str (st [cd n]) | _ => .non) = L.map fun n => U.str (st [cd n]) := by
          rw [List.drop_zero, List.map_map]; rfl
        rw [e0] at e
        have hj := join_ok L hlen (M ++ [cI L] ++ t)
        refine ⟨[cI L] ++ t ++ [.lst (L.map fun n => U.str (st [cd n]))], ?_⟩
        rw [show M ++ ([cI L] ++ t ++ [.lst (L.map fun n => U.str (st [cd n]))]) = M ++ [cI L] ++ t ++ [.lst (L.map fun n => U.str (st [cd n]))] by simp only [List.append_assoc]]
        have hmt : ∀ (m : Mem) (z : Str), isMT m .str (.str z) = true := fun _ _ => rfl
        clear hnn hl hb z1 z2 h0 he h6 hne hlen
        walk_at "ev"
end My

set_option Elab.async false
set_option linter.all false
set_option maxRecDepth 100000
set_option maxHeartbeats 2000000
namespace My
open PySem L2 Ev RZ
local macro_rules | `(tactic| walk_at "ev") => `(tactic| simp (disch := first | assumption | omega | simp; done | (simp only [List.length_map, List.length_append, List.length_cons, List.length_nil, List.length_replicate]; omega)) only [runB_e, List.length_cons, List.length_nil, List.length_map, Nat.reduceAdd, Nat.reduceSub, List.reduceReplicate, List.map_cons, List.map_nil, List.cons_append, List.nil_append, List.append_nil, List.set_cons_zero, List.set_cons_succ, List.getElem?_cons_zero, List.getElem?_cons_succ, evB, evX, evS, evO, evR, evR2, evI, evJ, evD, eqU_s, eqU_vo, valK_dk, Option.map_none,  nums_ints, flat_rep, Option.map_some, List.getElem?_append_left, dSlot_d, oMulG_a, oMulG_b, oMod_e, oTup_e, oLst_e, oList_e, oAdd_t, oMulG_t, eqU_tI, eqU_nil, eqU_i, dk_len, Bool.not_true, Bool.not_false, Bool.false_eq_true, if_true, if_false, if_pos, if_neg, mem_last, mem_setl, mem_mid, mem_setm, at3_0, at3_1, at3_2, ix3_0, ix3_2, decide_eq_true_eq, decide_true, decide_false, and_true, true_and, and_false, false_and, not_true_eq_false, not_false_eq_true, wipeU, *])
def nm (c : Nat) : Int := (c : Int) - 97 + 1
theorem idx0 : ∀ c ∈ ABC, Builtin.Str.occurrences (st ABC) (st [c]) 0 (st ABC).length 1 = [c - 97] := by decide +kernel
theorem abc_b : ∀ c ∈ ABC, 97 ≤ c ∧ c ≤ 122 := by decide
theorem p_idx {c : Nat} (h : c ∈ ABC) (m : Mem) : oSindex (.str (st ABC)) [.str (st [c])] m = some (.int ((c : Int) - 97), m) := by
  show (match Builtin.Str.occurrences (st ABC) (st [c]) 0 (st ABC).length 1 with | i :: _ => some (U.int (i : Nat), m) | [] => none) = _
  rw [idx0 c h]
  have := (abc_b c h).1
  show some (U.int ((c - 97 : Nat) : Int), m) = _
  rw [show ((c - 97 : Nat) : Int) = (c : Int) - 97 by omega]
def dl (l : List Nat) : List Int := l.map nm ++ List.replicate (4 - l.length) 0
theorem p_chkn (l : List Nat) (h1 : 1 ≤ l.length) (h4 : l.length ≤ 4) (h : ∀ c ∈ l, c ∈ ABC) (m : Mem) : ∃ t, d_check_name [.str (st l)] m = .ok .non (m ++ t) := by
  obtain ⟨t, e⟩ := p_name l h1 h4 h m
  unfold d_check_name b_check_name
  refine ⟨t, ?_⟩
  walk_at "ev"
theorem dOp_ok {F : U → U → Mem → O U} {a b : XD} {ρ : Ev.Env} {m m1 m2 m3 : Mem} {u v w : U} (ha : a ρ m = .ok u m1) (hb : b ρ m1 = .ok v m2) (hf : F u v m2 = some (w, m3)) : dOp F a b ρ m = .ok w m3 := by
  unfold dOp
  rw [ha]
  show (b ρ m1).bind _ = _
  rw [hb]
  show ofO (F u v m2) = _
  rw [hf]; rfl
theorem p_ncells (l : List Nat) (h1 : 1 ≤ l.length) (h4 : l.length ≤ 4) (h : ∀ c ∈ l, c ∈ ABC) (n0 n1 n2 n3 : Int) (hd : dl l = [n0, n1, n2, n3]) (m : Mem) : ∃ t, d_name_cells [.str (st l)] m = .ok (.tup [.int (27 * n0 + n1), .int (27 * n2 + n3)]) (m ++ t) := by
  obtain ⟨t1, e1⟩ := p_chkn l h1 h4 h m
  have hs : ∀ m, srcA m (.str (st l)) = some (.fix (l.map fun c => .str (st [c]))) := fun m => by
    show some (Src.fix (signs (st l))) = _
    rw [signs_st]
  obtain ⟨t2, e2⟩ := compL_map (g := gName 2) (e := dOp oAdd (dM .str oSindex (dC (.str (st ABC))) (lCons (dSlot 2) lNil)) (dC (.int 1))) (ρ := [some (.str (st l)), none, none]) (F := fun u => match u with | .str x => .int (nm (x.cps.toList.headD 0)) | _ => .non) (P := fun _ => True) (fun _ _ _ => trivial) (l.map fun c => .str (st [c])) (m ++ t1) trivial (by
    intro u hu m _
    obtain ⟨c, hc, rfl⟩ := List.mem_map.mp hu
    have hi := p_idx (h c hc)
    have hmt : ∀ (m : Mem) (z : Str), isMT m .str (.str z) = true := fun _ _ => rfl
    refine ⟨[some (.str (st l)), none, some (.str (st [c]))], [], rfl, ?_⟩
    show _ = R.ok (U.int (nm ((st [c]).cps.toList.headD 0))) (m ++ [])
    rw [st_list]
    show _ = R.ok (U.int ((c : Int) - 97 + 1)) (m ++ [])
    walk_at "ev")
  have e0 : ((l.map fun c => U.str (st [c])).map fun u => match u with | .str x => U.int (nm (x.cps.toList.headD 0)) | _ => .non) = l.map fun c => U.int (nm c) := by
    rw [List.map_map]
    refine List.map_congr_left fun c _ => ?_
    show U.int (nm ((st [c]).cps.toList.headD 0)) = _
    rw [st_list]; rfl
  rw [e0] at e2
  have hl := len_st l
  have hsz : l.length ≤ sizeLine := Nat.le_trans h4 (by decide)
  have hk : (4 - (l.length : Int)).toNat = 4 - l.length := by omega
  obtain ⟨M, hM⟩ : ∃ M, m ++ t1 ++ t2 = M := ⟨_, rfl⟩
  rw [hM] at e2
  obtain ⟨A, hA⟩ : ∃ A : Cell, A = .lst (l.map fun c => U.int (nm c)) := ⟨_, rfl⟩
  have hD : (l.map fun c => U.int (nm c)) ++ List.replicate (4 - l.length) (U.int 0) = [.int n0, .int n1, .int n2, .int n3] := by
    have := congrArg (List.map U.int) hd
    rw [dl, List.map_append, List.map_map, List.map_replicate] at this
    exact this
  have had : oAdd (.ref M.length) (.ref (M ++ [A] ++ [Cell.lst [U.int 0]]).length) (M ++ [A] ++ [Cell.lst [U.int 0]] ++ [Cell.lst (List.replicate (4 - l.length) (U.int 0))]) = some (.ref (M ++ [A] ++ [Cell.lst [U.int 0]] ++ [Cell.lst (List.replicate (4 - l.length) (U.int 0))]).length, M ++ [A] ++ [Cell.lst [U.int 0]] ++ [Cell.lst (List.replicate (4 - l.length) (U.int 0))] ++ [.lst [.int n0, .int n1, .int n2, .int n3]]) := by
    subst hA
    rw [oAdd_r (mem_old (mem_old (mem_last M _))) (mem_last _ _) (by simp; omega), hD]
  have hA' : ∀ m : Mem, oList (some (l.map fun c => U.int (nm c), m)) = some (.ref m.length, m ++ [A]) := fun m => by
    rw [oList_e (by simp; omega), hA]
  have hml : ∀ m : Mem, oMulG (.ref m.length) (.int (4 - (l.length : Int))) (m ++ [Cell.lst [U.int 0]]) = some (.ref (m ++ [Cell.lst [U.int 0]]).length, m ++ [Cell.lst [U.int 0]] ++ [Cell.lst (List.replicate (4 - l.length) (U.int 0))]) := fun m => by
    rw [oMulG_r (mem_last _ _) (by omega) (by omega) (by simp; omega), hk]
    simp
  have hln : (dB oLen (lCons (dSlot 0) lNil)) [some (.str (st l)), none, none] = fun m => .ok (.int (l.length : Int)) m := by
    funext m
    walk_at "ev"
  have hz4 : ∀ m, (dOp oMulG (dLst (lCons (dC (.int 0)) lNil)) (dOp oSub (dC (.int 4)) (dB oLen (lCons (dSlot 0) lNil)))) [some (.str (st l)), none, none] m = .ok (.ref (m ++ [Cell.lst [U.int 0]]).length) (m ++ [Cell.lst [U.int 0]] ++ [Cell.lst (List.replicate (4 - l.length) (U.int 0))]) := fun m => by
    have h1 : (dLst (lCons (dC (.int 0)) lNil)) [some (.str (st l)), none, none] m = .ok (.ref m.length) (m ++ [Cell.lst [U.int 0]]) := rfl
    show ((dLst (lCons (dC (.int 0)) lNil)) [some (.str (st l)), none, none] m).bind _ = _
    rw [h1]
    show (((dC (.int 4)) [some (.str (st l)), none, none] (m ++ [Cell.lst [U.int 0]])).bind fun u m1 => ((dB oLen (lCons (dSlot 0) lNil)) [some (.str (st l)), none, none] m1).bind fun v m2 => ofO (oSub u v m2)).bind (fun v m2 => ofO (oMulG (.ref m.length) v m2)) = _
    rw [show (dC (.int 4)) [some (.str (st l)), none, none] (m ++ [Cell.lst [U.int 0]]) = .ok (.int 4) (m ++ [Cell.lst [U.int 0]]) from rfl]
    show (((dB oLen (lCons (dSlot 0) lNil)) [some (.str (st l)), none, none] (m ++ [Cell.lst [U.int 0]])).bind fun v m2 => ofO (oSub (.int 4) v m2)).bind (fun v m2 => ofO (oMulG (.ref m.length) v m2)) = _
    rw [hln]
    show ofO (oMulG (.ref m.length) (.int (4 - (l.length : Int))) (m ++ [Cell.lst [U.int 0]])) = _
    rw [hml]; rfl
  have hcp : (dLc (iAny (dSlot 0)) (gName 2) tYesU (dOp oAdd (dM .str oSindex (dC (.str (st ABC))) (lCons (dSlot 2) lNil)) (dC (.int 1))) [2]) [some (.str (st l)), none, none] (m ++ t1) = .ok (.ref M.length) (M ++ [A]) := by
    clear hd hD hA h hM e0 hml had hz4 hln
    walk_at "ev"
  have e4 : (dOp oAdd (dLc (iAny (dSlot 0)) (gName 2) tYesU (dOp oAdd (dM .str oSindex (dC (.str (st ABC))) (lCons (dSlot 2) lNil)) (dC (.int 1))) [2]) (dOp oMulG (dLst (lCons (dC (.int 0)) lNil)) (dOp oSub (dC (.int 4)) (dB oLen (lCons (dSlot 0) lNil))))) [some (.str (st l)), none, none] (m ++ t1) = .ok (.ref (M ++ [A] ++ [Cell.lst [U.int 0]] ++ [Cell.lst (List.replicate (4 - l.length) (U.int 0))]).length) (M ++ [A] ++ [Cell.lst [U.int 0]] ++ [Cell.lst (List.replicate (4 - l.length) (U.int 0))] ++ [.lst [.int n0, .int n1, .int n2, .int n3]]) := by
    exact dOp_ok hcp (hz4 _) had
  unfold d_name_cells b_name_cells
  rw [runB_1]
  show ∃ t, finS (sSeq _ _ [some (.str (st l)), none, none] m) = _
  rw [seq_ok (show sExpr _ [some (.str (st l)), none, none] m = .ok .nx [some (.str (st l)), none, none] (m ++ t1) by walk_at "ev")]
  rw [seq_ok (asg_ok e4)]
  refine ⟨t1 ++ t2 ++ [A] ++ [Cell.lst [U.int 0]] ++ [Cell.lst (List.replicate (4 - l.length) (U.int 0))] ++ [.lst [.int n0, .int n1, .int n2, .int n3]], ?_⟩
  rw [show m ++ (t1 ++ t2 ++ [A] ++ [Cell.lst [U.int 0]] ++ [Cell.lst (List.replicate (4 - l.length) (U.int 0))] ++ [.lst [.int n0, .int n1, .int n2, .int n3]]) = M ++ [A] ++ [Cell.lst [U.int 0]] ++ [Cell.lst (List.replicate (4 - l.length) (U.int 0))] ++ [.lst [.int n0, .int n1, .int n2, .int n3]] by rw [← hM]; simp only [List.append_assoc]]
  generalize M ++ [A] ++ [Cell.lst [U.int 0]] ++ [Cell.lst (List.replicate (4 - l.length) (U.int 0))] = N
  show finS (sRet _ [some (.str (st l)), some (.ref N.length), none] (N ++ [.lst [.int n0, .int n1, .int n2, .int n3]])) = _
  have i0 : atI [U.int n0, .int n1, .int n2, .int n3] 0 = some (.int n0) := rfl
  have i1 : atI [U.int n0, .int n1, .int n2, .int n3] 1 = some (.int n1) := rfl
  have i2 : atI [U.int n0, .int n1, .int n2, .int n3] 2 = some (.int n2) := rfl
  have i3 : atI [U.int n0, .int n1, .int n2, .int n3] 3 = some (.int n3) := rfl
  clear hd hD hA h hM e0 hml had hz4 hln hcp e4 hA' e1 e2 hs
  walk_at "ev"
end My

set_option Elab.async false
set_option linter.all false
set_option maxRecDepth 100000
set_option maxHeartbeats 2000000
namespace My
open PySem L2 Ev RZ
local macro_rules | `(tactic| walk_at "ev") => `(tactic| simp (disch := first | assumption | omega | simp; done | (simp only [List.length_map, List.length_append, List.length_cons, List.length_nil, List.length_replicate]; omega)) only [runB_e, List.length_cons, List.length_nil, List.length_map, Nat.reduceAdd, Nat.reduceSub, List.reduceReplicate, List.map_cons, List.map_nil, List.cons_append, List.nil_append, List.append_nil, List.set_cons_zero, List.set_cons_succ, List.getElem?_cons_zero, List.getElem?_cons_succ, evB, evX, evS, evO, evR, evR2, evI, evJ, evD, eqU_s, eqU_vo, valK_dk, Option.map_none,  nums_ints, flat_rep, Option.map_some, List.getElem?_append_left, dSlot_d, oMulG_a, oMulG_b, oMod_e, oTup_e, oLst_e, oList_e, oAdd_t, oMulG_t, eqU_tI, eqU_nil, eqU_i, dk_len, Bool.not_true, Bool.not_false, Bool.false_eq_true, if_true, if_false, if_pos, if_neg, mem_last, mem_setl, mem_mid, mem_setm, at3_0, at3_1, at3_2, ix3_0, ix3_2, decide_eq_true_eq, decide_true, decide_false, and_true, true_and, and_false, false_and, not_true_eq_false, not_false_eq_true, wipeU, *])
abbrev bodF : SD := sAsg (dOp oAdd (dOp oIx (dSlot 1) (dOp oDiv (dSlot 2) (dC (.int 2)))) (dOp oMulG (dOp oIx (dTup (lCons (dC (.int 27)) (lCons (dC (.int 1)) lNil))) (dOp oMod (dSlot 2) (dC (.int 2)))) (dOp oAdd (dM .str oSindex (dC (.str (st ABC))) (lCons (dSlot 3) lNil)) (dC (.int 1))))) (gSub oSetL (dSlot 1) (dOp oDiv (dSlot 2) (dC (.int 2))))
def fgo (i : Nat) (c : Nat) (x y : Int) : Int × Int := match i with
  | 0 => (x + 27 * nm c, y)
  | 1 => (x + nm c, y)
  | 2 => (x, y + 27 * nm c)
  | _ => (x, y + nm c)
theorem p_bodF (i : Nat) (j k : Int) (hj : (j = 0 ∧ k = 0 ∧ i = 0) ∨ (j = 1 ∧ k = 1 ∧ i = 1) ∨ (j = 2 ∧ k = 2 ∧ i = 2) ∨ (j = 3 ∧ k = 3 ∧ i = 3)) (c : Nat) (h : c ∈ ABC) (x y : Int) (w : Option U) (M : Mem) : bodF [w, some (.ref M.length), some (.int j), some (.str (st [c]))] (M ++ [.lst [.int x, .int y]]) = .ok .nx [w, some (.ref M.length), some (.int j), some (.str (st [c]))] (M ++ [.lst [.int (fgo i c x y).1, .int (fgo i c x y).2]]) := by
  have hx := p_idx h
  have hmt : ∀ (m : Mem) (z : Str), isMT m .str (.str z) = true := fun _ _ => rfl
  have a0 : atI [U.int x, .int y] 0 = some (.int x) := rfl
  have a1 : atI [U.int x, .int y] 1 = some (.int y) := rfl
  have a2 : atI [U.int 27, .int 1] 0 = some (.int 27) := rfl
  have a3 : atI [U.int 27, .int 1] 1 = some (.int 1) := rfl
  have x0 : ixN 2 0 = some 0 := rfl
  have x1 : ixN 2 1 = some 1 := rfl
  have hd : ∀ (x : Int) (m : Mem), oDiv (.int x) (.int 2) m = some (.int (x / 2), m) := fun x m => by
    show (if (0 : Int) < 2 ∧ (2 : Int).natAbs.log2 < 9000 then some (U.int (x / 2), m) else none) = _
    rw [if_pos ⟨by decide, by decide +kernel⟩]
  have d0 : (0 : Int) / 2 = 0 := rfl
  have d1 : (1 : Int) / 2 = 0 := rfl
  have d2 : (2 : Int) / 2 = 1 := rfl
  have d3 : (3 : Int) / 2 = 1 := rfl
  have m0 : (0 : Int) % 2 = 0 := rfl
  have m1 : (1 : Int) % 2 = 1 := rfl
  have m2 : (2 : Int) % 2 = 0 := rfl
  have m3 : (3 : Int) % 2 = 1 := rfl
  have hn : nm c = (c : Int) - 97 + 1 := rfl
  have hb := abc_b c h
  have q1 : -18446744073709551616 < (c : Int) - 97 + 1 := by omega
  have q2 : (c : Int) - 97 + 1 < 18446744073709551616 := by omega
  have hone : (1 : Int) * ((c : Int) - 97 + 1) = (c : Int) - 97 + 1 := Int.one_mul _
  clear hb h
  rcases hj with ⟨e, e2, e3⟩ | ⟨e, e2, e3⟩ | ⟨e, e2, e3⟩ | ⟨e, e2, e3⟩ <;> subst e <;> subst e2 <;> subst e3 <;> unfold fgo <;> rw [hn] <;> clear hn
  · walk_at "ev"
  · walk_at "ev"
  · walk_at "ev"
  · walk_at "ev"
end My

set_option Elab.async false
set_option linter.all false
set_option maxRecDepth 100000
set_option maxHeartbeats 2000000
namespace My
open PySem L2 Ev RZ
local macro_rules | `(tactic| walk_at "ev") => `(tactic| simp (disch := first | assumption | omega | simp; done | (simp only [List.length_map, List.length_append, List.length_cons, List.length_nil, List.length_replicate]; omega)) only [runB_e, List.length_cons, List.length_nil, List.length_map, Nat.reduceAdd, Nat.reduceSub, List.reduceReplicate, List.map_cons, List.map_nil, List.cons_append, List.nil_append, List.append_nil, List.set_cons_zero, List.set_cons_succ, List.getElem?_cons_zero, List.getElem?_cons_succ, evB, evX, evS, evO, evR, evR2, evI, evJ, evD, eqU_s, eqU_vo, valK_dk, Option.map_none,  nums_ints, flat_rep, Option.map_some, List.getElem?_append_left, dSlot_d, oMulG_a, oMulG_b, oMod_e, oTup_e, oLst_e, oList_e, oAdd_t, oMulG_t, eqU_tI, eqU_nil, eqU_i, dk_len, Bool.not_true, Bool.not_false, Bool.false_eq_true, if_true, if_false, if_pos, if_neg, mem_last, mem_setl, mem_mid, mem_setm, at3_0, at3_1, at3_2, ix3_0, ix3_2, decide_eq_true_eq, decide_true, decide_false, and_true, true_and, and_false, false_and, not_true_eq_false, not_false_eq_true, wipeU, *])
theorem for_e {f : ID} {g : GD} {b : SD} {ρ : Ev.Env} {m m1 : Mem} {us : List U} (h : f ρ m = .ok (.fix us) m1) : sFor f g b ρ m = forL g b us ρ m1 := by
  show thenE (f ρ m) ρ _ = _
  rw [h]; rfl
abbrev gF : GD := gTup 2 (gCons (gName 2) (gCons (gName 3) gNil))
theorem fig_step (i : Nat) (j : Int) (hj : (j = 0 ∧ j = 0 ∧ i = 0) ∨ (j = 1 ∧ j = 1 ∧ i = 1) ∨ (j = 2 ∧ j = 2 ∧ i = 2) ∨ (j = 3 ∧ j = 3 ∧ i = 3)) (c : Nat) (h : c ∈ ABC) (x y : Int) (w p q : Option U) (rest : List U) (M : Mem) :
    forL gF bodF (.tup [.int j, .str (st [c])] :: rest) [w, some (.ref M.length), p, q] (M ++ [.lst [.int x, .int y]]) = forL gF bodF rest [w, some (.ref M.length), some (.int j), some (.str (st [c]))] (M ++ [.lst [.int (fgo i c x y).1, .int (fgo i c x y).2]]) := by
  have e := p_bodF i j j hj c h x y w M
  show loopS (bodF [w, some (.ref M.length), some (.int j), some (.str (st [c]))] (M ++ [.lst [.int x, .int y]])) (forL gF bodF rest) = _
  rw [e]; rfl
theorem fig_end (ρ : Ev.Env) (M : Mem) : forL gF bodF [] ρ M = .ok .nx ρ M := rfl
theorem p_figures (l : List Nat) (h1 : 1 ≤ l.length) (h4 : l.length ≤ 4) (h : ∀ c ∈ l, c ∈ ABC) (n0 n1 n2 n3 : Int) (hd : dl l = [n0, n1, n2, n3]) (m : Mem) : ∃ t, d_law_figures [.str (st l)] m = .ok (.tup [.int (27 * n0 + n1), .int (27 * n2 + n3)]) (m ++ t) := by
  have hsrc : iEnum (lCons (dSlot 0) lNil) [some (.str (st l)), some (.ref m.length), none, none] (m ++ [.lst [.int 0, .int 0]]) = .ok (.fix (enumU 0 (l.map fun c => .str (st [c])))) (m ++ [.lst [.int 0, .int 0]]) := by
    show R.ok (Src.fix (enumU 0 (signs (st l)))) _ = _
    rw [signs_st]
  have hloop : ∃ p q, forL gF bodF (enumU 0 (l.map fun c => .str (st [c]))) [some (.str (st l)), some (.ref m.length), none, none] (m ++ [.lst [.int 0, .int 0]]) = .ok .nx [some (.str (st l)), some (.ref m.length), p, q] (m ++ [.lst [.int (27 * n0 + n1), .int (27 * n2 + n3)]]) := by
    match l, h1, h4 with
    | [a], _, _ =>
      cases hd
      refine ⟨some (.int 0), some (.str (st [a])), ?_⟩
      show forL gF bodF [.tup [.int 0, .str (st [a])]] _ _ = _
      rw [fig_step 0 0 (by omega) a (h a (by simp)), fig_end]
      simp [fgo]
    | [a, b], _, _ =>
      cases hd
      refine ⟨some (.int 1), some (.str (st [b])), ?_⟩
      show forL gF bodF [.tup [.int 0, .str (st [a])], .tup [.int 1, .str (st [b])]] _ _ = _
      rw [fig_step 0 0 (by omega) a (h a (by simp)), fig_step 1 1 (by omega) b (h b (by simp)), fig_end]
      simp [fgo]
    | [a, b, c], _, _ =>
      cases hd
      refine ⟨some (.int 2), some (.str (st [c])), ?_⟩
      show forL gF bodF [.tup [.int 0, .str (st [a])], .tup [.int 1, .str (st [b])], .tup [.int 2, .str (st [c])]] _ _ = _
      rw [fig_step 0 0 (by omega) a (h a (by simp)), fig_step 1 1 (by omega) b (h b (by simp)), fig_step 2 2 (by omega) c (h c (by simp)), fig_end]
      simp [fgo]
    | [a, b, c, d], _, _ =>
      cases hd
      refine ⟨some (.int 3), some (.str (st [d])), ?_⟩
      show forL gF bodF [.tup [.int 0, .str (st [a])], .tup [.int 1, .str (st [b])], .tup [.int 2, .str (st [c])], .tup [.int 3, .str (st [d])]] _ _ = _
      rw [fig_step 0 0 (by omega) a (h a (by simp)), fig_step 1 1 (by omega) b (h b (by simp)), fig_step 2 2 (by omega) c (h c (by simp)), fig_step 3 3 (by omega) d (h d (by simp)), fig_end]
      simp [fgo]
    | a :: b :: c :: d :: e :: r, _, h4 => simp at h4
  obtain ⟨p, q, e⟩ := hloop
  refine ⟨[.lst [.int (27 * n0 + n1), .int (27 * n2 + n3)]], ?_⟩
  unfold d_law_figures b_law_figures
  rw [runB_1]
  show finS (sSeq _ _ [some (.str (st l)), none, none, none] m) = _
  rw [seq_ok (asg_ok (show (dLst (lCons (dC (.int 0)) (lCons (dC (.int 0)) lNil))) [some (.str (st l)), none, none, none] m = .ok (.ref m.length) (m ++ [.lst [.int 0, .int 0]]) from rfl))]
  show finS (sSeq _ _ [some (.str (st l)), some (.ref m.length), none, none] (m ++ [.lst [.int 0, .int 0]])) = _
  rw [seq_ok ((for_e hsrc).trans e)]
  show finS (thenE (R.bind (R.ok [U.ref m.length] (m ++ [.lst [.int (27 * n0 + n1), .int (27 * n2 + n3)]])) fun us m1 => ofO (oToTup us m1)) _ _) = _
  show finS (thenE (ofO ((itemsOf (m ++ [.lst [.int (27 * n0 + n1), .int (27 * n2 + n3)]]) (.ref m.length)).map fun us => (U.tup us, m ++ [.lst [.int (27 * n0 + n1), .int (27 * n2 + n3)]]))) _ _) = _
  unfold itemsOf
  simp only [mem_last]
  rfl
end My

set_option Elab.async false
set_option linter.all false
set_option maxRecDepth 100000
set_option maxHeartbeats 2000000
namespace My
open PySem L2 Ev RZ
local macro_rules | `(tactic| walk_at "ev") => `(tactic| simp (disch := first | assumption | omega | simp; done | (simp only [List.length_map, List.length_append, List.length_cons, List.length_nil, List.length_replicate]; omega)) only [runB_e, List.length_cons, List.length_nil, List.length_map, Nat.reduceAdd, Nat.reduceSub, List.reduceReplicate, List.map_cons, List.map_nil, List.cons_append, List.nil_append, List.append_nil, List.set_cons_zero, List.set_cons_succ, List.getElem?_cons_zero, List.getElem?_cons_succ, evB, evX, evS, evO, evR, evR2, evI, evJ, evD, eqU_s, eqU_vo, valK_dk, Option.map_none,  nums_ints, flat_rep, Option.map_some, List.getElem?_append_left, dSlot_d, oMulG_a, oMulG_b, oMod_e, oTup_e, oLst_e, oList_e, oAdd_t, oMulG_t, eqU_tI, eqU_nil, eqU_i, dk_len, Bool.not_true, Bool.not_false, Bool.false_eq_true, if_true, if_false, if_pos, if_neg, mem_last, mem_setl, mem_mid, mem_setm, at3_0, at3_1, at3_2, ix3_0, ix3_2, decide_eq_true_eq, decide_true, decide_false, and_true, true_and, and_false, false_and, not_true_eq_false, not_false_eq_true, wipeU, *])
structure OkN (l : List Nat) : Prop where
  h1 : 1 ≤ l.length
  h4 : l.length ≤ 4
  ok : ∀ c ∈ l, c ∈ ABC
def nc (l : List Nat) : Int × Int := (27 * (dl l).getD 0 0 + (dl l).getD 1 0, 27 * (dl l).getD 2 0 + (dl l).getD 3 0)
theorem nm_b {c : Nat} (h : c ∈ ABC) : 1 ≤ nm c ∧ nm c ≤ 26 := by
  have := abc_b c h
  unfold nm; omega
theorem cd_nm {c : Nat} (h : c ∈ ABC) : cd (nm c) = c := by
  have := abc_b c h
  unfold cd nm
  rw [if_neg (by omega)]; omega
theorem dl_b {l : List Nat} (h : OkN l) : ∀ x ∈ dl l, 0 ≤ x ∧ x ≤ 26 := by
  intro x hx
  rcases List.mem_append.mp hx with hx | hx
  · obtain ⟨c, hc, rfl⟩ := List.mem_map.mp hx
    have := nm_b (h.ok c hc); omega
  · rw [List.eq_of_mem_replicate hx]; omega
theorem dl4 {l : List Nat} (h : OkN l) : ∃ n0 n1 n2 n3, dl l = [n0, n1, n2, n3] ∧ nc l = (27 * n0 + n1, 27 * n2 + n3) ∧ (1 ≤ n0 ∧ n0 ≤ 26) ∧ (0 ≤ n1 ∧ n1 ≤ 26) ∧ (0 ≤ n2 ∧ n2 ≤ 26) ∧ (0 ≤ n3 ∧ n3 ≤ 26) := by
  have hb := dl_b h
  obtain ⟨h1, h4, hk⟩ := h
  match l, h1, h4, hk, hb with
  | [a], _, _, hk, hb => 
    have ha := nm_b (hk a (by simp))
    exact ⟨_, _, _, _, rfl, rfl, ha, by omega, by omega, by omega⟩
  | [a, b], _, _, hk, hb => 
    have ha := nm_b (hk a (by simp))
    exact ⟨_, _, _, _, rfl, rfl, ha, hb (nm b) (by simp [dl]), by omega, by omega⟩
  | [a, b, c], _, _, hk, hb => 
    have ha := nm_b (hk a (by simp))
    exact ⟨_, _, _, _, rfl, rfl, ha, hb (nm b) (by simp [dl]), hb (nm c) (by simp [dl]), by omega⟩
  | [a, b, c, d], _, _, hk, hb => 
    have ha := nm_b (hk a (by simp))
    exact ⟨_, _, _, _, rfl, rfl, ha, hb (nm b) (by simp [dl]), hb (nm c) (by simp [dl]), hb (nm d) (by simp [dl])⟩
  | a :: b :: c :: d :: e :: r, _, h4, _, _ => simp at h4
theorem nc_b {l : List Nat} (h : OkN l) : (0 ≤ (nc l).1 ∧ (nc l).1 ≤ 728) ∧ (0 ≤ (nc l).2 ∧ (nc l).2 ≤ 728) := by
  obtain ⟨n0, n1, n2, n3, _, e, _⟩ := dl4 h
  rw [e]; refine ⟨⟨?_, ?_⟩, ?_, ?_⟩ <;> simp only <;> omega
theorem dig_nc {l : List Nat} (h : OkN l) : dig (nc l).1 (nc l).2 = dl l := by
  obtain ⟨n0, n1, n2, n3, e0, e, b⟩ := dl4 h
  rw [e, e0]
  unfold dig
  simp only
  rw [show (27 * n0 + n1) / 27 = n0 by omega, show (27 * n0 + n1) % 27 = n1 by omega, show (27 * n2 + n3) / 27 = n2 by omega, show (27 * n2 + n3) % 27 = n3 by omega]
theorem trim_reps (s : List Int) : ∀ k : Nat, trimL (s ++ List.replicate k 0) = trimL s
  | 0 => by simp
  | k + 1 => by rw [List.replicate_succ', ← List.append_assoc, trim_zero, trim_reps s k]
theorem trim_dl {l : List Nat} (h : OkN l) : trimL (dl l) = l.map nm := by
  unfold dl
  rw [trim_reps]
  rcases nil_or_end l with e | ⟨s, a, e⟩
  · subst e; rfl
  · subst e
    have := nm_b (h.ok a (by simp))
    rw [List.map_append, List.map_cons, List.map_nil, trim_end _ (by omega)]
theorem cnm_nc {l : List Nat} (h : OkN l) : cnm (trimL (dig (nc l).1 (nc l).2)) = .str (st l) := by
  rw [dig_nc h, trim_dl h]
  unfold cnm
  rw [if_neg, List.map_map]
  · congr 2
    have : ∀ l : List Nat, (∀ c ∈ l, c ∈ ABC) → l.map (cd ∘ nm) = l := fun l hl => by
      induction l with
      | nil => rfl
      | cons a r ih => rw [List.map_cons, ih fun c hc => hl c (List.mem_cons_of_mem _ hc)]; show cd (nm a) :: r = _; rw [cd_nm (hl a List.mem_cons_self)]
    exact this l h.ok
  · intro z
    rcases z with z | z | ⟨x, hx, z⟩
    · have h1 := h.h1
      rw [List.map_eq_nil_iff.mp z] at h1
      simp at h1
    · obtain ⟨c, hc, e⟩ := List.mem_map.mp z
      have := nm_b (h.ok c hc); omega
    · obtain ⟨c, hc, rfl⟩ := List.mem_map.mp hx
      have := nm_b (h.ok c hc); omega
theorem spell_eq (f s : Int) (hf0 : 0 ≤ f) (hf1 : f ≤ 996) (hs0 : 0 ≤ s) (hs1 : s ≤ 996) : cnm (trimL (dig f s)) = spl f s := by
  unfold cnm spl
  by_cases hbig : 728 < f ∨ 728 < s
  · rw [if_pos hbig, if_pos]
    refine .inr (.inr ?_)
    rcases hbig with h | h
    · exact ⟨f / 27, mem_trim (by omega) (by simp [dig]), by omega⟩
    · exact ⟨s / 27, mem_trim (by omega) (by simp [dig]), by omega⟩
  · rw [if_neg hbig]
    have hno : ¬ ∃ x ∈ trimL (dig f s), 26 < x := by
      intro ⟨x, hx, h⟩
      have := trim_mem hx
      simp only [dig, List.mem_cons, List.not_mem_nil, or_false] at this
      rcases this with e | e | e | e <;> subst e <;> omega
    by_cases h0 : f / 27 = 0
    · rw [if_neg (c := f / 27 ≠ 0 ∧ 0 ∉ trimL (dig f s)) (fun z => z.1 h0), if_pos]
      rcases trim_head (a := f / 27) (r := [f % 27, s / 27, s % 27]) with e | ⟨t, e⟩
      · exact .inl e
      · refine .inr (.inl ?_)
        show 0 ∈ trimL (f / 27 :: [f % 27, s / 27, s % 27])
        rw [e, h0]; exact List.mem_cons_self
    · obtain ⟨t, e⟩ := trim_head0 (r := [f % 27, s / 27, s % 27]) h0
      by_cases hz : 0 ∈ trimL (dig f s)
      · rw [if_pos (c := trimL (dig f s) = [] ∨ _) (.inr (.inl hz)), if_neg (c := f / 27 ≠ 0 ∧ 0 ∉ trimL (dig f s)) (fun z => z.2 hz)]
      · rw [if_pos (c := f / 27 ≠ 0 ∧ 0 ∉ trimL (dig f s)) ⟨h0, hz⟩, if_neg]
        intro z
        rcases z with z | z | z
        · rw [show trimL (dig f s) = _ from e] at z; cases z
        · exact hz z
        · exact hno z
theorem leS_st (a b : List Nat) : leS (st a) (st b) = decide (a ≤ b) := by
  unfold leS; rw [st_list, st_list]
theorem order {a b : List Nat} (ha : OkN a) (hb : OkN b) : leP (nc a) (nc b) = leS (st a) (st b) := by
  rw [leS_st]
  unfold leP
  refine decide_eq_decide.mpr ?_
  have hN : ∀ c ∈ ABC, nm c = (c : Int) - 96 ∧ 97 ≤ c ∧ c ≤ 122 := fun c h => by
    have := abc_b c h; unfold nm; omega
  obtain ⟨a1, a4, ak⟩ := ha
  obtain ⟨b1, b4, bk⟩ := hb
  have hA : ∀ l : List Nat, 1 ≤ l.length → l.length ≤ 4 → (∀ c ∈ l, c ∈ ABC) → (∃ x, l = [x] ∧ 97 ≤ x ∧ x ≤ 122 ∧ nc l = (27 * ((x : Int) - 96), 0)) ∨ (∃ x y, l = [x, y] ∧ (97 ≤ x ∧ x ≤ 122) ∧ (97 ≤ y ∧ y ≤ 122) ∧ nc l = (27 * ((x : Int) - 96) + ((y : Int) - 96), 0)) ∨
      (∃ x y z, l = [x, y, z] ∧ (97 ≤ x ∧ x ≤ 122) ∧ (97 ≤ y ∧ y ≤ 122) ∧ (97 ≤ z ∧ z ≤ 122) ∧ nc l = (27 * ((x : Int) - 96) + ((y : Int) - 96), 27 * ((z : Int) - 96))) ∨
      (∃ x y z w, l = [x, y, z, w] ∧ (97 ≤ x ∧ x ≤ 122) ∧ (97 ≤ y ∧ y ≤ 122) ∧ (97 ≤ z ∧ z ≤ 122) ∧ (97 ≤ w ∧ w ≤ 122) ∧ nc l = (27 * ((x : Int) - 96) + ((y : Int) - 96), 27 * ((z : Int) - 96) + ((w : Int) - 96))) := by
    intro l h1 h4 hk
    match l, h1, h4, hk with
    | [x], _, _, hk =>
      obtain ⟨e, b⟩ := hN x (hk x (by simp))
      exact .inl ⟨x, rfl, b.1, b.2, by simp [nc, dl, e]⟩
    | [x, y], _, _, hk =>
      obtain ⟨e, b⟩ := hN x (hk x (by simp))
      obtain ⟨e2, b2⟩ := hN y (hk y (by simp))
      exact .inr (.inl ⟨x, y, rfl, b, b2, by simp [nc, dl, e, e2]⟩)
    | [x, y, z], _, _, hk =>
      obtain ⟨e, b⟩ := hN x (hk x (by simp))
      obtain ⟨e2, b2⟩ := hN y (hk y (by simp))
      obtain ⟨e3, b3⟩ := hN z (hk z (by simp))
      exact .inr (.inr (.inl ⟨x, y, z, rfl, b, b2, b3, by simp [nc, dl, e, e2, e3]⟩))
    | [x, y, z, w], _, _, hk =>
      obtain ⟨e, b⟩ := hN x (hk x (by simp))
      obtain ⟨e2, b2⟩ := hN y (hk y (by simp))
      obtain ⟨e3, b3⟩ := hN z (hk z (by simp))
      obtain ⟨e4, b4⟩ := hN w (hk w (by simp))
      exact .inr (.inr (.inr ⟨x, y, z, w, rfl, b, b2, b3, b4, by simp [nc, dl, e, e2, e3, e4]⟩))
    | _ :: _ :: _ :: _ :: _ :: _, _, h4, _ => simp at h4
  have pa := hA a a1 a4 ak
  have pb := hA b b1 b4 bk
  clear hA hN ak bk
  rcases pa with ⟨x, rfl, p1, p2, pe⟩ | ⟨x, y, rfl, p1, p2, pe⟩ | ⟨x, y, z, rfl, p1, p2, p3, pe⟩ | ⟨x, y, z, w, rfl, p1, p2, p3, p4, pe⟩ <;>
  rcases pb with ⟨x', rfl, q1, q2, qe⟩ | ⟨x', y', rfl, q1, q2, qe⟩ | ⟨x', y', z', rfl, q1, q2, q3, qe⟩ | ⟨x', y', z', w', rfl, q1, q2, q3, q4, qe⟩ <;>
  rw [pe, qe] <;> simp only [List.cons_le_cons_iff, List.nil_le, List.le_nil, reduceCtorEq, and_true, and_false, or_false] <;> clear pe qe a1 a4 b1 b4 <;> omega
end My

set_option Elab.async false
set_option linter.all false
set_option maxRecDepth 100000
set_option maxHeartbeats 2000000
namespace My
open PySem L2 Ev RZ
local macro_rules | `(tactic| walk_at "ev") => `(tactic| simp (disch := first | assumption | omega | simp; done | (simp only [List.length_map, List.length_append, List.length_cons, List.length_nil, List.length_replicate]; omega)) only [runB_e, List.length_cons, List.length_nil, List.length_map, Nat.reduceAdd, Nat.reduceSub, List.reduceReplicate, List.map_cons, List.map_nil, List.cons_append, List.nil_append, List.append_nil, List.set_cons_zero, List.set_cons_succ, List.getElem?_cons_zero, List.getElem?_cons_succ, evB, evX, evS, evO, evR, evR2, evI, evJ, evD, eqU_s, eqU_vo, valK_dk, Option.map_none,  nums_ints, flat_rep, Option.map_some, List.getElem?_append_left, dSlot_d, oMulG_a, oMulG_b, oMod_e, oTup_e, oLst_e, oList_e, oAdd_t, oMulG_t, eqU_tI, eqU_nil, eqU_i, dk_len, Bool.not_true, Bool.not_false, Bool.false_eq_true, if_true, if_false, if_pos, if_neg, mem_last, mem_setl, mem_mid, mem_setm, at3_0, at3_1, at3_2, ix3_0, ix3_2, decide_eq_true_eq, decide_true, decide_false, and_true, true_and, and_false, false_and, not_true_eq_false, not_false_eq_true, wipeU, *])
theorem pow57 (m : Mem) : oPow (.int 10) (.int 57) m = some (.int 1000000000000000000000000000000000000000000000000000000000, m) := by
  rw [show oPow (.int 10) (.int 57) m = if (0 : Int) ≤ 57 ∧ (Builtin.Int.intBits 10 : Int) * 57 ≤ 2 ^ 27 then some (.int ((10 : Int) ^ (57 : Int).toNat), m) else none from rfl, if_pos (by decide +kernel)]
  rfl
theorem pow16 (m : Mem) : oPow (.int 10) (.int 16) m = some (.int 10000000000000000, m) := by
  rw [show oPow (.int 10) (.int 16) m = if (0 : Int) ≤ 16 ∧ (Builtin.Int.intBits 10 : Int) * 16 ≤ 2 ^ 27 then some (.int ((10 : Int) ^ (16 : Int).toNat), m) else none from rfl, if_pos (by decide +kernel)]
  rfl
theorem powG : ∃ G : Int, 0 < G ∧ ∀ m : Mem, oPow (.int 1000000000000000000000000000000000000000000000000000000000) (.int 8) m = some (.int G, m) := by
  refine ⟨(1000000000000000000000000000000000000000000000000000000000 : Int) ^ (8 : Int).toNat, by decide +kernel, fun m => ?_⟩
  rw [show oPow (.int 1000000000000000000000000000000000000000000000000000000000) (.int 8) m = if (0 : Int) ≤ 8 ∧ (Builtin.Int.intBits 1000000000000000000000000000000000000000000000000000000000 : Int) * 8 ≤ 2 ^ 27 then some (.int ((1000000000000000000000000000000000000000000000000000000000 : Int) ^ (8 : Int).toNat), m) else none from rfl, if_pos (by decide +kernel)]
theorem p_well (ns : List Int) (spot : Nat) (hs : spot ≤ 1000) (m : Mem) : ∃ (a b : Int) (t : Mem), d_law_well [.rol (ns.map .int), .int spot] m = .ok (.ref (m ++ t).length) (m ++ t ++ [.lst [.int a, .int b, .int 0]]) := by
  have h1 := pow57
  have h3 := pow16
  obtain ⟨G, hG, h4⟩ := powG
  by_cases h : spot < ns.length
  · have ha := atI_ints h
    have hd : decide ((spot : Int) < (ns.length : Int)) = true := decide_eq_true (by omega)
    obtain ⟨a, b, e⟩ : ∃ a b : Int, d_law_well [.rol (ns.map .int), .int spot] m = .ok (.ref m.length) (m ++ [.lst [.int a, .int b, .int 0]]) := by
      unfold d_law_well b_law_well
      walk_at "ev"
      exact ⟨_, _, rfl⟩
    exact ⟨a, b, [], by rw [List.append_nil]; exact e⟩
  · have hd : decide ((spot : Int) < (ns.length : Int)) = false := decide_eq_false (by omega)
    have hN : ∀ (ρ : Ev.Env) (m : Mem), pNone ρ m = .ok none m := fun _ _ => rfl
    have hP : ∀ (ρ : Ev.Env) (m : Mem), pSome (dC (.int 1)) ρ m = .ok (some 1) m := fun _ _ => rfl
    have hsl : ∀ m : Mem, oSlice (.rol (ns.map .int)) none (some 1) m = some (.ref m.length, m ++ [cI (ns.take 1)]) := by
      intro m
      have : cutU (ns.map U.int) none (some 1) = (ns.take 1).map U.int := by
        cases ns with
        | nil => rfl
        | cons a r => simp [cutU, HT.sIx, Nat.min_eq_left]
      show some (U.ref m.length, m ++ [.lst (cutU (ns.map U.int) none (some 1))]) = _
      rw [this]
    have hsum : ∀ m : Mem, oSum [.ref m.length] (m ++ [cI (ns.take 1)]) = some (.int (ns.take 1).sum, m ++ [cI (ns.take 1)]) := by
      intro m
      have hi : itemsOf (m ++ [cI (ns.take 1)]) (.ref m.length) = some ((ns.take 1).map .int) := by unfold itemsOf; simp only [mem_last]
      show (match itemsOf (m ++ [cI (ns.take 1)]) (.ref m.length) with | some us => if isT (.ref m.length) then none else (nums us).map fun z : List Int => (U.int z.sum, m ++ [cI (ns.take 1)]) | none => none) = _
      rw [hi]
      show (if isT (.ref m.length) then none else (nums ((ns.take 1).map U.int)).map fun z : List Int => (U.int z.sum, m ++ [cI (ns.take 1)])) = _
      rw [nums_ints]; rfl
    obtain ⟨a, b, e⟩ : ∃ a b : Int, d_law_well [.rol (ns.map .int), .int spot] m = .ok (.ref (m ++ [cI (ns.take 1)]).length) (m ++ [cI (ns.take 1)] ++ [.lst [.int a, .int b, .int 0]]) := by
      unfold d_law_well b_law_well
      walk_at "ev"
      exact ⟨_, _, rfl⟩
    exact ⟨a, b, [cI (ns.take 1)], e⟩
theorem p_drawn (c : Nat) (total : Int) (h0 : 0 < total) (h1 : total ≤ 1000) (m : Mem) (hw : Well c m) : ∃ i m', d_law_drawn [.ref c, .int total] m = .ok (.int i) m' ∧ 0 ≤ i ∧ i < total ∧ Gr c m m' := by
  unfold d_law_drawn b_law_drawn
  obtain ⟨a, b, d, hm⟩ := id hw
  have hl := (List.getElem?_eq_some_iff.mp hm).1
  have hset : ∀ x, (m.set c x)[c]? = some x := fun x => List.getElem?_set_self hl
  have hlg : total.natAbs.log2 < 9000 := Nat.lt_trans (log2_lt (k := 10) (by omega) (by decide)) (by decide)
  have hdiv : ∀ (x : Int) m, oDiv (.int x) (.int total) m = some (.int (x / total), m) := fun x m => if_pos ⟨h0, hlg⟩
  have hdv2 : ∀ (x : Int) m, oDiv (.int x) (.int 131071) m = some (.int (x / 131071), m) := fun x m => (show oDiv (.int x) (.int 131071) m = if (0 : Int) < 131071 ∧ (131071 : Int).natAbs.log2 < 9000 then some (.int (x / 131071), m) else none from rfl).trans (if_pos (by decide +kernel))
  by_cases h : 0 < a
  · have hd : decide (0 < a) = true := decide_eq_true h
    refine ⟨a % total, m.set c (.lst [.int (a / total), .int b, .int d]), ?_, Int.emod_nonneg _ (by omega), Int.emod_lt_of_pos _ h0, Gr.set _ _ _ hw⟩
    clear hl hw hlg
    walk_at "ev"
  · have hd : decide (0 < a) = false := decide_eq_false h
    obtain ⟨one, ho⟩ : ∃ one, (b + 49979687 * (d + 1)) % 2305843009213693907 = one := ⟨_, rfl⟩
    have ho0 : 0 ≤ one := by omega
    have ho1 : one < 2305843009213693907 := by omega
    refine ⟨(one * one % 2305843009213693951 * 32452867 + one + 37 * (d + 1)) / 131071 % total, m.set c (.lst [.int a, .int b, .int (d + 1)]), ?_, Int.emod_nonneg _ (by omega), Int.emod_lt_of_pos _ h0, Gr.set _ _ _ hw⟩
    clear hl hw hlg h
    walk_at "ev"
theorem p_given (c k : Nat) (us : List U) (hk : k ≠ c) (hne : us ≠ []) (hl : us.length ≤ 1000) (m : Mem) (hw : Well c m) (hm : m[k]? = some (.lst us)) : ∃ u m', d_law_given [.ref c, .ref k] m = .ok u m' ∧ u ∈ us ∧ Gr c m m' := by
  unfold d_law_given b_law_given
  have hpos := pos_of hne
  obtain ⟨i, m', e, h0, h1, hg⟩ := p_drawn c us.length (by omega) (by omega) m hw
  have hm' := hg.get hk hm
  have hi : i.toNat < us.length := by omega
  have hat : atI us i = some us[i.toNat] := atI_at h0 (List.getElem?_eq_getElem hi)
  refine ⟨us[i.toNat], m', ?_, List.getElem_mem hi, hg⟩
  clear hw hg hpos hne hk
  walk_at "ev"
theorem gr_put {c k : Nat} {m m' : Mem} {x : Cell} (h : Gr c m m') (hk : k ≠ c) (hl : m.length ≤ k) : Gr c m (m'.set k x) := by
  refine ⟨by simp; exact h.len, ?_, fun n hn hlt => ?_⟩
  · obtain ⟨a, b, d, e⟩ := h.well
    exact ⟨a, b, d, by rw [List.getElem?_set_ne hk]; exact e⟩
  · rw [List.getElem?_set_ne (by omega)]; exact h.old n hn hlt
theorem well_lt {c : Nat} {m : Mem} (h : Well c m) : c < m.length := by obtain ⟨_, _, _, q⟩ := h; exact (List.getElem?_eq_some_iff.mp q).1
/-- one of a new list -/
theorem p_pick (c : Nat) (us : List U) (hne : us ≠ []) (hl : us.length ≤ 1000) (m : Mem) (hw : Well c m) : ∃ u m', d_law_given [.ref c, .ref m.length] (m ++ [.lst us]) = .ok u m' ∧ u ∈ us ∧ Gr c m m' := by
  have := well_lt hw
  obtain ⟨u, m', e, hu, g⟩ := p_given c m.length us (by omega) hne hl (m ++ [.lst us]) (hw.app _) (mem_last _ _)
  exact ⟨u, m', e, hu, g.from _⟩
end My

set_option Elab.async false
set_option linter.all false
set_option maxRecDepth 100000
set_option maxHeartbeats 2000000
namespace My
open PySem L2 Ev RZ
local macro_rules | `(tactic| walk_at "ev") => `(tactic| simp (disch := first | assumption | omega | simp; done | (simp only [List.length_map, List.length_append, List.length_cons, List.length_nil, List.length_replicate]; omega)) only [runB_e, List.length_cons, List.length_nil, List.length_map, Nat.reduceAdd, Nat.reduceSub, List.reduceReplicate, List.map_cons, List.map_nil, List.cons_append, List.nil_append, List.append_nil, List.set_cons_zero, List.set_cons_succ, List.getElem?_cons_zero, List.getElem?_cons_succ, evB, evX, evS, evO, evR, evR2, evI, evJ, evD, eqU_s, eqU_vo, valK_dk, Option.map_none,  nums_ints, flat_rep, Option.map_some, List.getElem?_append_left, dSlot_d, oMulG_a, oMulG_b, oMod_e, oTup_e, oLst_e, oList_e, oAdd_t, oMulG_t, eqU_tI, eqU_nil, eqU_i, dk_len, Bool.not_true, Bool.not_false, Bool.false_eq_true, if_true, if_false, if_pos, if_neg, mem_last, mem_setl, mem_mid, mem_setm, at3_0, at3_1, at3_2, ix3_0, ix3_2, decide_eq_true_eq, decide_true, decide_false, and_true, true_and, and_false, false_and, not_true_eq_false, not_false_eq_true, wipeU, *])
abbrev lU (L : List Nat) : List U := L.map fun c => U.str (st [c])
theorem ys_names : ∀ {ys : List U}, (∀ y ∈ ys, ∃ c, c ∈ ABC ∧ y = .str (st [c])) → ∃ L : List Nat, ys = lU L ∧ ∀ c ∈ L, c ∈ ABC
  | [], _ => ⟨[], rfl, fun _ h => by cases h⟩
  | y :: ys, h => by
    obtain ⟨c, hc, rfl⟩ := h y List.mem_cons_self
    obtain ⟨L, rfl, hL⟩ := ys_names fun y hy => h y (List.mem_cons_of_mem _ hy)
    exact ⟨c :: L, rfl, fun d hd => (List.mem_cons.mp hd).elim (fun e => e ▸ hc) (hL d)⟩
theorem listS_e (m : Mem) : oListS [.str (st [97, 97, 98, 109, 122])] m = some (.ref m.length, m ++ [.lst (lU [97, 97, 98, 109, 122])]) := by
  show (if (st [97, 97, 98, 109, 122]).cps.size ≤ 1000 then some (U.ref m.length, m ++ [Cell.lst (signsU (st [97, 97, 98, 109, 122]))]) else none) = _
  rw [if_pos (by decide)]
  unfold signsU
  rw [st_list]; rfl
theorem p_letters (c : Nat) (m : Mem) (hw : Well c m) (x1 x2 x3 x4 x5 x6 x7 x8 x9 : Option U) : ∃ m1 L, OkN L ∧ Gr c m m1 ∧ (dLc (iRange1 (lCons (dOp oAdd (dC (.int 1)) (dCall d_law_drawn (lCons (dSlot 0) (lCons (dC (.int 4)) lNil)))) lNil)) (gName 10) tYesU (dCall d_law_given (lCons (dSlot 0) (lCons (dB oListS (lCons (dC (.str (st [97, 97, 98, 109, 122]))) lNil)) lNil))) [10]) [some (.ref c), x1, x2, x3, x4, x5, x6, x7, x8, x9, none, none] m = .ok (.ref m1.length) (m1 ++ [.lst (lU L)]) := by
  obtain ⟨i, m0, e0, i0, i1, g0⟩ := p_drawn c 4 (by decide) (by decide) m hw
  obtain ⟨ys, m1, e1, hlen, hq, hg⟩ := compL_gen (k := 10) (e := dCall d_law_given (lCons (dSlot 0) (lCons (dB oListS (lCons (dC (.str (st [97, 97, 98, 109, 122]))) lNil)) lNil))) (ρ := [some (.ref c), x1, x2, x3, x4, x5, x6, x7, x8, x9, none, none]) (I := fun m1 => Gr c m m1) (Q := fun y => ∃ c, c ∈ ABC ∧ y = .str (st [c])) (runI 0 (1 + i).toNat) m0 g0 (by
    intro u _ m' hg
    obtain ⟨y, m2, e2, hy, g2⟩ := p_pick c (lU [97, 97, 98, 109, 122]) (by simp) (by simp) m' hg.well
    have hL := listS_e m'
    have hy' : ∃ c, c ∈ ABC ∧ y = .str (st [c]) := by
      obtain ⟨d, hd, rfl⟩ := List.mem_map.mp hy
      exact ⟨d, (by decide : ∀ d ∈ [97, 97, 98, 109, 122], d ∈ ABC) d hd, rfl⟩
    generalize Cell.lst (lU [97, 97, 98, 109, 122]) = C at hL e2
    refine ⟨y, m2, ?_, hy', hg.trans g2⟩
    clear hy hy' hg g2 hw g0 e0
    walk_at "ev")
  obtain ⟨L, rfl, hL⟩ := ys_names hq
  have hll : L.length = (1 + i).toNat := by simpa [runI_len] using hlen
  refine ⟨m1, L, ⟨by omega, by omega, hL⟩, hg, ?_⟩
  have b1 : -4611686018427387904 ≤ 1 + i := by omega
  have b2 : 1 + i < 4611686018427387904 := by omega
  have b3 : (lU L).length ≤ 16777216 := by simp; omega
  generalize lU L = us at *
  clear hg hw hq hL hll g0 hlen
  walk_at "ev"
theorem txts_lU : ∀ L : List Nat, txts (lU L) = some (L.map fun c => st [c])
  | [] => rfl
  | c :: L => by
    show (txts (lU L)).map _ = _
    rw [txts_lU L]; rfl
theorem join_lU (L : List Nat) (h4 : L.length ≤ 4) (k : Nat) (M : Mem) (hM : M[k]? = some (.lst (lU L))) : oJoin (.str (st [])) [.ref k] M = some (.str (st L), M) := by
  unfold oJoin itemsOf
  simp only [hM, txts_lU]
  rw [if_pos]
  · have hj : Txt.join (st []) (L.map fun c => st [c]) = Str.join (st []) (L.map fun c => st [c]) := PySem.StrLaws.glued_eq_join _ _
    rw [hj, join_st]
  · have h0 : (st []).length = 0 := rfl
    rw [h0, Nat.mul_zero, Nat.add_zero]
    have : ∀ l : List Nat, ((l.map fun c => st [c]).map (·.length)).sum = l.length := by
      intro l
      induction l with
      | nil => rfl
      | cons a r ih => rw [List.map_cons, List.map_cons, List.sum_cons, ih, List.length_cons, len_st]; simp; omega
    rw [this]; omega
/-- names -/
abbrev cN (Ns : List (List Nat)) : Cell := .lst (Ns.map fun l => U.str (st l))
def bodN : SD := sSeq (sAsg (dLc (iRange1 (lCons (dOp oAdd (dC (.int 1)) (dCall d_law_drawn (lCons (dSlot 0) (lCons (dC (.int 4)) lNil)))) lNil)) (gName 10) tYesU (dCall d_law_given (lCons (dSlot 0) (lCons (dB oListS (lCons (dC (.str (st [97, 97, 98, 109, 122]))) lNil)) lNil))) [10]) (gName 3))
  (sExpr (dM .list oAppend (dSlot 1) (lCons (dM .str oJoin (dC (.str (st []))) (lCons (dSlot 3) lNil)) lNil)))
theorem p_bodN (c k : Nat) (Ns : List (List Nat)) (hn : Ns.length ≤ 1000) (m : Mem) (hw : Well c m) (hk : k ≠ c) (hm : m[k]? = some (cN Ns)) (x2 x3 x4 x5 x6 x7 x8 x9 : Option U) : ∃ m' L x3', OkN L ∧ Well c m' ∧ m'[k]? = some (cN (Ns ++ [L])) ∧ bodN [some (.ref c), some (.ref k), x2, x3, x4, x5, x6, x7, x8, x9, none, none] m = .ok .nx [some (.ref c), some (.ref k), x2, x3', x4, x5, x6, x7, x8, x9, none, none] m' := by
  obtain ⟨m1, L, hL, hg, e⟩ := p_letters c m hw (some (.ref k)) x2 x3 x4 x5 x6 x7 x8 x9
  have hk1 : (m1 ++ [Cell.lst (lU L)])[k]? = some (cN Ns) := mem_old (hg.get hk hm)
  have hj := join_lU L hL.h4 m1.length (m1 ++ [.lst (lU L)]) (mem_last _ _)
  have hlt : k < (m1 ++ [Cell.lst (lU L)]).length := (List.getElem?_eq_some_iff.mp hk1).1
  have hap : oAppend (.ref k) [.str (st L)] (m1 ++ [.lst (lU L)]) = some (.non, (m1 ++ [Cell.lst (lU L)]).set k (cN (Ns ++ [L]))) := by
    unfold oAppend
    simp only [hk1]
    rw [if_pos (by simp; exact Nat.lt_of_le_of_lt hn (by decide))]
    rw [show cN (Ns ++ [L]) = Cell.lst (Ns.map (fun l => U.str (st l)) ++ [U.str (st L)]) by unfold cN; rw [List.map_append]; rfl]
  refine ⟨(m1 ++ [Cell.lst (lU L)]).set k (cN (Ns ++ [L])), L, some (.ref m1.length), hL, ?_, List.getElem?_set_self hlt, ?_⟩
  · obtain ⟨a, b, d, q⟩ := hg.well.app [Cell.lst (lU L)]
    exact ⟨a, b, d, by rw [List.getElem?_set_ne hk]; exact q⟩
  · unfold bodN
    rw [seq_ok (asg_ok e)]
    show sExpr _ [some (.ref c), some (.ref k), x2, some (.ref m1.length), x4, x5, x6, x7, x8, x9, none, none] (m1 ++ [Cell.lst (lU L)]) = _
    have hmt : ∀ (m : Mem) (z : Str), isMT m .str (.str z) = true := fun _ _ => rfl
    have hml := isMT_r hk1
    generalize m1 ++ [Cell.lst (lU L)] = M at *
    generalize M.set k (cN (Ns ++ [L])) = M2 at *
    clear e hg hw hm hk1 hL hlt hn
    walk_at "ev"
end My

set_option Elab.async false
set_option linter.all false
set_option maxRecDepth 100000
set_option maxHeartbeats 2000000
namespace My
open PySem L2 Ev RZ
local macro_rules | `(tactic| walk_at "ev") => `(tactic| simp (disch := first | assumption | omega | simp; done | (simp only [List.length_map, List.length_append, List.length_cons, List.length_nil, List.length_replicate]; omega)) only [runB_e, List.length_cons, List.length_nil, List.length_map, Nat.reduceAdd, Nat.reduceSub, List.reduceReplicate, List.map_cons, List.map_nil, List.cons_append, List.nil_append, List.append_nil, List.set_cons_zero, List.set_cons_succ, List.getElem?_cons_zero, List.getElem?_cons_succ, evB, evX, evS, evO, evR, evR2, evI, evJ, evD, eqU_s, eqU_vo, valK_dk, Option.map_none,  nums_ints, flat_rep, Option.map_some, List.getElem?_append_left, dSlot_d, oMulG_a, oMulG_b, oMod_e, oTup_e, oLst_e, oList_e, oAdd_t, oMulG_t, eqU_tI, eqU_nil, eqU_i, dk_len, Bool.not_true, Bool.not_false, Bool.false_eq_true, if_true, if_false, if_pos, if_neg, mem_last, mem_setl, mem_mid, mem_setm, at3_0, at3_1, at3_2, ix3_0, ix3_2, decide_eq_true_eq, decide_true, decide_false, and_true, true_and, and_false, false_and, not_true_eq_false, not_false_eq_true, wipeU, *])
theorem p_nc {l : List Nat} (h : OkN l) (m : Mem) : ∃ t, d_name_cells [.str (st l)] m = .ok (.tup [.int (nc l).1, .int (nc l).2]) (m ++ t) := by
  obtain ⟨n0, n1, n2, n3, e0, e, _⟩ := dl4 h
  obtain ⟨t, q⟩ := p_ncells l h.h1 h.h4 h.ok n0 n1 n2 n3 e0 m
  exact ⟨t, by rw [e]; exact q⟩
theorem p_fg {l : List Nat} (h : OkN l) (m : Mem) : ∃ t, d_law_figures [.str (st l)] m = .ok (.tup [.int (nc l).1, .int (nc l).2]) (m ++ t) := by
  obtain ⟨n0, n1, n2, n3, e0, e, _⟩ := dl4 h
  obtain ⟨t, q⟩ := p_figures l h.h1 h.h4 h.ok n0 n1 n2 n3 e0 m
  exact ⟨t, by rw [e]; exact q⟩
theorem p_back {l : List Nat} (h : OkN l) (m : Mem) : ∃ t, d_cells_name [.int (nc l).1, .int (nc l).2] m = .ok (.str (st l)) (m ++ t) := by
  have b := nc_b h
  obtain ⟨t, q⟩ := p_cname (nc l).1 (nc l).2 b.1.1 (by omega) b.2.1 (by omega) m
  exact ⟨t, by rw [q, cnm_nc h]⟩
theorem ok_st {l : List Nat} (h : ∀ c ∈ l, c ∈ ABC) : PyData.strOk (st l) = true := by
  unfold PyData.strOk
  rw [Array.all_eq_true']
  intro c hc
  have : c ∈ l := by simpa [st] using hc
  have := abc_b c (h c this)
  exact decide_eq_true (by omega)
theorem eqU_p (m : Mem) (a b : Int) : eqU m (.tup [.int a, .int b]) (.tup [.int a, .int b]) = some true := by
  have := eqU_tI m [a, b] [a, b]
  rw [decide_eq_true rfl] at this
  exact this
def tstN : SD := sIf (tO (tBl (dOp oNe (dCall d_name_cells (lCons (dSlot 4) lNil)) (dCall d_law_figures (lCons (dSlot 4) lNil)))) (tBl (dOp oNe (dCall d_cells_name (lCons (dOp oIx (dCall d_name_cells (lCons (dSlot 4) lNil)) (dC (.int 0))) (lCons (dOp oIx (dCall d_name_cells (lCons (dSlot 4) lNil)) (dC (.int 1))) lNil))) (dSlot 4)))) (sRet (dC (.bl false))) sNext
theorem p_tstN {l : List Nat} (h : OkN l) (m : Mem) (x0 x1 x2 x3 x5 x6 x7 x8 x9 : Option U) : ∃ t, tstN [x0, x1, x2, x3, some (.str (st l)), x5, x6, x7, x8, x9, none, none] m = .ok .nx [x0, x1, x2, x3, some (.str (st l)), x5, x6, x7, x8, x9, none, none] (m ++ t) := by
  obtain ⟨t1, e1⟩ := p_nc h m
  obtain ⟨t2, e2⟩ := p_fg h (m ++ t1)
  obtain ⟨t3, e3⟩ := p_nc h (m ++ t1 ++ t2)
  obtain ⟨t4, e4⟩ := p_nc h (m ++ t1 ++ t2 ++ t3)
  obtain ⟨t5, e5⟩ := p_back h (m ++ t1 ++ t2 ++ t3 ++ t4)
  have q1 := fun m => eqU_p m (nc l).1 (nc l).2
  have q2 : ∀ m, eqU m (.str (st l)) (.str (st l)) = some true := fun m => by rw [eqU_s (ok_st h.ok) (ok_st h.ok), decide_eq_true rfl]
  have a0 : atI [U.int (nc l).1, .int (nc l).2] 0 = some (.int (nc l).1) := rfl
  have a1 : atI [U.int (nc l).1, .int (nc l).2] 1 = some (.int (nc l).2) := rfl
  refine ⟨t1 ++ t2 ++ t3 ++ t4 ++ t5, ?_⟩
  rw [show m ++ (t1 ++ t2 ++ t3 ++ t4 ++ t5) = m ++ t1 ++ t2 ++ t3 ++ t4 ++ t5 by simp only [List.append_assoc]]
  unfold tstN
  clear h
  walk_at "ev"
end My

set_option Elab.async false
set_option linter.all false
set_option maxRecDepth 100000
set_option maxHeartbeats 2000000
namespace My
open PySem L2 Ev RZ
local macro_rules | `(tactic| walk_at "ev") => `(tactic| simp (disch := first | assumption | omega | simp; done | (simp only [List.length_map, List.length_append, List.length_cons, List.length_nil, List.length_replicate]; omega)) only [runB_e, List.length_cons, List.length_nil, List.length_map, Nat.reduceAdd, Nat.reduceSub, List.reduceReplicate, List.map_cons, List.map_nil, List.cons_append, List.nil_append, List.append_nil, List.set_cons_zero, List.set_cons_succ, List.getElem?_cons_zero, List.getElem?_cons_succ, evB, evX, evS, evO, evR, evR2, evI, evJ, evD, eqU_s, eqU_vo, valK_dk, Option.map_none,  nums_ints, flat_rep, Option.map_some, List.getElem?_append_left, dSlot_d, oMulG_a, oMulG_b, oMod_e, oTup_e, oLst_e, oList_e, oAdd_t, oMulG_t, eqU_tI, eqU_nil, eqU_i, dk_len, Bool.not_true, Bool.not_false, Bool.false_eq_true, if_true, if_false, if_pos, if_neg, mem_last, mem_setl, mem_mid, mem_setm, at3_0, at3_1, at3_2, ix3_0, ix3_2, decide_eq_true_eq, decide_true, decide_false, and_true, true_and, and_false, false_and, not_true_eq_false, not_false_eq_true, wipeU, *])
theorem forN_ix {nx : Nat → Mem → Option (Option U)} {g : GD} {b : SD} {us : List U} (I : Nat → Ev.Env → Mem → Prop) (hn : ∀ i ρ m, I i ρ m → nx i m = some us[i]?) (h : ∀ i u ρ m, us[i]? = some u → I i ρ m → ∃ ρ1 m1 ρ2 m2, g u ρ m = some (ρ1, m1) ∧ b ρ1 m1 = .ok .nx ρ2 m2 ∧ I (i + 1) ρ2 m2) : ∀ (k i : Nat) (ρ : Ev.Env) (m : Mem), us.length < i + (k + 1) → i ≤ us.length → I i ρ m → ∃ ρ' m', forN nx g b (k + 1) i ρ m = .ok .nx ρ' m' ∧ I us.length ρ' m'
  | k, i, ρ, m, hk, hi, hI => by
    by_cases hlt : i < us.length
    · cases k with
      | zero => omega
      | succ k =>
        have hu : us[i]? = some us[i] := List.getElem?_eq_getElem hlt
        obtain ⟨ρ1, m1, ρ2, m2, e1, e2, h2⟩ := h i us[i] ρ m hu hI
        obtain ⟨ρ', m', e3, h3⟩ := forN_ix I hn h k (i + 1) ρ2 m2 (by omega) (by omega) h2
        refine ⟨ρ', m', ?_, h3⟩
        rw [forN]
        simp only [hn i ρ m hI, hu, e1, thenO, e2, loopS, e3]
    · have : i = us.length := by omega
      subst this
      refine ⟨ρ, m, ?_, hI⟩
      rw [forN]
      simp only [hn _ ρ m hI, List.getElem?_eq_none (Nat.le_refl _)]
theorem dB_ok {F : List U → Mem → O U} {fr : XL} {ρ : Ev.Env} {m m1 m2 : Mem} {us : List U} {w : U} (hr : fr ρ m = .ok us m1) (hf : F us m1 = some (w, m2)) : dB F fr ρ m = .ok w m2 := by
  unfold dB
  rw [hr]
  show ofO (F us m1) = _
  rw [hf]; rfl
theorem lC1_ok {a : XD} {ρ : Ev.Env} {m m1 : Mem} {u : U} (h : a ρ m = .ok u m1) : lCons a lNil ρ m = .ok [u] m1 := by
  show (a ρ m).bind _ = _
  rw [h]; rfl
theorem dLc_ref {f : XD} {g : GD} {t : XT} {e : XD} {vs : List Nat} {ρ : Ev.Env} {m m1 m2 : Mem} {n : Nat} {us ys : List U} (hf : f ρ m = .ok (.ref n) m1) (hm : m1[n]? = some (.lst us)) (hc : compN (nxL n) g t e (wipeU ρ vs) (us.length + 1) 0 m1 = some (ys, m2)) (hl : ys.length ≤ 16777216) :
    dLc (iAny f) g t e vs ρ m = .ok (.ref m2.length) (m2 ++ [Cell.lst ys]) := by
  have hs : srcA m1 (.ref n) = some (.dyn (us.length + 1) (nxL n)) := by
    show srcOf m1 (.ref n) = _
    unfold srcOf
    simp only [hm]
    rfl
  unfold dLc
  have h1 : iAny f ρ m = .ok (.dyn (us.length + 1) (nxL n)) m1 := by
    show (f ρ m).bind _ = _
    rw [hf]
    show ofB (srcA m1 (.ref n)) m1 = _
    rw [hs]; rfl
  rw [h1]
  show ofO (oList (compN (nxL n) g t e (wipeU ρ vs) (us.length + 1) 0 m1)) = _
  rw [hc, oList_e hl]; rfl
theorem dat_lS {m : Mem} {n : Nat} {l : List Str} (hn : m[n]? = some (.lst (l.map U.str))) : dat m (.ref n) = some (.list (l.map .str)) := by
  show (match m[n]? with | some (.lst us) => (datRL (resM m 5) us).map PyData.list | _ => none) = _
  rw [hn]
  show (datRL (resM m 5) (l.map U.str)).map PyData.list = _
  rw [datRL_strs]; rfl
theorem eqU_lS {m : Mem} {n k : Nat} {l : List Str} (hn : m[n]? = some (.lst (l.map U.str))) (hk : m[k]? = some (.lst (l.map U.str))) (h : ∀ x ∈ l, PyData.strOk x = true) : eqU m (.ref n) (.ref k) = some true := by
  unfold Ev.eqU
  simp only [dat_lS hn, dat_lS hk, shaped_lS h, Bool.and_true, if_true]
  show some (PyData.eqvAll (l.map .str) (l.map .str)) = _
  rw [eqvAll_strs, decide_eq_true rfl]
theorem sorted_e {m : Mem} {n : Nat} {l : List Str} (hn : m[n]? = some (.lst (l.map U.str))) (hl : l.length < 64) : oSorted [.ref n] m = some (.ref m.length, m ++ [Cell.lst ((sortS l).map .str)]) := by
  have ht : txts (l.map U.str) = some l := by
    clear hn hl
    induction l with
    | nil => rfl
    | cons a r ih => show (txts (r.map U.str)).map _ = _; rw [ih]; rfl
  unfold oSorted dcells itemsOf
  simp only [hn, ht]
  rw [if_pos hl]
theorem sortedP_e {m : Mem} {n : Nat} {ps : List (Int × Int)} (hn : m[n]? = some (.lst (ps.map pU))) : oSortedP [.ref n] m = some (.ref m.length, m ++ [Cell.lst ((ps.mergeSort leP).map pU)]) := by
  have ht : pairsU (ps.map pU) = some ps := by
    clear hn
    induction ps with
    | nil => rfl
    | cons a r ih => show (pairsU (r.map pU)).map _ = _; rw [ih]; rfl
  unfold oSortedP itemsOf
  simp only [hn, ht]
theorem sorts_same (Ns : List (List Nat)) (h : ∀ l ∈ Ns, OkN l) : ∃ S : List (List Nat), (∀ l ∈ S, OkN l) ∧ sortS (Ns.map st) = S.map st ∧ (Ns.map nc).mergeSort leP = S.map nc := by
  refine ⟨Ns.mergeSort fun a b => leS (st a) (st b), fun l hl => h l ((List.mergeSort_perm _ _).mem_iff.mp hl), ?_, ?_⟩
  · unfold sortS
    rw [List.map_mergeSort (r := fun a b => leS (st a) (st b)) (s := leS) (f := st) (fun a _ b _ => rfl)]
  · rw [List.map_mergeSort (r := fun a b => leS (st a) (st b)) (s := leP) (f := nc) (fun a ha b hb => (order (h a ha) (h b hb)).symm)]
abbrev nmE : XD := dCall d_cells_name (lCons (dOp oIx (dSlot 11) (dC (.int 0))) (lCons (dOp oIx (dSlot 11) (dC (.int 1))) lNil))
theorem p_sorts (k : Nat) (Ns : List (List Nat)) (h : ∀ l ∈ Ns, OkN l) (hl : Ns.length ≤ 50) (m : Mem) (hm : m[k]? = some (cN Ns)) (x0 x2 x3 x4 x5 x6 x7 x8 x9 : Option U) :
    ∃ t, (tBl (dOp oNe (dB oSorted (lCons (dSlot 1) lNil)) (dLc (iAny (dB oSortedP (lCons (dLc (iAny (dSlot 1)) (gName 4) tYesU (dCall d_name_cells (lCons (dSlot 4) lNil)) [4]) lNil))) (gName 11) tYesU nmE [11]))) [x0, some (.ref k), x2, x3, x4, x5, x6, x7, x8, x9, none, none] m = .ok false (m ++ t) := by
  obtain ⟨S, hS, s1, s2⟩ := sorts_same Ns h
  have hm' : m[k]? = some (.lst ((Ns.map st).map U.str)) := by rw [hm, List.map_map]; rfl
  have e1 := sorted_e hm' (by simp; omega)
  rw [s1] at e1
  -- the pairs of the names
  obtain ⟨t2, e2⟩ := compN_map (nx := nxL k) (g := gName 4) (e := dCall d_name_cells (lCons (dSlot 4) lNil)) (ρ := [x0, some (.ref k), x2, x3, none, x5, x6, x7, x8, x9, none, none]) (P := fun m => m[k]? = some (cN Ns)) (us := Ns.map fun l => U.str (st l)) (F := fun u => match u with | .str x => pU (nc x.cps.toList) | _ => .non) (fun m t h => mem_old h) (fun i m h => nxL_e h i) (Ns.map fun l => U.str (st l)).length 0 (m ++ [Cell.lst ((S.map st).map U.str)]) (mem_old hm) (by omega) (by
    intro u hu m _
    obtain ⟨l, hl, rfl⟩ := List.mem_map.mp hu
    obtain ⟨t, e⟩ := p_nc (h l hl) m
    refine ⟨[x0, some (.ref k), x2, x3, some (.str (st l)), x5, x6, x7, x8, x9, none, none], t, rfl, ?_⟩
    show _ = R.ok (pU (nc (st l).cps.toList)) (m ++ t)
    rw [st_list]
    show _ = R.ok (U.tup [.int (nc l).1, .int (nc l).2]) (m ++ t)
    walk_at "ev")
  have f2 : ((Ns.map fun l => U.str (st l)).drop 0).map (fun u => match u with | .str x => pU (nc x.cps.toList) | _ => .non) = (Ns.map nc).map pU := by
    rw [List.drop_zero, List.map_map, List.map_map]
    refine List.map_congr_left fun l _ => ?_
    show pU (nc (st l).cps.toList) = _
    rw [st_list]; rfl
  rw [f2] at e2
  have e3 := sortedP_e (m := m ++ [Cell.lst ((S.map st).map U.str)] ++ t2 ++ [Cell.lst ((Ns.map nc).map pU)]) (n := (m ++ [Cell.lst ((S.map st).map U.str)] ++ t2).length) (ps := Ns.map nc) (mem_last _ _)
  rw [s2] at e3
  obtain ⟨M, hM⟩ : ∃ M, m ++ [Cell.lst ((S.map st).map U.str)] ++ t2 ++ [Cell.lst ((Ns.map nc).map pU)] = M := ⟨_, rfl⟩
  rw [hM] at e3
  -- the names of the pairs
  obtain ⟨t4, e4⟩ := compN_map (nx := nxL M.length) (g := gName 11) (e := nmE) (ρ := [x0, some (.ref k), x2, x3, x4, x5, x6, x7, x8, x9, none, none]) (P := fun m => m[M.length]? = some (.lst ((S.map nc).map pU))) (us := (S.map nc).map pU) (F := fun u => match u with | .tup [.int a, .int b] => cnm (trimL (dig a b)) | _ => .non) (fun m t h => mem_old h) (fun i m h => nxL_e h i) ((S.map nc).map pU).length 0 (M ++ [Cell.lst ((S.map nc).map pU)]) (mem_last _ _) (by omega) (by
    intro u hu m _
    rw [List.map_map] at hu
    obtain ⟨l, hl, rfl⟩ := List.mem_map.mp hu
    obtain ⟨t, e⟩ := p_back (hS l hl) m
    refine ⟨[x0, some (.ref k), x2, x3, x4, x5, x6, x7, x8, x9, none, some (.tup [.int (nc l).1, .int (nc l).2])], t, rfl, ?_⟩
    show _ = R.ok (cnm (trimL (dig (nc l).1 (nc l).2))) (m ++ t)
    rw [cnm_nc (hS l hl)]
    have a0 : atI [U.int (nc l).1, .int (nc l).2] 0 = some (.int (nc l).1) := rfl
    have a1 : atI [U.int (nc l).1, .int (nc l).2] 1 = some (.int (nc l).2) := rfl
    walk_at "ev")
  have f4 : (((S.map nc).map pU).drop 0).map (fun u => match u with | .tup [.int a, .int b] => cnm (trimL (dig a b)) | _ => .non) = (S.map st).map U.str := by
    rw [List.drop_zero, List.map_map, List.map_map, List.map_map]
    refine List.map_congr_left fun l hl => ?_
    show cnm (trimL (dig (nc l).1 (nc l).2)) = _
    rw [cnm_nc (hS l hl)]; rfl
  rw [f4] at e4
  have q := eqU_lS (m := M ++ [Cell.lst ((S.map nc).map pU)] ++ t4 ++ [Cell.lst ((S.map st).map U.str)]) (n := m.length) (k := (M ++ [Cell.lst ((S.map nc).map pU)] ++ t4).length) (l := S.map st) (by
    rw [← hM]
    exact mem_old (mem_old (mem_old (mem_old (mem_old (mem_last _ _)))))) (mem_last _ _) (fun x hx => by obtain ⟨l, hl, rfl⟩ := List.mem_map.mp hx; exact ok_st (hS l hl).ok)
  have A1 : (dB oSorted (lCons (dSlot 1) lNil)) [x0, some (.ref k), x2, x3, x4, x5, x6, x7, x8, x9, none, none] m = .ok (.ref m.length) (m ++ [Cell.lst ((S.map st).map U.str)]) := dB_ok (lC1_ok rfl) e1
  have A2 : (dLc (iAny (dSlot 1)) (gName 4) tYesU (dCall d_name_cells (lCons (dSlot 4) lNil)) [4]) [x0, some (.ref k), x2, x3, x4, x5, x6, x7, x8, x9, none, none] (m ++ [Cell.lst ((S.map st).map U.str)]) = .ok (.ref (m ++ [Cell.lst ((S.map st).map U.str)] ++ t2).length) (m ++ [Cell.lst ((S.map st).map U.str)] ++ t2 ++ [Cell.lst ((Ns.map nc).map pU)]) :=
    dLc_ref (us := Ns.map fun l => U.str (st l)) rfl (mem_old hm) e2 (by simp; omega)
  have A3 : (dB oSortedP (lCons (dLc (iAny (dSlot 1)) (gName 4) tYesU (dCall d_name_cells (lCons (dSlot 4) lNil)) [4]) lNil)) [x0, some (.ref k), x2, x3, x4, x5, x6, x7, x8, x9, none, none] (m ++ [Cell.lst ((S.map st).map U.str)]) = .ok (.ref M.length) (M ++ [Cell.lst ((S.map nc).map pU)]) := by
    refine dB_ok (lC1_ok A2) ?_
    rw [hM]; exact e3
  have hSl : S.length = Ns.length := by
    have := congrArg List.length s2
    simpa [List.length_mergeSort] using this.symm
  have A4 := dLc_ref (us := (S.map nc).map pU) (ys := (S.map st).map U.str) (t := tYesU) (g := gName 11) (e := nmE) (vs := [11]) A3 (mem_last _ _) e4 (by simp; omega)
  have A5 := dOp_ok (F := oNe) A1 A4 (w := .bl false) (m3 := M ++ [Cell.lst ((S.map nc).map pU)] ++ t4 ++ [Cell.lst ((S.map st).map U.str)]) (by
    show (eqU _ _ _).map _ = _
    rw [q]; rfl)
  refine ⟨[Cell.lst ((S.map st).map U.str)] ++ t2 ++ [Cell.lst ((Ns.map nc).map pU)] ++ [Cell.lst ((S.map nc).map pU)] ++ t4 ++ [Cell.lst ((S.map st).map U.str)], ?_⟩
  rw [show m ++ ([Cell.lst ((S.map st).map U.str)] ++ t2 ++ [Cell.lst ((Ns.map nc).map pU)] ++ [Cell.lst ((S.map nc).map pU)] ++ t4 ++ [Cell.lst ((S.map st).map U.str)]) = M ++ [Cell.lst ((S.map nc).map pU)] ++ t4 ++ [Cell.lst ((S.map st).map U.str)] by rw [← hM]; simp only [List.append_assoc]]
  show R.bind _ _ = _
  rw [A5]; rfl
end My

set_option Elab.async false
set_option linter.all false
set_option maxRecDepth 100000
set_option maxHeartbeats 2000000
namespace My
open PySem L2 Ev RZ
local macro_rules | `(tactic| walk_at "ev") => `(tactic| simp (disch := first | assumption | omega | simp; done | (simp only [List.length_map, List.length_append, List.length_cons, List.length_nil, List.length_replicate]; omega)) only [runB_e, List.length_cons, List.length_nil, List.length_map, Nat.reduceAdd, Nat.reduceSub, List.reduceReplicate, List.map_cons, List.map_nil, List.cons_append, List.nil_append, List.append_nil, List.set_cons_zero, List.set_cons_succ, List.getElem?_cons_zero, List.getElem?_cons_succ, evB, evX, evS, evO, evR, evR2, evI, evJ, evD, eqU_s, eqU_vo, valK_dk, Option.map_none,  nums_ints, flat_rep, Option.map_some, List.getElem?_append_left, dSlot_d, oMulG_a, oMulG_b, oMod_e, oTup_e, oLst_e, oList_e, oAdd_t, oMulG_t, eqU_tI, eqU_nil, eqU_i, dk_len, Bool.not_true, Bool.not_false, Bool.false_eq_true, if_true, if_false, if_pos, if_neg, mem_last, mem_setl, mem_mid, mem_setm, at3_0, at3_1, at3_2, ix3_0, ix3_2, decide_eq_true_eq, decide_true, decide_false, and_true, true_and, and_false, false_and, not_true_eq_false, not_false_eq_true, wipeU, *])
theorem ok_codes {l : List Nat} (h : ∀ c ∈ l, c < 1114112) : PyData.strOk (st l) = true := by
  unfold PyData.strOk
  rw [Array.all_eq_true']
  intro c hc
  have : c ∈ l := by simpa [st] using hc
  exact decide_eq_true (h c this)
theorem eqU_spl (m : Mem) (f s : Int) (hf0 : 0 ≤ f) (hf1 : f ≤ 996) (hs0 : 0 ≤ s) (hs1 : s ≤ 996) : eqU m (spl f s) (spl f s) = some true := by
  unfold spl
  split
  · rfl
  · split
    · have hk : PyData.strOk (st ((trimL (dig f s)).map cd)) = true := ok_codes fun c hc => by
        obtain ⟨n, hn, rfl⟩ := List.mem_map.mp hc
        have := trim_mem hn
        have hb : 0 ≤ n ∧ n ≤ 996 := by
          simp only [dig, List.mem_cons, List.not_mem_nil, or_false] at this
          rcases this with e | e | e | e <;> subst e <;> omega
        unfold cd
        split <;> omega
      rw [eqU_s hk hk, decide_eq_true rfl]
    · rfl
abbrev fstE : XD := dCall d_law_given (lCons (dSlot 0) (lCons (dLst (lCons (dC (.int 0)) (lCons (dC (.int 27)) (lCons (dC (.int 28)) (lCons (dC (.int 728)) (lCons (dC (.int 729)) (lCons (dC (.int 996)) (lCons (dCall d_law_drawn (lCons (dSlot 0) (lCons (dC (.int 997)) lNil))) (lCons (dOp oMulG (dC (.int 27)) (dCall d_law_drawn (lCons (dSlot 0) (lCons (dC (.int 27)) lNil)))) lNil))))))))) lNil))
abbrev sndE : XD := dCall d_law_given (lCons (dSlot 0) (lCons (dLst (lCons (dC (.int 0)) (lCons (dC (.int 0)) (lCons (dC (.int 1)) (lCons (dC (.int 26)) (lCons (dC (.int 27)) (lCons (dC (.int 728)) (lCons (dC (.int 729)) (lCons (dCall d_law_drawn (lCons (dSlot 0) (lCons (dC (.int 997)) lNil))) (lCons (dOp oMulG (dC (.int 27)) (dCall d_law_drawn (lCons (dSlot 0) (lCons (dC (.int 27)) lNil)))) lNil)))))))))) lNil))
theorem p_fst (c : Nat) (m : Mem) (hw : Well c m) (x1 x2 x3 x4 x5 x6 x7 x8 x9 : Option U) : ∃ i m', fstE [some (.ref c), x1, x2, x3, x4, x5, x6, x7, x8, x9, none, none] m = .ok (.int i) m' ∧ 0 ≤ i ∧ i ≤ 996 ∧ Gr c m m' := by
  obtain ⟨a, m1, e1, a0, a1, g1⟩ := p_drawn c 997 (by decide) (by decide) m hw
  obtain ⟨b, m2, e2, b0, b1, g2⟩ := p_drawn c 27 (by decide) (by decide) m1 g1.well
  obtain ⟨y, m3, e3, hy, g3⟩ := p_pick c [.int 0, .int 27, .int 28, .int 728, .int 729, .int 996, .int a, .int (27 * b)] (by simp) (by simp) m2 g2.well
  have hy' : ∃ i, y = .int i ∧ 0 ≤ i ∧ i ≤ 996 := by
    simp only [List.mem_cons, List.not_mem_nil, or_false] at hy
    rcases hy with h | h | h | h | h | h | h | h <;> exact ⟨_, h, by omega, by omega⟩
  obtain ⟨i, rfl, i0, i1⟩ := hy'
  refine ⟨i, m3, ?_, i0, i1, (g1.trans g2).trans g3⟩
  clear hy g1 g2 g3 hw
  walk_at "ev"
theorem p_snd (c : Nat) (m : Mem) (hw : Well c m) (x1 x2 x3 x4 x5 x6 x7 x8 x9 : Option U) : ∃ i m', sndE [some (.ref c), x1, x2, x3, x4, x5, x6, x7, x8, x9, none, none] m = .ok (.int i) m' ∧ 0 ≤ i ∧ i ≤ 996 ∧ Gr c m m' := by
  obtain ⟨a, m1, e1, a0, a1, g1⟩ := p_drawn c 997 (by decide) (by decide) m hw
  obtain ⟨b, m2, e2, b0, b1, g2⟩ := p_drawn c 27 (by decide) (by decide) m1 g1.well
  obtain ⟨y, m3, e3, hy, g3⟩ := p_pick c [.int 0, .int 0, .int 1, .int 26, .int 27, .int 728, .int 729, .int a, .int (27 * b)] (by simp) (by simp) m2 g2.well
  have hy' : ∃ i, y = .int i ∧ 0 ≤ i ∧ i ≤ 996 := by
    simp only [List.mem_cons, List.not_mem_nil, or_false] at hy
    rcases hy with h | h | h | h | h | h | h | h | h <;> exact ⟨_, h, by omega, by omega⟩
  obtain ⟨i, rfl, i0, i1⟩ := hy'
  refine ⟨i, m3, ?_, i0, i1, (g1.trans g2).trans g3⟩
  clear hy g1 g2 g3 hw
  walk_at "ev"
def bodT : SD := sSeq (sAsg fstE (gName 5)) (sSeq (sAsg sndE (gName 6)) (sIf (tBl (dOp oNe (dCall d_cells_name (lCons (dSlot 5) (lCons (dSlot 6) lNil))) (dCall d_law_spelled (lCons (dSlot 5) (lCons (dSlot 6) lNil))))) (sRet (dC (.bl false))) sNext))
theorem p_bodT (c : Nat) (m : Mem) (hw : Well c m) (x1 x2 x3 x4 x5 x6 x7 x8 x9 : Option U) : ∃ m' y5 y6, Well c m' ∧ bodT [some (.ref c), x1, x2, x3, x4, x5, x6, x7, x8, x9, none, none] m = .ok .nx [some (.ref c), x1, x2, x3, x4, y5, y6, x7, x8, x9, none, none] m' := by
  obtain ⟨f, m1, e1, f0, f1, g1⟩ := p_fst c m hw x1 x2 x3 x4 x5 x6 x7 x8 x9
  obtain ⟨s, m2, e2, s0, s1, g2⟩ := p_snd c m1 g1.well x1 x2 x3 x4 (some (.int f)) x6 x7 x8 x9
  obtain ⟨t, e3⟩ := p_cname f s f0 f1 s0 s1 m2
  have e4 := p_spelled f s f0 f1 s0 s1 (m2 ++ t)
  rw [spell_eq f s f0 f1 s0 s1] at e3
  have q := eqU_spl (m2 ++ t) f s f0 f1 s0 s1
  refine ⟨m2 ++ t, some (.int f), some (.int s), g2.well.app t, ?_⟩
  unfold bodT
  rw [seq_ok (asg_ok e1)]
  show sSeq _ _ [some (.ref c), x1, x2, x3, x4, some (.int f), x6, x7, x8, x9, none, none] m1 = _
  rw [seq_ok (asg_ok e2)]
  show sIf _ _ _ [some (.ref c), x1, x2, x3, x4, some (.int f), some (.int s), x7, x8, x9, none, none] m2 = _
  generalize spl f s = v at *
  clear e1 e2 g1 g2 hw
  refine if_no ?_
  walk_at "ev"
end My

set_option Elab.async false
set_option linter.all false
set_option maxRecDepth 100000
set_option maxHeartbeats 2000000
namespace My
open PySem L2 Ev RZ
local macro_rules | `(tactic| walk_at "ev") => `(tactic| simp (disch := first | assumption | omega | simp; done | (simp only [List.length_map, List.length_append, List.length_cons, List.length_nil, List.length_replicate]; omega)) only [runB_e, List.length_cons, List.length_nil, List.length_map, Nat.reduceAdd, Nat.reduceSub, List.reduceReplicate, List.map_cons, List.map_nil, List.cons_append, List.nil_append, List.append_nil, List.set_cons_zero, List.set_cons_succ, List.getElem?_cons_zero, List.getElem?_cons_succ, evB, evX, evS, evO, evR, evR2, evI, evJ, evD, eqU_s, eqU_vo, valK_dk, Option.map_none,  nums_ints, flat_rep, Option.map_some, List.getElem?_append_left, dSlot_d, oMulG_a, oMulG_b, oMod_e, oTup_e, oLst_e, oList_e, oAdd_t, oMulG_t, eqU_tI, eqU_nil, eqU_i, dk_len, Bool.not_true, Bool.not_false, Bool.false_eq_true, if_true, if_false, if_pos, if_neg, mem_last, mem_setl, mem_mid, mem_setm, at3_0, at3_1, at3_2, ix3_0, ix3_2, decide_eq_true_eq, decide_true, decide_false, and_true, true_and, and_false, false_and, not_true_eq_false, not_false_eq_true, wipeU, *])
theorem rp0 : repsU (.int (-1)) = some [st [45, 49]] := by decide +kernel
theorem rp1 : repsU (.int 997) = some [st [57, 57, 55]] := by decide +kernel
theorem rp2 : repsU (.int 996) = some [st [57, 57, 54]] := by decide +kernel
theorem rp3 : repsU (.int 0) = some [st [48]] := by decide +kernel
theorem rp4 : repsU (.bl true) = some [st [84, 114, 117, 101]] := by decide +kernel
theorem rp5 : repsU .non = some [st [78, 111, 110, 101]] := by decide +kernel
theorem rp6 : repsU (.str (st [53])) = some [st [39, 53, 39]] := by decide +kernel
theorem rp7 : repsU (.tup [.int 5]) = some [st [40, 53, 44, 41], st [40, 46, 46, 46, 41]] := by decide +kernel
def T60 : Int := 1000000000000000000000000000000000000000000000000000000000000
theorem rp8 : ∃ t, repsU (.int T60) = some [t] ∧ PyData.strOk t = true ∧ t ≠ st [57, 57, 54] ∧ t ≠ st [48] := ⟨rI T60, by decide +kernel, by decide +kernel, by decide +kernel, by decide +kernel⟩
theorem pow60 (m : Mem) : oPow (.int 10) (.int 60) m = some (.int T60, m) := by
  rw [show oPow (.int 10) (.int 60) m = if (0 : Int) ≤ 60 ∧ (Builtin.Int.intBits 10 : Int) * 60 ≤ 2 ^ 27 then some (.int ((10 : Int) ^ (60 : Int).toNat), m) else none from rfl, if_pos (by decide +kernel)]
  rfl
end My

set_option Elab.async false
set_option linter.all false
set_option maxRecDepth 100000
set_option maxHeartbeats 2000000
namespace My
open PySem L2 Ev RZ
local macro_rules | `(tactic| walk_at "ev") => `(tactic| simp (disch := first | assumption | omega | simp; done | (simp only [List.length_map, List.length_append, List.length_cons, List.length_nil, List.length_replicate]; omega)) only [runB_e, List.length_cons, List.length_nil, List.length_map, Nat.reduceAdd, Nat.reduceSub, List.reduceReplicate, List.map_cons, List.map_nil, List.cons_append, List.nil_append, List.append_nil, List.set_cons_zero, List.set_cons_succ, List.getElem?_cons_zero, List.getElem?_cons_succ, evB, evX, evS, evO, evR, evR2, evI, evJ, evD, eqU_s, eqU_vo, valK_dk, Option.map_none,  nums_ints, flat_rep, Option.map_some, List.getElem?_append_left, dSlot_d, oMulG_a, oMulG_b, oMod_e, oTup_e, oLst_e, oList_e, oAdd_t, oMulG_t, eqU_tI, eqU_nil, eqU_i, dk_len, Bool.not_true, Bool.not_false, Bool.false_eq_true, if_true, if_false, if_pos, if_neg, mem_last, mem_setl, mem_mid, mem_setm, at3_0, at3_1, at3_2, ix3_0, ix3_2, decide_eq_true_eq, decide_true, decide_false, and_true, true_and, and_false, false_and, not_true_eq_false, not_false_eq_true, wipeU, *])
abbrev Wz : List Str := [st [122], st [122, 122, 122, 122], st [97, 98, 99]]
theorem Wz_ok : ∀ x ∈ Wz, PyData.strOk x = true := by decide +kernel
theorem p_nameB (l : List Nat) (h1 : 1 ≤ l.length) (h4 : l.length ≤ 4) (m : Mem) : ∃ t, d_is_name [.str (st l)] m = .ok (.bl (l.all fun c => decide (c ∈ ABC))) (m ++ t) := by
  unfold d_is_name b_is_name
  have hlen : (st l).length = l.length := by simp [st, Str.length]
  have hs : srcA m (.str (st l)) = some (.fix (l.map fun c => .str (st [c]))) := by
    show some (Src.fix (signs (st l))) = _
    rw [signs_st]
  obtain ⟨t, e⟩ := compL_map (g := gName 1) (e := dOp oIn (dSlot 1) (dC (.str (st ABC)))) (ρ := [some (.str (st l)), none]) (F := fun u => match u with | .str x => .bl (decide (x.cps.toList.headD 0 ∈ ABC)) | _ => .non) (P := fun _ => True) (fun _ _ _ => trivial) (l.map fun c => .str (st [c])) m trivial (by
    intro u hu m _
    obtain ⟨c, hc, rfl⟩ := List.mem_map.mp hu
    refine ⟨[some (.str (st l)), some (.str (st [c]))], [], rfl, ?_⟩
    have hi : inU m (.str (st [c])) (.str (st ABC)) = some (decide (c ∈ ABC)) := by
      show (match (st [c]).cps.toList with | [k] => some (decide (k ∈ (st ABC).cps.toList)) | _ => none) = _
      rw [st_list, st_list]
    show _ = R.ok (U.bl (decide ((st [c]).cps.toList.headD 0 ∈ ABC))) (m ++ [])
    rw [st_list]
    show _ = R.ok (U.bl (decide (c ∈ ABC))) (m ++ [])
    generalize decide (c ∈ ABC) = b at *
    walk_at "ev")
  have f0 : ((l.map fun c => U.str (st [c])).map fun u => match u with | .str x => .bl (decide (x.cps.toList.headD 0 ∈ ABC)) | _ => .non) = l.map fun c => U.bl (decide (c ∈ ABC)) := by
    rw [List.map_map]
    refine List.map_congr_left fun c _ => ?_
    show U.bl (decide ((st [c]).cps.toList.headD 0 ∈ ABC)) = _
    rw [st_list]; rfl
  rw [f0] at e
  have hb : bools (l.map fun c => U.bl (decide (c ∈ ABC))) = some (l.map fun c => decide (c ∈ ABC)) := bools_map (fun c => decide (c ∈ ABC)) l
  have ha : ((l.map fun c => decide (c ∈ ABC)).all id) = l.all fun c => decide (c ∈ ABC) := by rw [List.all_map]; rfl
  have hsz : l.length ≤ sizeLine := Nat.le_trans h4 (by decide)
  have c1 : (1 : Int) ≤ (l.length : Nat) := by omega
  have c2 : ((l.length : Nat) : Int) ≤ 4 := by omega
  have hll : (l.map fun c => U.bl (decide (c ∈ ABC))).length ≤ 16777216 := by simp; omega
  generalize (l.all fun c => decide (c ∈ ABC)) = B at *
  generalize (l.map fun c => decide (c ∈ ABC)) = bs at *
  generalize (l.map fun c => U.bl (decide (c ∈ ABC))) = us at *
  refine ⟨t ++ [.lst us], ?_⟩
  clear f0
  walk_at "ev"
  try rw [List.append_assoc]
theorem p_nameL (l : List Nat) (h : l.length = 0 ∨ 4 < l.length) (h5 : l.length ≤ 1000) (m : Mem) : d_is_name [.str (st l)] m = .ok (.bl false) m := by
  unfold d_is_name b_is_name
  have hlen : (st l).length = l.length := by simp [st, Str.length]
  have hsz : l.length ≤ sizeLine := Nat.le_trans h5 (by decide)
  by_cases c1 : (1 : Int) ≤ (l.length : Nat)
  · have c2 : ¬ ((l.length : Nat) : Int) ≤ 4 := by omega
    walk_at "ev"
  · walk_at "ev"
theorem p_nameO (u : U) (m : Mem) (ht : isTy m .str u = some false) : d_is_name [u] m = .ok (.bl false) m := by
  unfold d_is_name b_is_name
  walk_at "ev"
theorem inU_ns {m : Mem} {u : U} {d : PyData} {l : List Str} (hd : dat m u = some d) (hs : SeqAt.shaped d = true) (hne : ∀ z, PyData.eqv (.str z) d = false) (h : ∀ x ∈ l, PyData.strOk x = true) : inU m u (tS l) = some false := by
  show (match dat m u, datsOf m (tS l) with
    | some d, some ds => if SeqAt.shaped d && SeqAt.shaped (.list ds) then some (ds.any fun z => PyData.eqv z d) else none
    | _, _ => none) = _
  have h2 : datsOf m (tS l) = some (l.map .str) := datRL_strs _ l
  rw [hd, h2]
  simp only [hs, shaped_lS h, Bool.and_true, if_true]
  congr 1
  rw [List.any_eq_false]
  intro z hz
  obtain ⟨x, _, rfl⟩ := List.mem_map.mp hz
  rw [hne]; simp
end My

set_option Elab.async false
set_option linter.all false
set_option maxRecDepth 100000
set_option maxHeartbeats 2000000
namespace My
open PySem L2 Ev RZ
local macro_rules | `(tactic| walk_at "ev") => `(tactic| simp (disch := first | assumption | omega | simp; done | (simp only [List.length_map, List.length_append, List.length_cons, List.length_nil, List.length_replicate]; omega)) only [runB_e, List.length_cons, List.length_nil, List.length_map, Nat.reduceAdd, Nat.reduceSub, List.reduceReplicate, List.map_cons, List.map_nil, List.cons_append, List.nil_append, List.append_nil, List.set_cons_zero, List.set_cons_succ, List.getElem?_cons_zero, List.getElem?_cons_succ, evB, evX, evS, evO, evR, evR2, evI, evJ, evD, eqU_s, eqU_vo, valK_dk, Option.map_none,  nums_ints, flat_rep, Option.map_some, List.getElem?_append_left, dSlot_d, oMulG_a, oMulG_b, oMod_e, oTup_e, oLst_e, oList_e, oAdd_t, oMulG_t, eqU_tI, eqU_nil, eqU_i, dk_len, Bool.not_true, Bool.not_false, Bool.false_eq_true, if_true, if_false, if_pos, if_neg, mem_last, mem_setl, mem_mid, mem_setm, at3_0, at3_1, at3_2, ix3_0, ix3_2, decide_eq_true_eq, decide_true, decide_false, and_true, true_and, and_false, false_and, not_true_eq_false, not_false_eq_true, wipeU, *])
abbrev namesU (n : Nat) : List U := [.str (st []), .str (st [65]), .str (st [97, 98, 99, 100, 101]), .str (st [97, 32, 98]), .str (st [97, 49]), .str (st [97, 98, 10]), .non, .int 5, .tup [.str (st [97])], .ref n, .str (st [122]), .str (st [122, 122, 122, 122]), .str (st [97, 98, 99]), .bl true]
theorem q_name (n : Nat) (u : U) (m : Mem) (hn : m[n]? = some (.lst [.str (st [97])])) (hu : u ∈ namesU n) : ∃ b t, d_is_name [u] m = .ok (.bl b) (m ++ t) ∧ ∀ t', inU (m ++ t') u (tS Wz) = some b := by
  have hS : ∀ (l : List Nat) (b : Bool), 1 ≤ l.length → l.length ≤ 4 → PyData.strOk (st l) = true → (l.all fun c => decide (c ∈ ABC)) = b → decide (st l ∈ Wz) = b → ∃ b t, d_is_name [.str (st l)] m = .ok (.bl b) (m ++ t) ∧ ∀ t', inU (m ++ t') (.str (st l)) (tS Wz) = some b := by
    intro l b h1 h4 hk e1 e2
    obtain ⟨t, e⟩ := p_nameB l h1 h4 m
    exact ⟨b, t, by rw [e, e1], fun t' => by rw [inU_t hk Wz_ok, e2]⟩
  have hL : ∀ (l : List Nat), (l.length = 0 ∨ 4 < l.length) → l.length ≤ 1000 → PyData.strOk (st l) = true → decide (st l ∈ Wz) = false → ∃ b t, d_is_name [.str (st l)] m = .ok (.bl b) (m ++ t) ∧ ∀ t', inU (m ++ t') (.str (st l)) (tS Wz) = some b := by
    intro l h h5 hk e2
    exact ⟨false, [], by rw [p_nameL l h h5 m, List.append_nil], fun t' => by rw [inU_t hk Wz_ok, e2]⟩
  have hO : ∀ (u : U) (d : PyData), isTy m .str u = some false → (∀ t', dat (m ++ t') u = some d) → SeqAt.shaped d = true → (∀ z, PyData.eqv (.str z) d = false) → ∃ b t, d_is_name [u] m = .ok (.bl b) (m ++ t) ∧ ∀ t', inU (m ++ t') u (tS Wz) = some b := by
    intro u d ht hd hs hne
    exact ⟨false, [], by rw [p_nameO u m ht, List.append_nil], fun t' => inU_ns (hd t') hs hne Wz_ok⟩
  simp only [List.mem_cons, List.not_mem_nil, or_false] at hu
  rcases hu with h | h | h | h | h | h | h | h | h | h | h | h | h | h <;> subst h
  · exact hL [] (by simp) (by simp) (by decide +kernel) (by decide +kernel)
  · exact hS [65] false (by simp) (by simp) (by decide +kernel) (by decide +kernel) (by decide +kernel)
  · exact hL [97, 98, 99, 100, 101] (by simp) (by simp) (by decide +kernel) (by decide +kernel)
  · exact hS [97, 32, 98] false (by simp) (by simp) (by decide +kernel) (by decide +kernel) (by decide +kernel)
  · exact hS [97, 49] false (by simp) (by simp) (by decide +kernel) (by decide +kernel) (by decide +kernel)
  · exact hS [97, 98, 10] false (by simp) (by simp) (by decide +kernel) (by decide +kernel) (by decide +kernel)
  · exact hO .non .none rfl (fun _ => rfl) (by decide +kernel) (fun _ => rfl)
  · exact hO (.int 5) (.int 5) rfl (fun _ => rfl) (by decide +kernel) (fun _ => rfl)
  · exact hO (.tup [.str (st [97])]) (.tuple [.str (st [97])]) rfl (fun _ => rfl) (by decide +kernel) (fun _ => rfl)
  · exact hO (.ref n) (.list [.str (st [97])]) (by unfold isTy; simp only [hn]; rfl) (fun t' => dat_lS (l := [st [97]]) (mem_old hn)) (by decide +kernel) (fun _ => rfl)
  · exact hS [122] true (by simp) (by simp) (by decide +kernel) (by decide +kernel) (by decide +kernel)
  · exact hS [122, 122, 122, 122] true (by simp) (by simp) (by decide +kernel) (by decide +kernel) (by decide +kernel)
  · exact hS [97, 98, 99] true (by simp) (by simp) (by decide +kernel) (by decide +kernel) (by decide +kernel)
  · exact hO (.bl true) (.bool true) rfl (fun _ => rfl) (by decide +kernel) (fun _ => rfl)
abbrev cellsU : List U := [.int (-1), .int 997, .int 996, .int 0, .bl true, .non, .str (st [53]), .tup [.int 5], .int T60]
abbrev Wr : List Str := [st [57, 57, 54], st [48]]
theorem Wr_ok : ∀ x ∈ Wr, PyData.strOk x = true := by decide +kernel
theorem p_cellO (u : U) (m : Mem) (ht : isTy m .int u = some false) : d_is_cell [u] m = .ok (.bl false) m := by
  have h : d_is_number [u, .int 0, .int 996] m = .ok (.bl false) m := by
    unfold d_is_number b_is_number
    walk_at "ev"
  unfold d_is_cell b_is_cell
  walk_at "ev"
theorem p_cellT (b : Bool) (m : Mem) : d_is_cell [.bl b] m = .ok (.bl false) m := by
  have h1 : isTy m .int (.bl b) = some true := rfl
  have h2 : isTy m .bool (.bl b) = some true := rfl
  have h : d_is_number [.bl b, .int 0, .int 996] m = .ok (.bl false) m := by
    unfold d_is_number b_is_number
    walk_at "ev"
  unfold d_is_cell b_is_cell
  walk_at "ev"
theorem q_cell (u : U) (m : Mem) (hu : u ∈ cellsU) : ∃ b, d_is_cell [u] m = .ok (.bl b) m ∧ ∃ l, repsU u = some l ∧ ∀ m', allIn m' (tS Wr) l = some b := by
  have h1 : ∀ (t : Str) (b : Bool), PyData.strOk t = true → decide (t ∈ Wr) = b → ∀ m', allIn m' (tS Wr) [t] = some b := fun t b hk e m' => by
    show inU m' (.str t) (tS Wr) = _
    rw [inU_t hk Wr_ok, e]
  simp only [List.mem_cons, List.not_mem_nil, or_false] at hu
  rcases hu with h | h | h | h | h | h | h | h | h <;> subst h
  · exact ⟨false, by rw [p_cell]; rfl, _, rp0, h1 _ _ (by decide +kernel) (by decide +kernel)⟩
  · exact ⟨false, by rw [p_cell]; rfl, _, rp1, h1 _ _ (by decide +kernel) (by decide +kernel)⟩
  · exact ⟨true, by rw [p_cell]; rfl, _, rp2, h1 _ _ (by decide +kernel) (by decide +kernel)⟩
  · exact ⟨true, by rw [p_cell]; rfl, _, rp3, h1 _ _ (by decide +kernel) (by decide +kernel)⟩
  · exact ⟨false, p_cellT true m, _, rp4, h1 _ _ (by decide +kernel) (by decide +kernel)⟩
  · exact ⟨false, p_cellO _ m rfl, _, rp5, h1 _ _ (by decide +kernel) (by decide +kernel)⟩
  · exact ⟨false, p_cellO _ m rfl, _, rp6, h1 _ _ (by decide +kernel) (by decide +kernel)⟩
  · refine ⟨false, p_cellO _ m rfl, _, rp7, fun m' => ?_⟩
    have a1 : inU m' (.str (st [40, 53, 44, 41])) (tS Wr) = some false := by rw [inU_t (by decide +kernel) Wr_ok]; exact congrArg some (by decide +kernel)
    have a2 : inU m' (.str (st [40, 46, 46, 46, 41])) (tS Wr) = some false := by rw [inU_t (by decide +kernel) Wr_ok]; exact congrArg some (by decide +kernel)
    show (match inU m' (.str (st [40, 53, 44, 41])) (tS Wr), inU m' (.str (st [40, 46, 46, 46, 41])) (tS Wr) with
      | some a, some b => if a = b then some a else none
      | _, _ => none) = _
    rw [a1, a2]; rfl
  · obtain ⟨t, e, hk, n1, n2⟩ := rp8
    refine ⟨false, ?_, [t], e, h1 t false hk (decide_eq_false fun z => ?_)⟩
    · rw [p_cell, decide_eq_false (by unfold T60; omega)]
    · rcases List.mem_cons.mp z with z | z
      · exact n1 z
      · exact n2 (List.mem_singleton.mp z)
end My

set_option Elab.async false
set_option linter.all false
set_option maxRecDepth 100000
set_option maxHeartbeats 2000000
namespace My
open PySem L2 Ev RZ
local macro_rules | `(tactic| walk_at "ev") => `(tactic| simp (disch := first | assumption | omega | simp; done | (simp only [List.length_map, List.length_append, List.length_cons, List.length_nil, List.length_replicate]; omega)) only [runB_e, List.length_cons, List.length_nil, List.length_map, Nat.reduceAdd, Nat.reduceSub, List.reduceReplicate, List.map_cons, List.map_nil, List.cons_append, List.nil_append, List.append_nil, List.set_cons_zero, List.set_cons_succ, List.getElem?_cons_zero, List.getElem?_cons_succ, evB, evX, evS, evO, evR, evR2, evI, evJ, evD, eqU_s, eqU_vo, valK_dk, Option.map_none,  nums_ints, flat_rep, Option.map_some, List.getElem?_append_left, dSlot_d, oMulG_a, oMulG_b, oMod_e, oTup_e, oLst_e, oList_e, oAdd_t, oMulG_t, eqU_tI, eqU_nil, eqU_i, dk_len, Bool.not_true, Bool.not_false, Bool.false_eq_true, if_true, if_false, if_pos, if_neg, mem_last, mem_setl, mem_mid, mem_setm, at3_0, at3_1, at3_2, ix3_0, ix3_2, decide_eq_true_eq, decide_true, decide_false, and_true, true_and, and_false, false_and, not_true_eq_false, not_false_eq_true, wipeU, *])
def cellB : U → Bool
  | .int i => decide (0 ≤ i ∧ i ≤ 996)
  | _ => false
def simp1 : U → Bool
  | .int _ => true
  | .bl _ => true
  | .str _ => true
  | .tup _ => true
  | _ => false
theorem p_isc (u : U) (h : simp1 u = true) (m : Mem) : d_is_cell [u] m = .ok (.bl (cellB u)) m := by
  cases u with
  | int i => exact p_cell i m
  | bl b => exact p_cellT b m
  | str x => exact p_cellO _ m rfl
  | tup us => exact p_cellO _ m rfl
  | _ => cases h
theorem p_iscs (us : List U) (h : us.all simp1 = true) (hl : us.length ≤ 16777216) (m : Mem) : ∃ t, d_is_cells [.tup us] m = .ok (.bl (us.all cellB)) (m ++ t) := by
  unfold d_is_cells b_is_cells
  obtain ⟨t, e⟩ := compL_map (g := gName 1) (e := dCall d_is_cell (lCons (dSlot 1) lNil)) (ρ := [some (.tup us), none]) (F := fun u => .bl (cellB u)) (P := fun _ => True) (fun _ _ _ => trivial) us m trivial (by
    intro u hu m _
    have hc := p_isc u (List.all_eq_true.mp h u hu) m
    refine ⟨[some (.tup us), some u], [], rfl, ?_⟩
    generalize cellB u = b at *
    walk_at "ev")
  have hb : bools (us.map fun u => U.bl (cellB u)) = some (us.map cellB) := bools_map cellB us
  have ha : (us.map cellB).all id = us.all cellB := by rw [List.all_map]; rfl
  have ht : isTy m .tuple (.tup us) = some true := rfl
  have hs : srcA m (.tup us) = some (.fix us) := rfl
  have hll : (us.map fun u => U.bl (cellB u)).length ≤ 16777216 := by simpa using hl
  generalize us.all cellB = B at *
  generalize us.map cellB = bs at *
  generalize (us.map fun u => U.bl (cellB u)) = vs at *
  refine ⟨t ++ [.lst vs], ?_⟩
  clear h
  walk_at "ev"
  try rw [List.append_assoc]
theorem p_cellsO (u : U) (m : Mem) (ht : isTy m .tuple u = some false) : d_is_cells [u] m = .ok (.bl false) m := by
  unfold d_is_cells b_is_cells
  walk_at "ev"
abbrev Rr : U := .tup [.tup [], .tup [.int 0, .int 996]]
abbrev Rd0 : List PyData := [.tuple [], .tuple [.int 0, .int 996]]
theorem inU_r {m : Mem} {u : U} {d : PyData} {b : Bool} (hd : dat m u = some d) (hs : SeqAt.shaped d = true) (hb : (Rd0.any fun z => PyData.eqv z d) = b) (hn : dcells m u = none) : oInX u Rr m = some (.bl b, m) := by
  have h2 : datsOf m Rr = some Rd0 := rfl
  have h3 : SeqAt.shaped (.list Rd0) = true := by decide +kernel
  have h4 : inU m u Rr = some b := by
    show (match dat m u, datsOf m Rr with
      | some d, some ds => if SeqAt.shaped d && SeqAt.shaped (.list ds) then some (ds.any fun z => PyData.eqv z d) else none
      | _, _ => none) = _
    rw [hd, h2]
    show (if SeqAt.shaped d && SeqAt.shaped (.list Rd0) then some (Rd0.any fun z => PyData.eqv z d) else none) = _
    rw [hs, h3, hb]; rfl
  unfold oInX
  rw [hn]
  show (inU m u Rr).map _ = _
  rw [h4]; rfl
abbrev rowsU (n1 n2 : Nat) : List U := [.tup [], .tup [.int 0, .int 996], .tup [.int 997], .ref n1, .tup [.bl true], .non, .tup [.str (st [49])], .tup [.int 1, .int (-1)], .int 5, .tup [.int 1, .tup [.int 2]], .ref n2]
theorem q_row (n1 n2 : Nat) (u : U) (m : Mem) (h1 : m[n1]? = some (.lst [.int 1])) (h2 : m[n2]? = some (.dK [])) (hu : u ∈ rowsU n1 n2) : ∃ b t, d_is_cells [u] m = .ok (.bl b) (m ++ t) ∧ ∀ t', oInX u Rr (m ++ t') = some (.bl b, m ++ t') := by
  have hT : ∀ (us : List U) (ds : List PyData) (b : Bool), us.all simp1 = true → us.length ≤ 16777216 → us.all cellB = b → (∀ m, dat m (.tup us) = some (.tuple ds)) → SeqAt.shaped (.tuple ds) = true → (Rd0.any fun z => PyData.eqv z (.tuple ds)) = b → ∃ b t, d_is_cells [.tup us] m = .ok (.bl b) (m ++ t) ∧ ∀ t', oInX (.tup us) Rr (m ++ t') = some (.bl b, m ++ t') := by
    intro us ds b a1 a2 a3 a4 a5 a6
    obtain ⟨t, e⟩ := p_iscs us a1 a2 m
    exact ⟨b, t, by rw [e, a3], fun t' => inU_r (a4 _) a5 a6 rfl⟩
  have hO : ∀ (u : U) (d : PyData), isTy m .tuple u = some false → (∀ t', dat (m ++ t') u = some d) → SeqAt.shaped d = true → (Rd0.any fun z => PyData.eqv z d) = false → (∀ t', dcells (m ++ t') u = none) → ∃ b t, d_is_cells [u] m = .ok (.bl b) (m ++ t) ∧ ∀ t', oInX u Rr (m ++ t') = some (.bl b, m ++ t') := by
    intro u d ht hd hs hb hn
    exact ⟨false, [], by rw [p_cellsO u m ht, List.append_nil], fun t' => inU_r (hd t') hs hb (hn t')⟩
  simp only [List.mem_cons, List.not_mem_nil, or_false] at hu
  rcases hu with h | h | h | h | h | h | h | h | h | h | h <;> subst h
  · exact hT [] [] true rfl (by simp) rfl (fun _ => rfl) (by decide +kernel) (by decide +kernel)
  · exact hT [.int 0, .int 996] [.int 0, .int 996] true rfl (by simp) (by decide) (fun _ => rfl) (by decide +kernel) (by decide +kernel)
  · exact hT [.int 997] [.int 997] false rfl (by simp) (by decide) (fun _ => rfl) (by decide +kernel) (by decide +kernel)
  · exact hO (.ref n1) (.list [.int 1]) (by unfold isTy; simp only [h1]; rfl) (fun t' => by
      have := mem_old (t := t') h1
      show (match (m ++ t')[n1]? with | some (.lst us) => (datRL (resM (m ++ t') 5) us).map PyData.list | _ => none) = _
      rw [this]; rfl) (by decide +kernel) (by decide +kernel) (fun t' => by unfold dcells; simp only [mem_old h1])
  · exact hT [.bl true] [.bool true] false rfl (by simp) (by decide) (fun _ => rfl) (by decide +kernel) (by decide +kernel)
  · exact hO .non .none rfl (fun _ => rfl) (by decide +kernel) (by decide +kernel) (fun _ => rfl)
  · exact hT [.str (st [49])] [.str (st [49])] false rfl (by simp) rfl (fun _ => rfl) (by decide +kernel) (by decide +kernel)
  · exact hT [.int 1, .int (-1)] [.int 1, .int (-1)] false rfl (by simp) (by decide) (fun _ => rfl) (by decide +kernel) (by decide +kernel)
  · exact hO (.int 5) (.int 5) rfl (fun _ => rfl) (by decide +kernel) (by decide +kernel) (fun _ => rfl)
  · exact hT [.int 1, .tup [.int 2]] [.int 1, .tuple [.int 2]] false rfl (by simp) (by decide) (fun _ => rfl) (by decide +kernel) (by decide +kernel)
  · refine ⟨false, [], ?_, fun t' => ?_⟩
    · rw [p_cellsO (.ref n2) m (by unfold isTy; simp only [h2]; rfl), List.append_nil]
    · unfold oInX dcells
      simp only [mem_old h2]
      rfl
end My

set_option Elab.async false
set_option linter.all false
set_option maxRecDepth 100000
set_option maxHeartbeats 2000000
namespace My
open PySem L2 Ev RZ
local macro_rules | `(tactic| walk_at "ev") => `(tactic| simp (disch := first | assumption | omega | simp; done | (simp only [List.length_map, List.length_append, List.length_cons, List.length_nil, List.length_replicate]; omega)) only [runB_e, List.length_cons, List.length_nil, List.length_map, Nat.reduceAdd, Nat.reduceSub, List.reduceReplicate, List.map_cons, List.map_nil, List.cons_append, List.nil_append, List.append_nil, List.set_cons_zero, List.set_cons_succ, List.getElem?_cons_zero, List.getElem?_cons_succ, evB, evX, evS, evO, evR, evR2, evI, evJ, evD, eqU_s, eqU_vo, valK_dk, Option.map_none,  nums_ints, flat_rep, Option.map_some, List.getElem?_append_left, dSlot_d, oMulG_a, oMulG_b, oMod_e, oTup_e, oLst_e, oList_e, oAdd_t, oMulG_t, eqU_tI, eqU_nil, eqU_i, dk_len, Bool.not_true, Bool.not_false, Bool.false_eq_true, if_true, if_false, if_pos, if_neg, mem_last, mem_setl, mem_mid, mem_setm, at3_0, at3_1, at3_2, ix3_0, ix3_2, decide_eq_true_eq, decide_true, decide_false, and_true, true_and, and_false, false_and, not_true_eq_false, not_false_eq_true, wipeU, *])
abbrev cA : Cell := .lst [.str (st [97])]
theorem p_near (c : Nat) (m : Mem) (hw : Well c m) : ∃ u v w n1 n2 n3 m', d_law_near [.ref c] m = .ok (.tup [u, v, w]) m' ∧ u ∈ namesU n1 ∧ m'[n1]? = some cA ∧ v ∈ cellsU ∧ w ∈ rowsU n2 n3 ∧ m'[n2]? = some (.lst [.int 1]) ∧ m'[n3]? = some (.dK []) := by
  have hc := well_lt hw
  obtain ⟨u, m1, e1, hu, g1⟩ := p_pick c (namesU m.length) (by simp) (by simp) (m ++ [cA]) (hw.app _)
  have k1 : m1[m.length]? = some cA := g1.get (by omega) (mem_last _ _)
  have hc1 := well_lt g1.well
  obtain ⟨v, m2, e2, hv, g2⟩ := p_pick c cellsU (by simp) (by simp) m1 g1.well
  have k2 : m2[m.length]? = some cA := g2.get (by omega) k1
  have hc2 := well_lt g2.well
  have hl2 : (m2 ++ [Cell.lst [.int 1]]).length = m2.length + 1 := by simp
  obtain ⟨w, m3, e3, hw3, g3⟩ := p_pick c (rowsU m2.length (m2 ++ [Cell.lst [.int 1]]).length) (by simp) (by simp) (m2 ++ [Cell.lst [.int 1]] ++ [Cell.dK []]) ((g2.well.app _).app _)
  have k3 : m3[m.length]? = some cA := g3.get (by omega) (mem_old (mem_old k2))
  have k4 : m3[m2.length]? = some (.lst [.int 1]) := g3.get (by omega) (mem_old (mem_last _ _))
  have k5 : m3[(m2 ++ [Cell.lst [.int 1]]).length]? = some (.dK []) := g3.get (by omega) (mem_last _ _)
  refine ⟨u, v, w, m.length, m2.length, (m2 ++ [Cell.lst [.int 1]]).length, m3, ?_, hu, k3, hv, hw3, k4, k5⟩
  clear hu k1 k2 k3 k4 k5 hv hw3 g1 g2 g3 hc hc1 hc2 hw hl2
  have hp := pow60
  have hD : ∀ (ρ : Ev.Env) (m : Mem), dDNew ρ m = .ok (.ref m.length) (m ++ [Cell.dK []]) := fun _ _ => rfl
  unfold d_law_near b_law_near
  rw [runB_1]
  have s1 : (dCall d_law_given (lCons (dSlot 0) (lCons (dLst (lCons (dC (.str (st []))) (lCons (dC (.str (st [65]))) (lCons (dC (.str (st [97, 98, 99, 100, 101]))) (lCons (dC (.str (st [97, 32, 98]))) (lCons (dC (.str (st [97, 49]))) (lCons (dC (.str (st [97, 98, 10]))) (lCons (dC .non) (lCons (dC (.int 5)) (lCons (dTup (lCons (dC (.str (st [97]))) lNil)) (lCons (dLst (lCons (dC (.str (st [97]))) lNil)) (lCons (dC (.str (st [122]))) (lCons (dC (.str (st [122, 122, 122, 122]))) (lCons (dC (.str (st [97, 98, 99]))) (lCons (dC (.bl true)) lNil))))))))))))))) lNil))) [some (.ref c), none, none, none] m = .ok u m1 := by
    clear e2 e3
    walk_at "ev"
  have s2 : (dCall d_law_given (lCons (dSlot 0) (lCons (dLst (lCons (dUn oNeg (dC (.int 1))) (lCons (dC (.int 997)) (lCons (dC (.int 996)) (lCons (dC (.int 0)) (lCons (dC (.bl true)) (lCons (dC .non) (lCons (dC (.str (st [53]))) (lCons (dTup (lCons (dC (.int 5)) lNil)) (lCons (dOp oPow (dC (.int 10)) (dC (.int 60))) lNil)))))))))) lNil))) [some (.ref c), some u, none, none] m1 = .ok v m2 := by
    clear e1 e3 s1
    walk_at "ev"
  have s3 : (dCall d_law_given (lCons (dSlot 0) (lCons (dLst (lCons (dTup lNil) (lCons (dTup (lCons (dC (.int 0)) (lCons (dC (.int 996)) lNil))) (lCons (dTup (lCons (dC (.int 997)) lNil)) (lCons (dLst (lCons (dC (.int 1)) lNil)) (lCons (dTup (lCons (dC (.bl true)) lNil)) (lCons (dC .non) (lCons (dTup (lCons (dC (.str (st [49]))) lNil)) (lCons (dTup (lCons (dC (.int 1)) (lCons (dUn oNeg (dC (.int 1))) lNil))) (lCons (dC (.int 5)) (lCons (dTup (lCons (dC (.int 1)) (lCons (dTup (lCons (dC (.int 2)) lNil)) lNil))) (lCons dDNew lNil)))))))))))) lNil))) [some (.ref c), some u, some v, none] m2 = .ok w m3 := by
    clear e1 e2 s1 s2
    walk_at "ev"
  show finS (sSeq _ _ [some (.ref c), none, none, none] m) = _
  rw [seq_ok (asg_ok s1)]
  show finS (sSeq _ _ [some (.ref c), some u, none, none] m1) = _
  rw [seq_ok (asg_ok s2)]
  show finS (sSeq _ _ [some (.ref c), some u, some v, none] m2) = _
  rw [seq_ok (asg_ok s3)]
  rfl
end My

set_option Elab.async false
set_option linter.all false
set_option maxRecDepth 100000
set_option maxHeartbeats 2000000
namespace My
open PySem L2 Ev RZ
local macro_rules | `(tactic| walk_at "ev") => `(tactic| simp (disch := first | assumption | omega | simp; done | (simp only [List.length_map, List.length_append, List.length_cons, List.length_nil, List.length_replicate]; omega)) only [runB_e, List.length_cons, List.length_nil, List.length_map, Nat.reduceAdd, Nat.reduceSub, List.reduceReplicate, List.map_cons, List.map_nil, List.cons_append, List.nil_append, List.append_nil, List.set_cons_zero, List.set_cons_succ, List.getElem?_cons_zero, List.getElem?_cons_succ, evB, evX, evS, evO, evR, evR2, evI, evJ, evD, eqU_s, eqU_vo, valK_dk, Option.map_none,  nums_ints, flat_rep, Option.map_some, List.getElem?_append_left, dSlot_d, oMulG_a, oMulG_b, oMod_e, oTup_e, oLst_e, oList_e, oAdd_t, oMulG_t, eqU_tI, eqU_nil, eqU_i, dk_len, Bool.not_true, Bool.not_false, Bool.false_eq_true, if_true, if_false, if_pos, if_neg, mem_last, mem_setl, mem_mid, mem_setm, at3_0, at3_1, at3_2, ix3_0, ix3_2, decide_eq_true_eq, decide_true, decide_false, and_true, true_and, and_false, false_and, not_true_eq_false, not_false_eq_true, wipeU, *])
theorem for_d {f : XD} {g : GD} {b : SD} {ρ : Ev.Env} {m m1 : Mem} {n : Nat} {us : List U} (hf : f ρ m = .ok (.ref n) m1) (hm : m1[n]? = some (.lst us)) : sFor (iAny f) g b ρ m = forN (nxL n) g b (us.length + 1) 0 ρ m1 := by
  have hs : srcA m1 (.ref n) = some (.dyn (us.length + 1) (nxL n)) := by
    show srcOf m1 (.ref n) = _
    unfold srcOf
    simp only [hm]
    rfl
  have h1 : iAny f ρ m = .ok (.dyn (us.length + 1) (nxL n)) m1 := by
    show (f ρ m).bind _ = _
    rw [hf]
    show ofB (srcA m1 (.ref n)) m1 = _
    rw [hs]; rfl
  show thenE (iAny f ρ m) ρ _ = _
  rw [h1]; rfl
theorem rg_ok (n : Nat) (hn : n < 100) {ρ : Ev.Env} (m : Mem) : iRange1 (lCons (dC (.int (n : Int))) lNil) ρ m = .ok (.fix (runI 0 n)) m := by
  have b1 : -4611686018427387904 ≤ (n : Int) := by omega
  have b2 : (n : Int) < 4611686018427387904 := by omega
  have h3 : ((n : Nat) : Int).toNat = n := by omega
  walk_at "ev"
  try simp
theorem rg5 {ρ : Ev.Env} (m : Mem) : iRange1 (lCons (dC (.int 5)) lNil) ρ m = .ok (.fix (runI 0 5)) m := rg_ok 5 (by decide) m
theorem rg6 {ρ : Ev.Env} (m : Mem) : iRange1 (lCons (dC (.int 6)) lNil) ρ m = .ok (.fix (runI 0 6)) m := rg_ok 6 (by decide) m
theorem asg_g {f : XD} {g : GD} {ρ ρ' : Ev.Env} {m m1 m2 : Mem} {u : U} (h : f ρ m = .ok u m1) (hg : g u ρ m1 = some (ρ', m2)) : sAsg f g ρ m = .ok .nx ρ' m2 := by
  show thenE (f ρ m) ρ _ = _
  rw [h]
  show thenO (g u ρ m1) _ = _
  rw [hg]; rfl
theorem lCons_ok {a : XD} {r : XL} {ρ : Ev.Env} {m m1 m2 : Mem} {u : U} {us : List U} (h : a ρ m = .ok u m1) (h2 : r ρ m1 = .ok us m2) : lCons a r ρ m = .ok (u :: us) m2 := by
  show (a ρ m).bind _ = _
  rw [h]
  show (r ρ m1).bind _ = _
  rw [h2]; rfl
theorem dLst_ok {r : XL} {ρ : Ev.Env} {m m1 : Mem} {us : List U} (h : r ρ m = .ok us m1) (hl : us.length ≤ 16777216) : dLst r ρ m = .ok (.ref m1.length) (m1 ++ [Cell.lst us]) := by
  show (r ρ m).bind _ = _
  rw [h]
  show ofO (oLst us m1) = _
  rw [oLst_e hl]; rfl
theorem eqU_b3 {m : Mem} {n k : Nat} {a b c : Bool} (hn : m[n]? = some (.lst [.bl a, .bl b, .bl c])) (hk : m[k]? = some (.lst [.bl a, .bl b, .bl c])) : eqU m (.ref n) (.ref k) = some true := by
  have h1 : ∀ {n : Nat}, m[n]? = some (.lst [.bl a, .bl b, .bl c]) → dat m (.ref n) = some (.list [.bool a, .bool b, .bool c]) := fun {n} h => by
    show (match m[n]? with | some (.lst us) => (datRL (resM m 5) us).map PyData.list | _ => none) = _
    rw [h]; rfl
  unfold Ev.eqU
  rw [h1 hn, h1 hk]
  cases a <;> cases b <;> cases c <;> rfl
theorem p_right (c : Nat) (m : Mem) (hw : Well c m) : ∃ m', d_law_right [.ref c] m = .ok (.bl true) m' := by
  have hc := well_lt hw
  unfold d_law_right b_law_right
  rw [runB_1]
  show ∃ m', finS (sSeq _ _ [some (.ref c), none, none, none, none, none, none, none, none, none, none, none] m) = _
  rw [seq_ok (asg_ok (f := dLst lNil) (i := 1) (u := .ref m.length) (m' := m ++ [Cell.lst []]) rfl)]
  show ∃ m', finS (sSeq (sFor _ _ bodN) _ [some (.ref c), some (.ref m.length), none, none, none, none, none, none, none, none, none, none] (m ++ [Cell.lst []])) = _
  obtain ⟨ρ1, m1, e1, Ns, y2, y3, rfl, hNl, hNs, hw1, hk1⟩ := forIx (g := Ev.gName 2) (b := bodN) (us := runI 0 5)
    (fun i ρ m' => ∃ (Ns : List (List Nat)) (y2 y3 : Option U), ρ = [some (.ref c), some (.ref m.length), y2, y3, none, none, none, none, none, none, none, none] ∧ Ns.length = i ∧ (∀ l ∈ Ns, OkN l) ∧ Well c m' ∧ m'[m.length]? = some (cN Ns)) (by
      rintro j u ρ m' hu ⟨Ns, y2, y3, rfl, hl, hN, hw', hk⟩
      have hj := (run_at hu).1
      obtain ⟨m'', L, x3', hL, hw'', hk'', e⟩ := p_bodN c m.length Ns (by omega) m' hw' (by omega) hk (some u) y3 none none none none none none
      exact ⟨[some (.ref c), some (.ref m.length), some u, y3, none, none, none, none, none, none, none, none], m', _, m'', rfl, e, Ns ++ [L], some u, x3', rfl, by simp; omega, fun l hl' => (List.mem_append.mp hl').elim (hN l) (fun z => List.mem_singleton.mp z ▸ hL), hw'', hk''⟩) [some (.ref c), some (.ref m.length), none, none, none, none, none, none, none, none, none, none] (m ++ [Cell.lst []]) ⟨[], none, none, rfl, rfl, (fun _ h => by cases h), hw.app _, mem_last _ _⟩
  rw [runI_len] at hNl
  rw [seq_ok ((for_e (rg5 (m ++ [Cell.lst []]))).trans e1)]
  show ∃ m', finS (sSeq (sFor _ _ tstN) _ [some (.ref c), some (.ref m.length), y2, y3, none, none, none, none, none, none, none, none] m1) = _
  obtain ⟨ρ2, m2, e2, y4, rfl, hw2, hk2⟩ := forN_ix (nx := nxL m.length) (g := Ev.gName 4) (b := tstN) (us := Ns.map fun l => U.str (st l))
    (fun i ρ m' => ∃ (y4 : Option U), ρ = [some (.ref c), some (.ref m.length), y2, y3, y4, none, none, none, none, none, none, none] ∧ Well c m' ∧ m'[m.length]? = some (cN Ns)) (fun i ρ m' ⟨_, _, _, hk⟩ => nxL_e hk i) (by
      rintro j u ρ m' hu ⟨y4, rfl, hw', hk⟩
      obtain ⟨l, hl, rfl⟩ := List.mem_map.mp (List.mem_of_getElem? hu)
      obtain ⟨t, e⟩ := p_tstN (hNs l hl) m' (some (.ref c)) (some (.ref m.length)) y2 y3 none none none none none
      exact ⟨_, m', _, m' ++ t, rfl, e, some (.str (st l)), rfl, hw'.app t, mem_old hk⟩) (Ns.map fun l => U.str (st l)).length 0 [some (.ref c), some (.ref m.length), y2, y3, none, none, none, none, none, none, none, none] m1 (by omega) (by omega) ⟨none, rfl, hw1, hk1⟩
  rw [seq_ok ((for_d (f := dSlot 1) (us := Ns.map fun l => U.str (st l)) rfl hk1).trans e2)]
  obtain ⟨t3, e3⟩ := p_sorts m.length Ns hNs (by omega) m2 hk2 (some (.ref c)) y2 y3 y4 none none none none none
  rw [seq_ok (if_no e3)]
  obtain ⟨ρ4, m4, e4, z2, z5, z6, rfl, hw4⟩ := forIx (g := Ev.gName 2) (b := bodT) (us := runI 0 6)
    (fun i ρ m' => ∃ (z2 z5 z6 : Option U), ρ = [some (.ref c), some (.ref m.length), z2, y3, y4, z5, z6, none, none, none, none, none] ∧ Well c m') (by
      rintro j u ρ m' hu ⟨z2, z5, z6, rfl, hw'⟩
      obtain ⟨m'', a, b, hw'', e⟩ := p_bodT c m' hw' (some (.ref m.length)) (some u) y3 y4 z5 z6 none none none
      exact ⟨_, m', _, m'', rfl, e, some u, a, b, rfl, hw''⟩) [some (.ref c), some (.ref m.length), y2, y3, y4, none, none, none, none, none, none, none] (m2 ++ t3) ⟨y2, none, none, rfl, hw2.app _⟩
  show ∃ m', finS (sSeq (sFor _ _ bodT) _ [some (.ref c), some (.ref m.length), y2, y3, y4, none, none, none, none, none, none, none] (m2 ++ t3)) = _
  rw [seq_ok ((for_e (rg6 (m2 ++ t3))).trans e4)]
  obtain ⟨u, v, w, n1, n2, n3, m5, e5, hu, k1, hv, hw5, k2, k3⟩ := p_near c m4 hw4
  have e5' : sAsg (dCall d_law_near (lCons (dSlot 0) lNil)) (gTup 3 (gCons (Ev.gName 4) (gCons (Ev.gName 7) (gCons (Ev.gName 8) gNil)))) [some (.ref c), some (.ref m.length), z2, y3, y4, z5, z6, none, none, none, none, none] m4 = .ok .nx [some (.ref c), some (.ref m.length), z2, y3, some u, z5, z6, some v, some w, none, none, none] m5 := by
    have e50 : (dCall d_law_near (lCons (dSlot 0) lNil)) [some (.ref c), some (.ref m.length), z2, y3, y4, z5, z6, none, none, none, none, none] m4 = .ok (.tup [u, v, w]) m5 := by
      clear e1 e2 e3 e4 hNs hw hw1 hw2 hw4 hk1 hk2 k1 k2 k3 hu hv hw5
      walk_at "ev"
    exact asg_g e50 rfl
  rw [seq_ok e5']
  obtain ⟨b1, t1, f1, q1⟩ := q_name n1 u m5 k1 hu
  obtain ⟨b2, f2, l2, r2, q2⟩ := q_cell v (m5 ++ t1) hv
  obtain ⟨b3, t3', f3, q3⟩ := q_row n2 n3 w (m5 ++ t1) (mem_old k2) (mem_old k3) hw5
  have e6 : (dLst (lCons (dCall d_is_name (lCons (dSlot 4) lNil)) (lCons (dCall d_is_cell (lCons (dSlot 7) lNil)) (lCons (dCall d_is_cells (lCons (dSlot 8) lNil)) lNil)))) [some (.ref c), some (.ref m.length), z2, y3, some u, z5, z6, some v, some w, none, none, none] m5 = .ok (.ref (m5 ++ t1 ++ t3').length) (m5 ++ t1 ++ t3' ++ [Cell.lst [.bl b1, .bl b2, .bl b3]]) := by
    clear e1 e2 e3 e4 e5 e5' q1 q2 q3 hNs hw hw1 hw2 hw4 hk1 hk2 k1 k2 k3 hu hv hw5
    walk_at "ev"
  rw [seq_ok (asg_ok e6)]
  show ∃ m', finS (sRet _ [some (.ref c), some (.ref m.length), z2, y3, some u, z5, z6, some v, some w, some (.ref (m5 ++ t1 ++ t3').length), none, none] (m5 ++ t1 ++ t3' ++ [Cell.lst [.bl b1, .bl b2, .bl b3]])) = _
  have q1' := q1 (t1 ++ t3' ++ [Cell.lst [.bl b1, .bl b2, .bl b3]])
  have q3' := q3 (t3' ++ [Cell.lst [.bl b1, .bl b2, .bl b3]])
  rw [show m5 ++ (t1 ++ t3' ++ [Cell.lst [.bl b1, .bl b2, .bl b3]]) = m5 ++ t1 ++ t3' ++ [Cell.lst [.bl b1, .bl b2, .bl b3]] by simp only [List.append_assoc]] at q1'
  rw [show m5 ++ t1 ++ (t3' ++ [Cell.lst [.bl b1, .bl b2, .bl b3]]) = m5 ++ t1 ++ t3' ++ [Cell.lst [.bl b1, .bl b2, .bl b3]] by simp only [List.append_assoc]] at q3'
  have hm9 := mem_last (m5 ++ t1 ++ t3') (Cell.lst [.bl b1, .bl b2, .bl b3])
  clear e1 e2 e3 e4 e5 e5' e6 q1 q3 hNs hw hw1 hw2 hw4 hk1 hk2 k1 k2 k3 hu hv hw5 f1 f2 f3
  generalize (m5 ++ t1 ++ t3').length = n9 at *
  generalize m5 ++ t1 ++ t3' ++ [Cell.lst [.bl b1, .bl b2, .bl b3]] = M at *
  have z1 : (dOp oIn (dSlot 4) (dTup (lCons (dC (.str (st [122]))) (lCons (dC (.str (st [122, 122, 122, 122]))) (lCons (dC (.str (st [97, 98, 99]))) lNil))))) [some (.ref c), some (.ref m.length), z2, y3, some u, z5, z6, some v, some w, some (.ref n9), none, none] M = .ok (.bl b1) M := by
    refine dOp_ok (v := tS Wz) rfl rfl ?_
    show (inU M u (tS Wz)).map _ = _
    rw [q1']; rfl
  have z3 : (dReprIn (lCons (dSlot 7) lNil) (dTup (lCons (dC (.str (st [57, 57, 54]))) (lCons (dC (.str (st [48]))) lNil)))) [some (.ref c), some (.ref m.length), z2, y3, some u, z5, z6, some v, some w, some (.ref n9), none, none] M = .ok (.bl b2) M := by
    show (match repsU v with
      | some l => (R.ok (tS Wr) M).bind fun v m2 => match allIn m2 v l with
        | some b => R.ok (U.bl b) m2
        | none => .bad
      | none => .bad) = _
    rw [r2]
    show (match allIn M (tS Wr) l2 with | some b => R.ok (U.bl b) M | none => .bad) = _
    rw [q2]
  have z4 : (dOp oInX (dSlot 8) (dTup (lCons (dTup lNil) (lCons (dTup (lCons (dC (.int 0)) (lCons (dC (.int 996)) lNil))) lNil)))) [some (.ref c), some (.ref m.length), z2, y3, some u, z5, z6, some v, some w, some (.ref n9), none, none] M = .ok (.bl b3) M := dOp_ok (v := Rr) rfl rfl q3'
  have z5' := dLst_ok (lCons_ok z1 (lCons_ok z3 (lCons_ok z4 (rfl : lNil _ M = .ok [] M)))) (by simp)
  have z6' := dOp_ok (F := oEq) (a := dSlot 9) (u := .ref n9) (m1 := M) (w := .bl true) (m3 := M ++ [Cell.lst [.bl b1, .bl b2, .bl b3]]) (by rfl) z5' (by
    show (eqU _ _ _).map _ = _
    rw [eqU_b3 (mem_old hm9) (mem_last _ _)]; rfl)
  refine ⟨M ++ [Cell.lst [.bl b1, .bl b2, .bl b3]], ?_⟩
  show finS (thenE _ _ _) = _
  rw [z6']; rfl
end My

set_option Elab.async false
set_option linter.all false
set_option maxRecDepth 100000
set_option maxHeartbeats 2000000
namespace My
open PySem L2 Ev RZ
local macro_rules | `(tactic| walk_at "ev") => `(tactic| simp (disch := first | assumption | omega | simp; done | (simp only [List.length_map, List.length_append, List.length_cons, List.length_nil, List.length_replicate]; omega)) only [runB_e, List.length_cons, List.length_nil, List.length_map, Nat.reduceAdd, Nat.reduceSub, List.reduceReplicate, List.map_cons, List.map_nil, List.cons_append, List.nil_append, List.append_nil, List.set_cons_zero, List.set_cons_succ, List.getElem?_cons_zero, List.getElem?_cons_succ, evB, evX, evS, evO, evR, evR2, evI, evJ, evD, eqU_s, eqU_vo, valK_dk, Option.map_none,  nums_ints, flat_rep, Option.map_some, List.getElem?_append_left, dSlot_d, oMulG_a, oMulG_b, oMod_e, oTup_e, oLst_e, oList_e, oAdd_t, oMulG_t, eqU_tI, eqU_nil, eqU_i, dk_len, Bool.not_true, Bool.not_false, Bool.false_eq_true, if_true, if_false, if_pos, if_neg, mem_last, mem_setl, mem_mid, mem_setm, at3_0, at3_1, at3_2, ix3_0, ix3_2, decide_eq_true_eq, decide_true, decide_false, and_true, true_and, and_false, false_and, not_true_eq_false, not_false_eq_true, wipeU, *])
abbrev L6 : List U := [.tup [.int 27, .int 0], .tup [.int 703, .int 0], .tup [.int 29, .int 85], .tup [.int 728, .int 728], .non, .non]
abbrev D6 : PyData := .list [.tuple [.int 27, .int 0], .tuple [.int 703, .int 0], .tuple [.int 29, .int 85], .tuple [.int 728, .int 728], .none, .none]
theorem eqU_6 {m : Mem} {n k : Nat} (hn : m[n]? = some (.lst L6)) (hk : m[k]? = some (.lst L6)) : eqU m (.ref n) (.ref k) = some true := by
  have h1 : ∀ {n : Nat}, m[n]? = some (.lst L6) → dat m (.ref n) = some D6 := fun {n} h => by
    show (match m[n]? with | some (.lst us) => (datRL (resM m 5) us).map PyData.list | _ => none) = _
    rw [h]; rfl
  have h2 : SeqAt.shaped D6 = true := by decide +kernel
  have h3 : PyData.eqv D6 D6 = true := by decide +kernel
  unfold Ev.eqU
  rw [h1 hn, h1 hk]
  simp only [h2, h3, Bool.and_true, if_true]
theorem law_true : ∀ ns : List Int, ns.length ≤ 63 → ∃ m, d_law [.rol (ns.map .int)] [] = .ok (.bl true) m := by
  intro ns hns
  obtain ⟨N, hN⟩ : ∃ N : Nat, max 1 (min 4 ns.length) = N := ⟨_, rfl⟩
  have hmx : (if (if (ns.length : Int) < 4 then (ns.length : Int) else 4) > 1 then (if (ns.length : Int) < 4 then (ns.length : Int) else 4) else 1) = (N : Int) := by
    split <;> split <;> omega
  have hNN : ((N : Nat) : Int).toNat = N := by omega
  have hsrc : iRange1 (lCons (dB oMax2 (lCons (dC (.int 1)) (lCons (dB oMin2 (lCons (dC (.int 4)) (lCons (dB oLen (lCons (dSlot 0) lNil)) lNil))) lNil))) lNil) [some (.rol (ns.map .int)), none, none] [] = .ok (.fix (runI 0 N)) [] := by
    have b1 : -4611686018427387904 ≤ (N : Int) := by omega
    have b2 : (N : Int) < 4611686018427387904 := by omega
    clear hN
    walk_at "ev"
  obtain ⟨ρ', m1, e1, y, rfl⟩ := forIx (g := Ev.gName 1) (b := sIf (tN (tTru (dCall d_law_right (lCons (dCall d_law_well (lCons (dSlot 0) (lCons (dSlot 1) lNil))) lNil)))) (sRet (dC (.bl false))) sNext) (us := runI 0 N)
    (fun _ ρ _ => ∃ y : Option U, ρ = [some (.rol (ns.map .int)), y, none]) (by
      rintro j u ρ m' hu ⟨y, rfl⟩
      obtain ⟨hj, rfl⟩ := run_at hu
      obtain ⟨a, b, t, e⟩ := p_well ns j (by omega) m'
      obtain ⟨m'', e2⟩ := p_right (m' ++ t).length (m' ++ t ++ [.lst [.int a, .int b, .int 0]]) ⟨a, b, 0, mem_last _ _⟩
      refine ⟨[some (.rol (ns.map .int)), some (.int (j : Nat)), none], m', [some (.rol (ns.map .int)), some (.int (j : Nat)), none], m'', rfl, ?_, _, rfl⟩
      refine if_no ?_
      clear hu hsrc hmx hNN hN
      walk_at "ev") [some (.rol (ns.map .int)), none, none] [] ⟨none, rfl⟩
  unfold d_law b_law
  rw [runB_1]
  show ∃ m, finS (sSeq _ _ [some (.rol (ns.map .int)), none, none] []) = _
  rw [seq_ok ((for_e hsrc).trans e1)]
  have o1 : OkN [97] := ⟨by simp, by simp, by decide⟩
  have o2 : OkN [122, 97] := ⟨by simp, by simp, by decide⟩
  have o3 : OkN [97, 98, 99, 100] := ⟨by simp, by simp, by decide⟩
  have o4 : OkN [122, 122, 122, 122] := ⟨by simp, by simp, by decide⟩
  obtain ⟨t1, f1⟩ := p_nc o1 m1
  obtain ⟨t2, f2⟩ := p_nc o2 (m1 ++ t1)
  obtain ⟨t3, f3⟩ := p_nc o3 (m1 ++ t1 ++ t2)
  obtain ⟨t4, f4⟩ := p_nc o4 (m1 ++ t1 ++ t2 ++ t3)
  obtain ⟨t5, f5⟩ := p_cname 27 1 (by decide) (by decide) (by decide) (by decide) (m1 ++ t1 ++ t2 ++ t3 ++ t4)
  rw [show nc [97] = (27, 0) by decide] at f1
  rw [show nc [122, 97] = (703, 0) by decide] at f2
  rw [show nc [97, 98, 99, 100] = (29, 85) by decide] at f3
  rw [show nc [122, 122, 122, 122] = (728, 728) by decide] at f4
  rw [show cnm (trimL (dig 27 1)) = .non from rfl] at f5
  simp only at f1 f2 f3 f4
  generalize hM : m1 ++ t1 ++ t2 ++ t3 ++ t4 ++ t5 = M at f5
  have g1 : (dLst (lCons (dCall d_name_cells (lCons (dC (.str (st [97]))) lNil)) (lCons (dCall d_name_cells (lCons (dC (.str (st [122, 97]))) lNil)) (lCons (dCall d_name_cells (lCons (dC (.str (st [97, 98, 99, 100]))) lNil)) (lCons (dCall d_name_cells (lCons (dC (.str (st [122, 122, 122, 122]))) lNil)) (lCons (dCall d_cells_name (lCons (dC (.int 27)) (lCons (dC (.int 1)) lNil))) lNil)))))) [some (.rol (ns.map .int)), y, none] m1 = .ok (.ref M.length) (M ++ [Cell.lst (L6.take 5)]) := by
    show _ = R.ok (U.ref M.length) (M ++ [Cell.lst [.tup [.int 27, .int 0], .tup [.int 703, .int 0], .tup [.int 29, .int 85], .tup [.int 728, .int 728], .non]])
    clear e1 hsrc hmx hNN hN hM
    walk_at "ev"
  rw [seq_ok (asg_ok g1)]
  show ∃ m, finS (sSeq _ _ [some (.rol (ns.map .int)), y, some (.ref M.length)] (M ++ [Cell.lst (L6.take 5)])) = _
  obtain ⟨t6, f6⟩ := p_cname 0 0 (by decide) (by decide) (by decide) (by decide) (M ++ [Cell.lst (L6.take 5)])
  rw [show cnm (trimL (dig 0 0)) = .non from rfl] at f6
  have hk : (M ++ [Cell.lst (L6.take 5)] ++ t6 ++ [Cell.lst [.non]])[M.length]? = some (.lst (L6.take 5)) := mem_old (mem_old (mem_last _ _))
  have g2 : (dOp oAdd (dSlot 2) (dLst (lCons (dCall d_cells_name (lCons (dC (.int 0)) (lCons (dC (.int 0)) lNil))) lNil))) [some (.rol (ns.map .int)), y, some (.ref M.length)] (M ++ [Cell.lst (L6.take 5)]) = .ok (.ref (M ++ [Cell.lst (L6.take 5)] ++ t6 ++ [Cell.lst [.non]]).length) (M ++ [Cell.lst (L6.take 5)] ++ t6 ++ [Cell.lst [.non]] ++ [Cell.lst L6]) := by
    have h1 : (dCall d_cells_name (lCons (dC (.int 0)) (lCons (dC (.int 0)) lNil))) [some (.rol (ns.map .int)), y, some (.ref M.length)] (M ++ [Cell.lst (L6.take 5)]) = .ok .non (M ++ [Cell.lst (L6.take 5)] ++ t6) := f6
    refine dOp_ok rfl (dLst_ok (lC1_ok h1) (by simp)) ?_
    rw [oAdd_r hk (mem_last _ _) (by simp)]
    rfl
  rw [seq_ok (asg_ok g2)]
  generalize M ++ [Cell.lst (L6.take 5)] ++ t6 ++ [Cell.lst [.non]] = M2
  show ∃ m, finS (sSeq _ _ [some (.rol (ns.map .int)), y, some (.ref M2.length)] (M2 ++ [Cell.lst L6])) = _
  have g3 : (dOp oNe (dSlot 2) (dLst (lCons (dTup (lCons (dC (.int 27)) (lCons (dC (.int 0)) lNil))) (lCons (dTup (lCons (dC (.int 703)) (lCons (dC (.int 0)) lNil))) (lCons (dTup (lCons (dC (.int 29)) (lCons (dC (.int 85)) lNil))) (lCons (dTup (lCons (dC (.int 728)) (lCons (dC (.int 728)) lNil))) (lCons (dC .non) (lCons (dC .non) lNil)))))))) [some (.rol (ns.map .int)), y, some (.ref M2.length)] (M2 ++ [Cell.lst L6]) = .ok (.bl false) (M2 ++ [Cell.lst L6] ++ [Cell.lst L6]) := by
    refine dOp_ok (u := .ref M2.length) (m1 := M2 ++ [Cell.lst L6]) (v := .ref (M2 ++ [Cell.lst L6]).length) (m2 := M2 ++ [Cell.lst L6] ++ [Cell.lst L6]) rfl rfl ?_
    show (eqU _ _ _).map _ = _
    rw [eqU_6 (mem_old (mem_last _ _)) (mem_last _ _)]; rfl
  rw [seq_ok (if_no (m' := M2 ++ [Cell.lst L6] ++ [Cell.lst L6]) (by
    show R.bind _ _ = _
    rw [g3]; rfl))]
  refine ⟨M2 ++ [Cell.lst L6] ++ [Cell.lst L6], ?_⟩
  have q : eqU (M2 ++ [Cell.lst L6] ++ [Cell.lst L6]) (.tup [.int 997, .int 996, .int 4]) (.tup [.int 997, .int 996, .int 4]) = some true := by
    have := eqU_tI (M2 ++ [Cell.lst L6] ++ [Cell.lst L6]) [997, 996, 4] [997, 996, 4]
    rw [decide_eq_true rfl] at this
    exact this
  have g4 := dOp_ok (F := oEq) (a := dTup (lCons (dC (.int 997)) (lCons (dC (.int 996)) (lCons (dC (.int 4)) lNil)))) (b := dTup (lCons (dC (.int 997)) (lCons (dC (.int 996)) (lCons (dC (.int 4)) lNil)))) (ρ := [some (.rol (ns.map .int)), y, some (.ref M2.length)]) (m := M2 ++ [Cell.lst L6] ++ [Cell.lst L6]) (m1 := M2 ++ [Cell.lst L6] ++ [Cell.lst L6]) (m2 := M2 ++ [Cell.lst L6] ++ [Cell.lst L6]) (m3 := M2 ++ [Cell.lst L6] ++ [Cell.lst L6]) (u := .tup [.int 997, .int 996, .int 4]) (v := .tup [.int 997, .int 996, .int 4]) (w := .bl true) rfl rfl (by
    show (eqU _ _ _).map _ = _
    rw [q]; rfl)
  show finS (thenE _ _ _) = _
  rw [g4]; rfl
end My

set_option Elab.async false
set_option linter.all false
set_option maxRecDepth 100000
set_option maxHeartbeats 4000000
namespace My
open PySem L2 Ev RZ RT
def top (i : Nat) : Stmt := PySem.Challenge.pw_stillread_k01_whole_names_and_their_cell.main.body.getD i (.Pass ⟨0, 0, 0, 0⟩)
abbrev s_is_number : Stmt := top 6
abbrev n_is_number : List Str := ["value", "least", "most"]
theorem sc_is_number : FnScope n_is_number ["value", "least", "most"] (defScope s_is_number) := ⟨rfl, rfl, rfl, by decide +kernel, rfl, by decide +kernel, by decide +kernel⟩
abbrev s_check_number : Stmt := top 7
abbrev n_check_number : List Str := ["given", "least", "most"]
theorem sc_check_number : FnScope n_check_number ["given", "least", "most"] (defScope s_check_number) := ⟨rfl, rfl, rfl, by decide +kernel, rfl, by decide +kernel, by decide +kernel⟩
abbrev s_is_cell : Stmt := top 14
abbrev n_is_cell : List Str := ["value"]
theorem sc_is_cell : FnScope n_is_cell ["value"] (defScope s_is_cell) := ⟨rfl, rfl, rfl, by decide +kernel, rfl, by decide +kernel, by decide +kernel⟩
abbrev s_is_cells : Stmt := top 15
abbrev n_is_cells : List Str := ["value", "cell"]
theorem sc_is_cells : FnScope n_is_cells ["value"] (defScope s_is_cells) := ⟨rfl, rfl, rfl, by decide +kernel, rfl, by decide +kernel, by decide +kernel⟩
abbrev s_is_name : Stmt := top 16
abbrev n_is_name : List Str := ["value", "letter"]
theorem sc_is_name : FnScope n_is_name ["value"] (defScope s_is_name) := ⟨rfl, rfl, rfl, by decide +kernel, rfl, by decide +kernel, by decide +kernel⟩
abbrev s_check_name : Stmt := top 17
abbrev n_check_name : List Str := ["name"]
theorem sc_check_name : FnScope n_check_name ["name"] (defScope s_check_name) := ⟨rfl, rfl, rfl, by decide +kernel, rfl, by decide +kernel, by decide +kernel⟩
abbrev s_name_cells : Stmt := top 18
abbrev n_name_cells : List Str := ["name", "numbers", "letter"]
theorem sc_name_cells : FnScope n_name_cells ["name"] (defScope s_name_cells) := ⟨rfl, rfl, rfl, by decide +kernel, rfl, by decide +kernel, by decide +kernel⟩
abbrev s_cells_name : Stmt := top 19
abbrev n_cells_name : List Str := ["first", "second", "numbers", "number"]
theorem sc_cells_name : FnScope n_cells_name ["first", "second"] (defScope s_cells_name) := ⟨rfl, rfl, rfl, by decide +kernel, rfl, by decide +kernel, by decide +kernel⟩
abbrev s_law_well : Stmt := top 21
abbrev n_law_well : List Str := ["script", "spot", "cell", "great", "mixed"]
theorem sc_law_well : FnScope n_law_well ["script", "spot"] (defScope s_law_well) := ⟨rfl, rfl, rfl, by decide +kernel, rfl, by decide +kernel, by decide +kernel⟩
abbrev s_law_drawn : Stmt := top 22
abbrev n_law_drawn : List Str := ["well", "many", "found", "one", "two"]
theorem sc_law_drawn : FnScope n_law_drawn ["well", "many"] (defScope s_law_drawn) := ⟨rfl, rfl, rfl, by decide +kernel, rfl, by decide +kernel, by decide +kernel⟩
abbrev s_law_given : Stmt := top 23
abbrev n_law_given : List Str := ["well", "items"]
theorem sc_law_given : FnScope n_law_given ["well", "items"] (defScope s_law_given) := ⟨rfl, rfl, rfl, by decide +kernel, rfl, by decide +kernel, by decide +kernel⟩
abbrev s_law_figures : Stmt := top 24
abbrev n_law_figures : List Str := ["name", "found", "at", "letter"]
theorem sc_law_figures : FnScope n_law_figures ["name"] (defScope s_law_figures) := ⟨rfl, rfl, rfl, by decide +kernel, rfl, by decide +kernel, by decide +kernel⟩
abbrev s_law_spelled : Stmt := top 25
abbrev n_law_spelled : List Str := ["first", "second", "letters", "name"]
theorem sc_law_spelled : FnScope n_law_spelled ["first", "second"] (defScope s_law_spelled) := ⟨rfl, rfl, rfl, by decide +kernel, rfl, by decide +kernel, by decide +kernel⟩
abbrev s_law_near : Stmt := top 26
abbrev n_law_near : List Str := ["well", "name", "cell", "row"]
theorem sc_law_near : FnScope n_law_near ["well"] (defScope s_law_near) := ⟨rfl, rfl, rfl, by decide +kernel, rfl, by decide +kernel, by decide +kernel⟩
abbrev s_law_right : Stmt := top 27
abbrev n_law_right : List Str := ["well", "names", "turn", "letters", "name", "first", "second", "cell", "row", "told", "sign", "pair"]
theorem sc_law_right : FnScope n_law_right ["well"] (defScope s_law_right) := ⟨rfl, rfl, rfl, by decide +kernel, rfl, by decide +kernel, by decide +kernel⟩
abbrev s_law : Stmt := top 28
abbrev n_law : List Str := ["script", "spot", "told"]
theorem sc_law : FnScope n_law ["script"] (defScope s_law) := ⟨rfl, rfl, rfl, by decide +kernel, rfl, by decide +kernel, by decide +kernel⟩
structure Ad where
  is_number : Addr
  check_number : Addr
  is_cell : Addr
  is_cells : Addr
  is_name : Addr
  check_name : Addr
  name_cells : Addr
  cells_name : Addr
  law_well : Addr
  law_drawn : Addr
  law_given : Addr
  law_figures : Addr
  law_spelled : Addr
  law_near : Addr
  law_right : Addr
  law : Addr
structure Fd where
  is_number : FuncData
  check_number : FuncData
  is_cell : FuncData
  is_cells : FuncData
  is_name : FuncData
  check_name : FuncData
  name_cells : FuncData
  cells_name : FuncData
  law_well : FuncData
  law_drawn : FuncData
  law_given : FuncData
  law_figures : FuncData
  law_spelled : FuncData
  law_near : FuncData
  law_right : FuncData
  law : FuncData
structure Txt (w : World) (K : PySem.W.Frag) (c : Nat → Addr) (mg : Str → Option Value) (a : Ad) (d : Fd) : Prop where
  b_abs : mg "abs" = none
  b_all : mg "all" = none
  b_bool : mg "bool" = none
  b_divmod : mg "divmod" = none
  b_enumerate : mg "enumerate" = none
  b_int : mg "int" = none
  b_isinstance : mg "isinstance" = none
  b_len : mg "len" = none
  b_list : mg "list" = none
  b_max : mg "max" = none
  b_min : mg "min" = none
  b_range : mg "range" = none
  b_repr : mg "repr" = none
  b_sorted : mg "sorted" = none
  b_str : mg "str" = none
  b_sum : mg "sum" = none
  b_tuple : mg "tuple" = none
  c_LETTERS : ∃ t, mg "LETTERS" = some (.str (st [97, 98, 99, 100, 101, 102, 103, 104, 105, 106, 107, 108, 109, 110, 111, 112, 113, 114, 115, 116, 117, 118, 119, 120, 121, 122]) t)
  c_LETTER_NUMBERS : ∃ t, mg "LETTER_NUMBERS" = some (.int 27 t)
  c_LONGEST : ∃ t, mg "LONGEST" = some (.int 999999999999999999999999999999999999999999999999999999999999 t)
  c_MAX_CELL : ∃ t, mg "MAX_CELL" = some (.int 996 t)
  c_MAX_NAME : ∃ t, mg "MAX_NAME" = some (.int 4 t)
  c_PRIME : ∃ t, mg "PRIME" = some (.int 997 t)
  g_is_number : mg "is_number" = some (.ref a.is_number)
  k_is_number : PySem.W.keepIn K (.ref a.is_number) = true
  B_is_number : Binds K d.is_number ["value", "least", "most"] []
  F_is_number : Fun K "is_number" "is_number" s_is_number a.is_number d.is_number
  g_check_number : mg "check_number" = some (.ref a.check_number)
  k_check_number : PySem.W.keepIn K (.ref a.check_number) = true
  B_check_number : Binds K d.check_number ["given", "least", "most"] []
  F_check_number : Fun K "check_number" "check_number" s_check_number a.check_number d.check_number
  g_is_cell : mg "is_cell" = some (.ref a.is_cell)
  k_is_cell : PySem.W.keepIn K (.ref a.is_cell) = true
  B_is_cell : Binds K d.is_cell ["value"] []
  F_is_cell : Fun K "is_cell" "is_cell" s_is_cell a.is_cell d.is_cell
  g_is_cells : mg "is_cells" = some (.ref a.is_cells)
  k_is_cells : PySem.W.keepIn K (.ref a.is_cells) = true
  B_is_cells : Binds K d.is_cells ["value"] []
  F_is_cells : Fun K "is_cells" "is_cells" s_is_cells a.is_cells d.is_cells
  g_is_name : mg "is_name" = some (.ref a.is_name)
  k_is_name : PySem.W.keepIn K (.ref a.is_name) = true
  B_is_name : Binds K d.is_name ["value"] []
  F_is_name : Fun K "is_name" "is_name" s_is_name a.is_name d.is_name
  g_check_name : mg "check_name" = some (.ref a.check_name)
  k_check_name : PySem.W.keepIn K (.ref a.check_name) = true
  B_check_name : Binds K d.check_name ["name"] []
  F_check_name : Fun K "check_name" "check_name" s_check_name a.check_name d.check_name
  g_name_cells : mg "name_cells" = some (.ref a.name_cells)
  k_name_cells : PySem.W.keepIn K (.ref a.name_cells) = true
  B_name_cells : Binds K d.name_cells ["name"] []
  F_name_cells : Fun K "name_cells" "name_cells" s_name_cells a.name_cells d.name_cells
  g_cells_name : mg "cells_name" = some (.ref a.cells_name)
  k_cells_name : PySem.W.keepIn K (.ref a.cells_name) = true
  B_cells_name : Binds K d.cells_name ["first", "second"] []
  F_cells_name : Fun K "cells_name" "cells_name" s_cells_name a.cells_name d.cells_name
  g_law_well : mg "_law_well" = some (.ref a.law_well)
  k_law_well : PySem.W.keepIn K (.ref a.law_well) = true
  B_law_well : Binds K d.law_well ["script", "spot"] []
  F_law_well : Fun K "_law_well" "_law_well" s_law_well a.law_well d.law_well
  g_law_drawn : mg "_law_drawn" = some (.ref a.law_drawn)
  k_law_drawn : PySem.W.keepIn K (.ref a.law_drawn) = true
  B_law_drawn : Binds K d.law_drawn ["well", "many"] []
  F_law_drawn : Fun K "_law_drawn" "_law_drawn" s_law_drawn a.law_drawn d.law_drawn
  g_law_given : mg "_law_given" = some (.ref a.law_given)
  k_law_given : PySem.W.keepIn K (.ref a.law_given) = true
  B_law_given : Binds K d.law_given ["well", "items"] []
  F_law_given : Fun K "_law_given" "_law_given" s_law_given a.law_given d.law_given
  g_law_figures : mg "_law_figures" = some (.ref a.law_figures)
  k_law_figures : PySem.W.keepIn K (.ref a.law_figures) = true
  B_law_figures : Binds K d.law_figures ["name"] []
  F_law_figures : Fun K "_law_figures" "_law_figures" s_law_figures a.law_figures d.law_figures
  g_law_spelled : mg "_law_spelled" = some (.ref a.law_spelled)
  k_law_spelled : PySem.W.keepIn K (.ref a.law_spelled) = true
  B_law_spelled : Binds K d.law_spelled ["first", "second"] []
  F_law_spelled : Fun K "_law_spelled" "_law_spelled" s_law_spelled a.law_spelled d.law_spelled
  g_law_near : mg "_law_near" = some (.ref a.law_near)
  k_law_near : PySem.W.keepIn K (.ref a.law_near) = true
  B_law_near : Binds K d.law_near ["well"] []
  F_law_near : Fun K "_law_near" "_law_near" s_law_near a.law_near d.law_near
  g_law_right : mg "_law_right" = some (.ref a.law_right)
  k_law_right : PySem.W.keepIn K (.ref a.law_right) = true
  B_law_right : Binds K d.law_right ["well"] []
  F_law_right : Fun K "_law_right" "_law_right" s_law_right a.law_right d.law_right
  g_law : mg "law" = some (.ref a.law)
  k_law : PySem.W.keepIn K (.ref a.law) = true
  B_law : Binds K d.law ["script"] []
  F_law : Fun K "law" "law" s_law a.law d.law
section
variable {P : Program} {w : World} {K : PySem.W.Frag} {mg : Str → Option Value} {base : Heap} {a : Ad} {d : Fd} {c : Nat → Addr}
theorem ok_is_number (T : Txt w K c mg a d)  : FnOk P w K mg base (L2.CX P w) 1 a.is_number d.is_number ["value", "least", "most"] (spF K c 3 d_is_number) := by
  refine fn_ev2 (b := b_is_number) T.F_is_number sc_is_number rfl rfl rfl fun cdv A outer s H E hr => ?_
  have tk := takes_of (X := cxOf (L2.CX P w) P w K mg base n_is_number "is_number" (defScope s_is_number) a.is_number cdv A outer s H E) rfl rfl rfl rfl
  exact (sb_cons (ss_if (st_w (sw_or (st_not (st_tru (se_isi (T := .int) (pe_callB call_isi (by rfl) T.b_isinstance (by decide +kernel) (pa_cons (se_sl 0) (pa_cons (pe_bltn (v := .ty "int") (by rfl) T.b_int (by decide +kernel) rfl) pa_nil)))) (by intro _; rfl))) (sw_or1 (st_tru (se_isi (T := .bool) (pe_callB call_isi (by rfl) T.b_isinstance (by decide +kernel) (pa_cons (se_sl 0) (pa_cons (pe_bltn (v := .ty "bool") (by rfl) T.b_bool (by decide +kernel) rfl) pa_nil)))) (by intro _; rfl))))) (sb_one (ss_ret se_bl)) sb_nil)
    (sb_one (ss_ret (se_chain x_le x_le (se_b (pe_callB (b_max2 rfl) (by rfl) T.b_max (by decide +kernel) (sl_cons (se_sl 1) (sl_cons (se_un x_neg (se_c (pe_glob (v := .int 999999999999999999999999999999999999999999999999999999999999) rfl T.c_LONGEST.choose_spec ⟨_, rfl⟩) fun _ _ => .int _)) sl_nil)))) (se_sl 0) (se_b (pe_callB (b_min2 rfl) (by rfl) T.b_min (by decide +kernel) (sl_cons (se_sl 2) (sl_cons (se_c (pe_glob (v := .int 999999999999999999999999999999999999999999999999999999999999) rfl T.c_LONGEST.choose_spec ⟨_, rfl⟩) fun _ _ => .int _) sl_nil))))))))
theorem ok_is_name (T : Txt w K c mg a d)  : FnOk P w K mg base (L2.CX P w) 1 a.is_name d.is_name ["value"] (spF K c 1 d_is_name) := by
  refine fn_ev2 (b := b_is_name) T.F_is_name sc_is_name rfl rfl rfl fun cdv A outer s H E hr => ?_
  have tk := takes_of (X := cxOf (L2.CX P w) P w K mg base n_is_name "is_name" (defScope s_is_name) a.is_name cdv A outer s H E) rfl rfl rfl rfl
  exact (sb_cons (ss_if (st_w (sw_or (st_not (st_tru (se_isi (T := .str) (pe_callB call_isi (by rfl) T.b_isinstance (by decide +kernel) (pa_cons (se_sl 0) (pa_cons (pe_bltn (v := .ty "str") (by rfl) T.b_str (by decide +kernel) rfl) pa_nil)))) (by intro _; rfl))) (sw_or1 (st_not (st_chain x_le x_le se_int (se_b (pe_callB b_len (by rfl) T.b_len (by decide +kernel) (sl_cons (se_sl 0) sl_nil))) (se_c (pe_glob (v := .int 4) rfl T.c_MAX_NAME.choose_spec ⟨_, rfl⟩) fun _ _ => .int _)))))) (sb_one (ss_ret se_bl)) sb_nil)
    (sb_one (ss_ret (se_b (pe_callB (b_all rfl) (by rfl) T.b_all (by decide +kernel) (sl_cons (se_lc (gw_name (by decide)) (pe_lc (own := [("letter", 1)]) (g := (L2.gName 1)) rfl sc_is_name.nd (si_any (se_sl 0)) (blkOk_by (N := n_is_name) (sc := defScope s_is_name) (by decide +kernel)) (fun _ _ _ _ _ => (pg_name (i := 1) sc_is_name.nd rfl (Or.inl rfl) (.inr rfl))) (fun _ _ _ _ _ => sts_nil) (fun _ _ _ _ _ => (se_cmp (x_in (u65 hr)) (se_sl 1) (se_c (pe_glob (v := .str (st [97, 98, 99, 100, 101, 102, 103, 104, 105, 106, 107, 108, 109, 110, 111, 112, 113, 114, 115, 116, 117, 118, 119, 120, 121, 122])) rfl T.c_LETTERS.choose_spec ⟨_, rfl⟩) fun _ _ => .str _) (by with_unfolding_all rfl))))) sl_nil))))))
theorem ok_law_well (T : Txt w K c mg a d)  : FnOk P w K mg base (L2.CX P w) 1 a.law_well d.law_well ["script", "spot"] (spF K c 2 d_law_well) := by
  refine fn_ev2 (b := b_law_well) T.F_law_well sc_law_well rfl rfl rfl fun cdv A outer s H E hr => ?_
  have tk := takes_of (X := cxOf (L2.CX P w) P w K mg base n_law_well "_law_well" (defScope s_law_well) a.law_well cdv A outer s H E) rfl rfl rfl rfl
  exact (sb_cons (ss_set (i := 2) sc_law_well.nd rfl (Or.inl rfl) (se_if (st_cmp x_lt (se_sl 1) (se_b (pe_callB b_len (by rfl) T.b_len (by decide +kernel) (sl_cons (se_sl 0) sl_nil))) (nomark _)) (se_b (pe_callTy b_int (by rfl) T.b_int (by decide +kernel) (sl_cons (se_ix (se_sl 0) (se_sl 1) (fun _ _ => rfl)) sl_nil))) (se_op x_add (se_op x_add (se_op x_mulG se_int (se_sl 1)) se_int) (se_op x_mod (se_b (pe_callTy b_int (by rfl) T.b_int (by decide +kernel) (sl_cons (se_b (pe_callB (b_sum rfl) (by rfl) T.b_sum (by decide +kernel) (sl_cons (se_slice (se_sl 0) sp_none (sp_some se_int)) sl_nil))) sl_nil))) se_int))))
    (sb_cons (ss_set (i := 3) sc_law_well.nd rfl (Or.inl rfl) (se_op x_mod (se_b (pe_callTy b_int (by rfl) T.b_int (by decide +kernel) (sl_cons (se_b (pe_callB b_abs (by rfl) T.b_abs (by decide +kernel) (sl_cons (se_sl 2) sl_nil))) sl_nil))) (se_op x_pow (se_op x_pow se_int se_int) se_int)))
    (sb_cons (ss_set (i := 4) sc_law_well.nd rfl (Or.inl rfl) (se_b (pe_callTy b_int (by rfl) T.b_int (by decide +kernel) (sl_cons (se_op x_add (se_op x_add (se_op x_add (se_op x_mulG (se_op x_mod (se_sl 3) se_int) se_int) (se_op x_mulG se_int (se_sl 1))) (se_op x_mulG se_int (se_b (pe_callTy b_int (by rfl) T.b_int (by decide +kernel) (sl_cons (se_cmp x_lt (se_sl 2) se_int (nomark _)) sl_nil))))) se_int) sl_nil))))
    (sb_one (ss_ret (se_lst (sl_cons (se_b (pe_callB (b_max2 rfl) (by rfl) T.b_max (by decide +kernel) (sl_cons se_int (sl_cons (se_op x_sub (se_sl 3) (se_op x_pow se_int se_int)) sl_nil)))) (sl_cons (se_op x_mod (se_sl 4) se_int) (sl_cons se_int sl_nil)))))))))
theorem ok_law_drawn (T : Txt w K c mg a d)  : FnOk P w K mg base (L2.CX P w) 1 a.law_drawn d.law_drawn ["well", "many"] (spF K c 2 d_law_drawn) := by
  refine fn_ev2 (b := b_law_drawn) T.F_law_drawn sc_law_drawn rfl rfl rfl fun cdv A outer s H E hr => ?_
  have tk := takes_of (X := cxOf (L2.CX P w) P w K mg base n_law_drawn "_law_drawn" (defScope s_law_drawn) a.law_drawn cdv A outer s H E) rfl rfl rfl rfl
  exact (sb_cons (ss_if (st_cmp x_gt (se_ix (se_sl 0) se_int (fun _ _ => rfl)) se_int (nomark _)) (sb_cons (ss_set (i := 2) sc_law_drawn.nd rfl (Or.inl rfl) (se_op x_mod (se_b (pe_callTy b_int (by rfl) T.b_int (by decide +kernel) (sl_cons (se_ix (se_sl 0) se_int (fun _ _ => rfl)) sl_nil))) (se_sl 1)))
    (sb_cons (ss_asg (ps_asg (se_op x_div (se_ix (se_sl 0) se_int (fun _ _ => rfl)) (se_sl 1)) (sg_sub (c := c) (W := fun cls d _ H' => E cls d H') (pg_sub (se_sl 0) se_int x_setL))))
    (sb_one (ss_ret (se_sl 2))))) sb_nil)
    (sb_cons (ss_asg (ps_asg (se_op x_add (se_ix (se_sl 0) se_int (fun _ _ => rfl)) se_int) (sg_sub (c := c) (W := fun cls d _ H' => E cls d H') (pg_sub (se_sl 0) se_int x_setL))))
    (sb_cons (ss_set (i := 3) sc_law_drawn.nd rfl (Or.inl rfl) (se_op x_mod (se_b (pe_callTy b_int (by rfl) T.b_int (by decide +kernel) (sl_cons (se_op x_add (se_ix (se_sl 0) se_int (fun _ _ => rfl)) (se_op x_mulG se_int (se_ix (se_sl 0) se_int (fun _ _ => rfl)))) sl_nil))) se_int))
    (sb_cons (ss_set (i := 4) sc_law_drawn.nd rfl (Or.inl rfl) (se_op x_add (se_op x_add (se_op x_mulG (se_op x_mod (se_b (pe_callTy b_int (by rfl) T.b_int (by decide +kernel) (sl_cons (se_op x_mulG (se_sl 3) (se_sl 3)) sl_nil))) se_int) se_int) (se_sl 3)) (se_op x_mulG se_int (se_ix (se_sl 0) se_int (fun _ _ => rfl)))))
    (sb_one (ss_ret (se_op x_mod (se_b (pe_callTy b_int (by rfl) T.b_int (by decide +kernel) (sl_cons (se_op x_div (se_sl 4) se_int) sl_nil))) (se_sl 1))))))))
theorem ok_law_figures (T : Txt w K c mg a d)  : FnOk P w K mg base (L2.CX P w) 1 a.law_figures d.law_figures ["name"] (spF K c 1 d_law_figures) := by
  refine fn_ev2 (b := b_law_figures) T.F_law_figures sc_law_figures rfl rfl rfl fun cdv A outer s H E hr => ?_
  have tk := takes_of (X := cxOf (L2.CX P w) P w K mg base n_law_figures "_law_figures" (defScope s_law_figures) a.law_figures cdv A outer s H E) rfl rfl rfl rfl
  exact (sb_cons (ss_set (i := 1) sc_law_figures.nd rfl (Or.inl rfl) (se_lst (sl_cons se_int (sl_cons se_int sl_nil))))
    (sb_cons (ss_for (ps_for (passes_of rfl) rfl (si_enum (pi_enum (by rfl) T.b_enumerate (sl_cons (se_sl 0) sl_nil)) (EvF.pi_enumA (by rfl) T.b_enumerate (sl_cons (se_sl 0) sl_nil))) (sg_tup (pg_tup rfl (sgs_cons (pgs_cons (sg_name (i := 2) sc_law_figures.nd rfl (Or.inl rfl)) (sgs_cons (pgs_cons (sg_name (i := 3) sc_law_figures.nd rfl (Or.inl rfl)) sgs_nil)))))) (sb_one (ss_asg (ps_asg (se_op x_add (se_ix (se_sl 1) (se_op x_div (se_sl 2) se_int) (fun _ _ => rfl)) (se_op x_mulG (se_ix (se_tup (sl_cons se_int (sl_cons se_int sl_nil))) (se_op x_mod (se_sl 2) se_int) (fun _ _ => rfl)) (se_op x_add (se_m (T := .str) (pe_bm PySem.F.plainAttrs_str PySem.F.slot_str_index PySem.F.type_str_index m_sindex (se_str (by decide +kernel)) (sl_cons (se_sl 3) sl_nil))) se_int))) (sg_sub (c := c) (W := fun cls d _ H' => E cls d H') (pg_sub (se_sl 1) (se_op x_div (se_sl 2) se_int) x_setL)))))))
    (sb_one (ss_ret (se_b (pe_callTy b_tuple (by rfl) T.b_tuple (by decide +kernel) (sl_cons (se_sl 1) sl_nil)))))))
theorem ok_law_spelled (T : Txt w K c mg a d)  : FnOk P w K mg base (L2.CX P w) 1 a.law_spelled d.law_spelled ["first", "second"] (spF K c 2 d_law_spelled) := by
  refine fn_ev2 (b := b_law_spelled) T.F_law_spelled sc_law_spelled rfl rfl rfl fun cdv A outer s H E hr => ?_
  have tk := takes_of (X := cxOf (L2.CX P w) P w K mg base n_law_spelled "_law_spelled" (defScope s_law_spelled) a.law_spelled cdv A outer s H E) rfl rfl rfl rfl
  exact (sb_cons (ss_if (st_w (sw_or (st_cmp x_gt (se_sl 0) se_int (nomark _)) (sw_or1 (st_cmp x_gt (se_sl 1) se_int (nomark _))))) (sb_one (ss_ret se_non)) sb_nil)
    (sb_cons (ss_set (i := 2) sc_law_spelled.nd rfl (Or.inl rfl) (se_str (by decide +kernel)))
    (sb_cons (ss_set (i := 3) sc_law_spelled.nd rfl (Or.inl rfl) (se_op x_add (se_op x_add (se_op x_add (se_ix (se_sl 2) (se_op x_div (se_sl 0) se_int) (fun _ _ => rfl)) (se_ix (se_sl 2) (se_op x_mod (se_sl 0) se_int) (fun _ _ => rfl))) (se_ix (se_sl 2) (se_op x_div (se_sl 1) se_int) (fun _ _ => rfl))) (se_ix (se_sl 2) (se_op x_mod (se_sl 1) se_int) (fun _ _ => rfl))))
    (sb_one (ss_ret (se_if (st_w (sw_and (st_cmp (x_ne hr.units) (se_ix (se_sl 3) se_int (fun _ _ => rfl)) (se_str (by decide +kernel)) (nomark _)) (sw_and1 (st_cmp (x_notIn (u65 hr)) (se_str (by decide +kernel)) (se_m0 (T := .str) (pe_bm0 PySem.F.plainAttrs_str PySem.F.slot_str_rstrip PySem.F.type_str_rstrip m_rstrip (se_sl 3))) (by with_unfolding_all rfl))))) (se_m0 (T := .str) (pe_bm0 PySem.F.plainAttrs_str PySem.F.slot_str_strip PySem.F.type_str_strip m_strip (se_sl 3))) se_non))))))
theorem ok_check_number (T : Txt w K c mg a d) (G_is_number : FnOk P w K mg base (L2.CX P w) 1 a.is_number d.is_number ["value", "least", "most"] (spF K c 3 d_is_number)) : FnOk P w K mg base (L2.CX P w) 2 a.check_number d.check_number ["given", "least", "most"] (spF K c 3 d_check_number) := by
  refine fn_ev2 (b := b_check_number) T.F_check_number sc_check_number rfl rfl rfl fun cdv A outer s H E hr => ?_
  have tk := takes_of (X := cxOf (L2.CX P w) P w K mg base n_check_number "check_number" (defScope s_check_number) a.check_number cdv A outer s H E) rfl rfl rfl rfl
  exact (sb_one (ss_if (st_not (st_tru (se_call (pe_callS G_is_number (hr.mono (by decide)) (by rfl) T.g_is_number T.k_is_number T.B_is_number (fun σ => passAt tk σ) (sl_cons (se_sl 0) (sl_cons (se_sl 1) (sl_cons (se_sl 2) sl_nil)))) runB_bad) (by intro _; rfl))) (sb_one ss_never) sb_nil))
theorem ok_is_cell (T : Txt w K c mg a d) (G_is_number : FnOk P w K mg base (L2.CX P w) 1 a.is_number d.is_number ["value", "least", "most"] (spF K c 3 d_is_number)) : FnOk P w K mg base (L2.CX P w) 2 a.is_cell d.is_cell ["value"] (spF K c 1 d_is_cell) := by
  refine fn_ev2 (b := b_is_cell) T.F_is_cell sc_is_cell rfl rfl rfl fun cdv A outer s H E hr => ?_
  have tk := takes_of (X := cxOf (L2.CX P w) P w K mg base n_is_cell "is_cell" (defScope s_is_cell) a.is_cell cdv A outer s H E) rfl rfl rfl rfl
  exact (sb_one (ss_ret (se_call (pe_callS G_is_number (hr.mono (by decide)) (by rfl) T.g_is_number T.k_is_number T.B_is_number (fun σ => passAt tk σ) (sl_cons (se_sl 0) (sl_cons se_int (sl_cons (se_c (pe_glob (v := .int 996) rfl T.c_MAX_CELL.choose_spec ⟨_, rfl⟩) fun _ _ => .int _) sl_nil)))) runB_bad)))
theorem ok_check_name (T : Txt w K c mg a d) (G_is_name : FnOk P w K mg base (L2.CX P w) 1 a.is_name d.is_name ["value"] (spF K c 1 d_is_name)) : FnOk P w K mg base (L2.CX P w) 2 a.check_name d.check_name ["name"] (spF K c 1 d_check_name) := by
  refine fn_ev2 (b := b_check_name) T.F_check_name sc_check_name rfl rfl rfl fun cdv A outer s H E hr => ?_
  have tk := takes_of (X := cxOf (L2.CX P w) P w K mg base n_check_name "check_name" (defScope s_check_name) a.check_name cdv A outer s H E) rfl rfl rfl rfl
  exact (sb_one (ss_if (st_not (st_tru (se_call (pe_callS G_is_name (hr.mono (by decide)) (by rfl) T.g_is_name T.k_is_name T.B_is_name (fun σ => passAt tk σ) (sl_cons (se_sl 0) sl_nil)) runB_bad) (by intro _; rfl))) (sb_one ss_never) sb_nil))
theorem ok_law_given (T : Txt w K c mg a d) (G_law_drawn : FnOk P w K mg base (L2.CX P w) 1 a.law_drawn d.law_drawn ["well", "many"] (spF K c 2 d_law_drawn)) : FnOk P w K mg base (L2.CX P w) 2 a.law_given d.law_given ["well", "items"] (spF K c 2 d_law_given) := by
  refine fn_ev2 (b := b_law_given) T.F_law_given sc_law_given rfl rfl rfl fun cdv A outer s H E hr => ?_
  have tk := takes_of (X := cxOf (L2.CX P w) P w K mg base n_law_given "_law_given" (defScope s_law_given) a.law_given cdv A outer s H E) rfl rfl rfl rfl
  exact (sb_one (ss_ret (se_ix (se_sl 1) (se_call (pe_callS G_law_drawn (hr.mono (by decide)) (by rfl) T.g_law_drawn T.k_law_drawn T.B_law_drawn (fun σ => passAt tk σ) (sl_cons (se_sl 0) (sl_cons (se_b (pe_callB b_len (by rfl) T.b_len (by decide +kernel) (sl_cons (se_sl 1) sl_nil))) sl_nil))) runB_bad) (fun _ _ => rfl))))
theorem ok_is_cells (T : Txt w K c mg a d) (G_is_cell : FnOk P w K mg base (L2.CX P w) 2 a.is_cell d.is_cell ["value"] (spF K c 1 d_is_cell)) : FnOk P w K mg base (L2.CX P w) 3 a.is_cells d.is_cells ["value"] (spF K c 1 d_is_cells) := by
  refine fn_ev2 (b := b_is_cells) T.F_is_cells sc_is_cells rfl rfl rfl fun cdv A outer s H E hr => ?_
  have tk := takes_of (X := cxOf (L2.CX P w) P w K mg base n_is_cells "is_cells" (defScope s_is_cells) a.is_cells cdv A outer s H E) rfl rfl rfl rfl
  exact (sb_one (ss_ret (se_and (se_isi (T := .tuple) (pe_callB call_isi (by rfl) T.b_isinstance (by decide +kernel) (pa_cons (se_sl 0) (pa_cons (pe_bltn (v := .ty "tuple") (by rfl) T.b_tuple (by decide +kernel) rfl) pa_nil)))) (se_one (se_b (pe_callB (b_all rfl) (by rfl) T.b_all (by decide +kernel) (sl_cons (se_lc (gw_name (by decide)) (pe_lc (own := [("cell", 1)]) (g := (L2.gName 1)) rfl sc_is_cells.nd (si_any (se_sl 0)) (blkOk_by (N := n_is_cells) (sc := defScope s_is_cells) (by decide +kernel)) (fun _ _ _ _ _ => (pg_name (i := 1) sc_is_cells.nd rfl (Or.inl rfl) (.inr rfl))) (fun _ _ _ _ _ => sts_nil) (fun _ _ _ _ _ => (se_call (pe_callS G_is_cell (hr.mono (by decide)) (by rfl) T.g_is_cell T.k_is_cell T.B_is_cell (fun σ => passAt takes0 σ) (sl_cons (se_sl 1) sl_nil)) runB_bad)))) sl_nil)))))))
theorem ok_name_cells (T : Txt w K c mg a d) (G_check_name : FnOk P w K mg base (L2.CX P w) 2 a.check_name d.check_name ["name"] (spF K c 1 d_check_name)) : FnOk P w K mg base (L2.CX P w) 3 a.name_cells d.name_cells ["name"] (spF K c 1 d_name_cells) := by
  refine fn_ev2 (b := b_name_cells) T.F_name_cells sc_name_cells rfl rfl rfl fun cdv A outer s H E hr => ?_
  have tk := takes_of (X := cxOf (L2.CX P w) P w K mg base n_name_cells "name_cells" (defScope s_name_cells) a.name_cells cdv A outer s H E) rfl rfl rfl rfl
  exact (sb_cons (ss_expr (se_call (pe_callS G_check_name (hr.mono (by decide)) (by rfl) T.g_check_name T.k_check_name T.B_check_name (fun σ => passAt tk σ) (sl_cons (se_sl 0) sl_nil)) runB_bad))
    (sb_cons (ss_set (i := 1) sc_name_cells.nd rfl (Or.inl rfl) (se_op x_add (se_lc (gw_name (by decide)) (pe_lc (own := [("letter", 2)]) (g := (L2.gName 2)) rfl sc_name_cells.nd (si_any (se_sl 0)) (blkOk_by (N := n_name_cells) (sc := defScope s_name_cells) (by decide +kernel)) (fun _ _ _ _ _ => (pg_name (i := 2) sc_name_cells.nd rfl (Or.inl rfl) (.inr rfl))) (fun _ _ _ _ _ => sts_nil) (fun _ _ _ _ _ => (se_op x_add (se_m (T := .str) (pe_bm PySem.F.plainAttrs_str PySem.F.slot_str_index PySem.F.type_str_index m_sindex (se_c (pe_glob (v := .str (st [97, 98, 99, 100, 101, 102, 103, 104, 105, 106, 107, 108, 109, 110, 111, 112, 113, 114, 115, 116, 117, 118, 119, 120, 121, 122])) rfl T.c_LETTERS.choose_spec ⟨_, rfl⟩) fun _ _ => .str _) (sl_cons (se_sl 2) sl_nil))) se_int)))) (se_op x_mulG (se_lst (sl_cons se_int sl_nil)) (se_op x_sub (se_c (pe_glob (v := .int 4) rfl T.c_MAX_NAME.choose_spec ⟨_, rfl⟩) fun _ _ => .int _) (se_b (pe_callB b_len (by rfl) T.b_len (by decide +kernel) (sl_cons (se_sl 0) sl_nil)))))))
    (sb_one (ss_ret (se_tup (sl_cons (se_op x_add (se_op x_mulG (se_c (pe_glob (v := .int 27) rfl T.c_LETTER_NUMBERS.choose_spec ⟨_, rfl⟩) fun _ _ => .int _) (se_ix (se_sl 1) se_int (fun _ _ => rfl))) (se_ix (se_sl 1) se_int (fun _ _ => rfl))) (sl_cons (se_op x_add (se_op x_mulG (se_c (pe_glob (v := .int 27) rfl T.c_LETTER_NUMBERS.choose_spec ⟨_, rfl⟩) fun _ _ => .int _) (se_ix (se_sl 1) se_int (fun _ _ => rfl))) (se_ix (se_sl 1) se_int (fun _ _ => rfl))) sl_nil)))))))
theorem ok_cells_name (T : Txt w K c mg a d) (G_check_number : FnOk P w K mg base (L2.CX P w) 2 a.check_number d.check_number ["given", "least", "most"] (spF K c 3 d_check_number)) : FnOk P w K mg base (L2.CX P w) 3 a.cells_name d.cells_name ["first", "second"] (spF K c 2 d_cells_name) := by
  refine fn_ev2 (b := b_cells_name) T.F_cells_name sc_cells_name rfl rfl rfl fun cdv A outer s H E hr => ?_
  have tk := takes_of (X := cxOf (L2.CX P w) P w K mg base n_cells_name "cells_name" (defScope s_cells_name) a.cells_name cdv A outer s H E) rfl rfl rfl rfl
  exact (sb_cons (ss_expr (se_call (pe_callS G_check_number (hr.mono (by decide)) (by rfl) T.g_check_number T.k_check_number T.B_check_number (fun σ => passAt tk σ) (sl_cons (se_sl 0) (sl_cons se_int (sl_cons (se_c (pe_glob (v := .int 996) rfl T.c_MAX_CELL.choose_spec ⟨_, rfl⟩) fun _ _ => .int _) sl_nil)))) runB_bad))
    (sb_cons (ss_expr (se_call (pe_callS G_check_number (hr.mono (by decide)) (by rfl) T.g_check_number T.k_check_number T.B_check_number (fun σ => passAt tk σ) (sl_cons (se_sl 1) (sl_cons se_int (sl_cons (se_c (pe_glob (v := .int 996) rfl T.c_MAX_CELL.choose_spec ⟨_, rfl⟩) fun _ _ => .int _) sl_nil)))) runB_bad))
    (sb_cons (ss_set (i := 2) sc_cells_name.nd rfl (Or.inl rfl) (se_op x_add (se_b (pe_callTy b_list (by rfl) T.b_list (by decide +kernel) (sl_cons (se_b (pe_callB b_divmod (by rfl) T.b_divmod (by decide +kernel) (sl_cons (se_sl 0) (sl_cons (se_c (pe_glob (v := .int 27) rfl T.c_LETTER_NUMBERS.choose_spec ⟨_, rfl⟩) fun _ _ => .int _) sl_nil)))) sl_nil))) (se_b (pe_callTy b_list (by rfl) T.b_list (by decide +kernel) (sl_cons (se_b (pe_callB b_divmod (by rfl) T.b_divmod (by decide +kernel) (sl_cons (se_sl 1) (sl_cons (se_c (pe_glob (v := .int 27) rfl T.c_LETTER_NUMBERS.choose_spec ⟨_, rfl⟩) fun _ _ => .int _) sl_nil)))) sl_nil)))))
    (sb_cons (ss_while (ps_while (passes_of rfl) (st_w (sw_and (st_tru (se_sl 2) (by intro _; rfl)) (sw_and1 (st_cmp (x_eq hr.units) (se_ix (se_sl 2) (se_un x_neg se_int) (fun _ _ => rfl)) se_int (nomark _))))) (sb_one (ss_expr (se_m0 (T := .list) (pe_bm0 PySem.F.plainAttrs_list PySem.F.slot_list_pop PySem.F.type_list_pop m_pop (se_sl 2)))))))
    (sb_cons (ss_if (st_w (sw_or (st_not (st_tru (se_sl 2) (by intro _; rfl))) (sw_or (st_cmp (x_eq hr.units) (se_b (pe_callB (b_minL rfl) (by rfl) T.b_min (by decide +kernel) (sl_cons (se_sl 2) sl_nil))) se_int (nomark _)) (sw_or1 (st_cmp x_gt (se_b (pe_callB (b_maxL rfl) (by rfl) T.b_max (by decide +kernel) (sl_cons (se_sl 2) sl_nil))) (se_b (pe_callB b_len (by rfl) T.b_len (by decide +kernel) (sl_cons (se_c (pe_glob (v := .str (st [97, 98, 99, 100, 101, 102, 103, 104, 105, 106, 107, 108, 109, 110, 111, 112, 113, 114, 115, 116, 117, 118, 119, 120, 121, 122])) rfl T.c_LETTERS.choose_spec ⟨_, rfl⟩) fun _ _ => .str _) sl_nil))) (nomark _)))))) (sb_one (ss_ret se_non)) sb_nil)
    (sb_one (ss_ret (se_m (T := .str) (pe_bm PySem.F.plainAttrs_str PySem.F.slot_str_join PySem.F.type_str_join m_join (se_str (by decide +kernel)) (sl_cons (se_lc (gw_name (by decide)) (pe_lc (own := [("number", 3)]) (g := (L2.gName 3)) rfl sc_cells_name.nd (si_any (se_sl 2)) (blkOk_by (N := n_cells_name) (sc := defScope s_cells_name) (by decide +kernel)) (fun _ _ _ _ _ => (pg_name (i := 3) sc_cells_name.nd rfl (Or.inl rfl) (.inr rfl))) (fun _ _ _ _ _ => sts_nil) (fun _ _ _ _ _ => (se_ix (se_c (pe_glob (v := .str (st [97, 98, 99, 100, 101, 102, 103, 104, 105, 106, 107, 108, 109, 110, 111, 112, 113, 114, 115, 116, 117, 118, 119, 120, 121, 122])) rfl T.c_LETTERS.choose_spec ⟨_, rfl⟩) fun _ _ => .str _) (se_op x_sub (se_sl 3) se_int) (fun _ _ => rfl))))) sl_nil))))))))))
theorem ok_law_near (T : Txt w K c mg a d) (G_law_given : FnOk P w K mg base (L2.CX P w) 2 a.law_given d.law_given ["well", "items"] (spF K c 2 d_law_given)) : FnOk P w K mg base (L2.CX P w) 3 a.law_near d.law_near ["well"] (spF K c 1 d_law_near) := by
  refine fn_ev2 (b := b_law_near) T.F_law_near sc_law_near rfl rfl rfl fun cdv A outer s H E hr => ?_
  have tk := takes_of (X := cxOf (L2.CX P w) P w K mg base n_law_near "_law_near" (defScope s_law_near) a.law_near cdv A outer s H E) rfl rfl rfl rfl
  exact (sb_cons (ss_set (i := 1) sc_law_near.nd rfl (Or.inl rfl) (se_call (pe_callS G_law_given (hr.mono (by decide)) (by rfl) T.g_law_given T.k_law_given T.B_law_given (fun σ => passAt tk σ) (sl_cons (se_sl 0) (sl_cons (se_lst (sl_cons (se_str (by decide +kernel)) (sl_cons (se_str (by decide +kernel)) (sl_cons (se_str (by decide +kernel)) (sl_cons (se_str (by decide +kernel)) (sl_cons (se_str (by decide +kernel)) (sl_cons (se_str (by decide +kernel)) (sl_cons se_non (sl_cons se_int (sl_cons (se_tup (sl_cons (se_str (by decide +kernel)) sl_nil)) (sl_cons (se_lst (sl_cons (se_str (by decide +kernel)) sl_nil)) (sl_cons (se_str (by decide +kernel)) (sl_cons (se_str (by decide +kernel)) (sl_cons (se_str (by decide +kernel)) (sl_cons se_bl sl_nil))))))))))))))) sl_nil))) runB_bad))
    (sb_cons (ss_set (i := 2) sc_law_near.nd rfl (Or.inl rfl) (se_call (pe_callS G_law_given (hr.mono (by decide)) (by rfl) T.g_law_given T.k_law_given T.B_law_given (fun σ => passAt tk σ) (sl_cons (se_sl 0) (sl_cons (se_lst (sl_cons (se_un x_neg se_int) (sl_cons se_int (sl_cons se_int (sl_cons se_int (sl_cons se_bl (sl_cons se_non (sl_cons (se_str (by decide +kernel)) (sl_cons (se_tup (sl_cons se_int sl_nil)) (sl_cons (se_op x_pow se_int se_int) sl_nil)))))))))) sl_nil))) runB_bad))
    (sb_cons (ss_set (i := 3) sc_law_near.nd rfl (Or.inl rfl) (se_call (pe_callS G_law_given (hr.mono (by decide)) (by rfl) T.g_law_given T.k_law_given T.B_law_given (fun σ => passAt tk σ) (sl_cons (se_sl 0) (sl_cons (se_lst (sl_cons (se_tup sl_nil) (sl_cons (se_tup (sl_cons se_int (sl_cons se_int sl_nil))) (sl_cons (se_tup (sl_cons se_int sl_nil)) (sl_cons (se_lst (sl_cons se_int sl_nil)) (sl_cons (se_tup (sl_cons se_bl sl_nil)) (sl_cons se_non (sl_cons (se_tup (sl_cons (se_str (by decide +kernel)) sl_nil)) (sl_cons (se_tup (sl_cons se_int (sl_cons (se_un x_neg se_int) sl_nil))) (sl_cons se_int (sl_cons (se_tup (sl_cons se_int (sl_cons (se_tup (sl_cons se_int sl_nil)) sl_nil))) (sl_cons se_dnew sl_nil)))))))))))) sl_nil))) runB_bad))
    (sb_one (ss_ret (se_tup (sl_cons (se_sl 1) (sl_cons (se_sl 2) (sl_cons (se_sl 3) sl_nil)))))))))
theorem ok_law_right (T : Txt w K c mg a d) (G_law_drawn : FnOk P w K mg base (L2.CX P w) 1 a.law_drawn d.law_drawn ["well", "many"] (spF K c 2 d_law_drawn)) (G_law_figures : FnOk P w K mg base (L2.CX P w) 1 a.law_figures d.law_figures ["name"] (spF K c 1 d_law_figures)) (G_law_given : FnOk P w K mg base (L2.CX P w) 2 a.law_given d.law_given ["well", "items"] (spF K c 2 d_law_given)) (G_law_near : FnOk P w K mg base (L2.CX P w) 3 a.law_near d.law_near ["well"] (spF K c 1 d_law_near)) (G_law_spelled : FnOk P w K mg base (L2.CX P w) 1 a.law_spelled d.law_spelled ["first", "second"] (spF K c 2 d_law_spelled)) (G_cells_name : FnOk P w K mg base (L2.CX P w) 3 a.cells_name d.cells_name ["first", "second"] (spF K c 2 d_cells_name)) (G_is_cell : FnOk P w K mg base (L2.CX P w) 2 a.is_cell d.is_cell ["value"] (spF K c 1 d_is_cell)) (G_is_cells : FnOk P w K mg base (L2.CX P w) 3 a.is_cells d.is_cells ["value"] (spF K c 1 d_is_cells)) (G_is_name : FnOk P w K mg base (L2.CX P w) 1 a.is_name d.is_name ["value"] (spF K c 1 d_is_name)) (G_name_cells : FnOk P w K mg base (L2.CX P w) 3 a.name_cells d.name_cells ["name"] (spF K c 1 d_name_cells)) : FnOk P w K mg base (L2.CX P w) 4 a.law_right d.law_right ["well"] (spF K c 1 d_law_right) := by
  refine fn_ev2 (b := b_law_right) T.F_law_right sc_law_right rfl rfl rfl fun cdv A outer s H E hr => ?_
  have tk := takes_of (X := cxOf (L2.CX P w) P w K mg base n_law_right "_law_right" (defScope s_law_right) a.law_right cdv A outer s H E) rfl rfl rfl rfl
  exact (sb_cons (ss_set (i := 1) sc_law_right.nd rfl (Or.inl rfl) (se_lst sl_nil))
    (sb_cons (ss_for (ps_for (passes_of rfl) rfl (si_range1 (pi_range1 (by rfl) T.b_range (sl_cons se_int sl_nil))) (sg_name (i := 2) sc_law_right.nd rfl (Or.inl rfl)) (sb_cons (ss_lc (gw_name (by decide)) (ps_setLc (i := 3) (own := [("sign", 10)]) (g := (L2.gName 10)) rfl sc_law_right.nd rfl rfl (sw_true rfl rfl rfl (by decide +kernel)) (si_range1 (pi_range1 (by rfl) T.b_range (sl_cons (se_op x_add se_int (se_call (pe_callS G_law_drawn (hr.mono (by decide)) (by rfl) T.g_law_drawn T.k_law_drawn T.B_law_drawn (fun σ => passAt tk σ) (sl_cons (se_sl 0) (sl_cons se_int sl_nil))) runB_bad)) sl_nil))) (blkOk_by (N := n_law_right) (sc := defScope s_law_right) (by decide +kernel)) (fun _ _ _ _ _ => (pg_name (i := 10) sc_law_right.nd rfl (Or.inl rfl) (.inr rfl))) (fun _ _ _ _ _ => sts_nil) (fun _ _ _ _ _ => (se_call (pe_callS G_law_given (hr.mono (by decide)) (by rfl) T.g_law_given T.k_law_given T.B_law_given (fun σ => passAt takes0 σ) (sl_cons (se_sl 0) (sl_cons (se_b (pe_callTy (b_listS rfl) (by rfl) T.b_list (by decide +kernel) (sl_cons (se_str (by decide +kernel)) sl_nil))) sl_nil))) runB_bad))))
    (sb_one (ss_expr (se_m (T := .list) (pe_bm PySem.F.plainAttrs_list PySem.F.slot_list_append PySem.F.type_list_append m_append (se_sl 1) (sl_cons (se_m (T := .str) (pe_bm PySem.F.plainAttrs_str PySem.F.slot_str_join PySem.F.type_str_join m_join (se_str (by decide +kernel)) (sl_cons (se_sl 3) sl_nil))) sl_nil))))))))
    (sb_cons (ss_for (ps_for (passes_of rfl) rfl (si_any (se_sl 1)) (sg_name (i := 4) sc_law_right.nd rfl (Or.inl rfl)) (sb_one (ss_if (st_w (sw_or (st_cmp (x_ne hr.units) (se_call (pe_callS G_name_cells (hr.mono (by decide)) (by rfl) T.g_name_cells T.k_name_cells T.B_name_cells (fun σ => passAt tk σ) (sl_cons (se_sl 4) sl_nil)) runB_bad) (se_call (pe_callS G_law_figures (hr.mono (by decide)) (by rfl) T.g_law_figures T.k_law_figures T.B_law_figures (fun σ => passAt tk σ) (sl_cons (se_sl 4) sl_nil)) runB_bad) (nomark _)) (sw_or1 (st_cmp (x_ne hr.units) (se_call (pe_callS G_cells_name (hr.mono (by decide)) (by rfl) T.g_cells_name T.k_cells_name T.B_cells_name (fun σ => passAt tk σ) (sl_cons (se_ix (se_call (pe_callS G_name_cells (hr.mono (by decide)) (by rfl) T.g_name_cells T.k_name_cells T.B_name_cells (fun σ => passAt tk σ) (sl_cons (se_sl 4) sl_nil)) runB_bad) se_int (fun _ _ => rfl)) (sl_cons (se_ix (se_call (pe_callS G_name_cells (hr.mono (by decide)) (by rfl) T.g_name_cells T.k_name_cells T.B_name_cells (fun σ => passAt tk σ) (sl_cons (se_sl 4) sl_nil)) runB_bad) se_int (fun _ _ => rfl)) sl_nil))) runB_bad) (se_sl 4) (nomark _))))) (sb_one (ss_ret se_bl)) sb_nil))))
    (sb_cons (ss_if (st_cmp (x_ne hr.units) (se_b (pe_callB (b_sorted rfl) (by rfl) T.b_sorted (by decide +kernel) (sl_cons (se_sl 1) sl_nil))) (se_lc (gw_name (by decide)) (pe_lc (own := [("pair", 11)]) (g := (L2.gName 11)) rfl sc_law_right.nd (si_any (se_b (pe_callB (b_sortedP hr.units) (by rfl) T.b_sorted (by decide +kernel) (sl_cons (se_lc (gw_name (by decide)) (pe_lc (own := [("name", 4)]) (g := (L2.gName 4)) rfl sc_law_right.nd (si_any (se_sl 1)) (blkOk_by (N := n_law_right) (sc := defScope s_law_right) (by decide +kernel)) (fun _ _ _ _ _ => (pg_name (i := 4) sc_law_right.nd rfl (Or.inl rfl) (.inr rfl))) (fun _ _ _ _ _ => sts_nil) (fun _ _ _ _ _ => (se_call (pe_callS G_name_cells (hr.mono (by decide)) (by rfl) T.g_name_cells T.k_name_cells T.B_name_cells (fun σ => passAt takes0 σ) (sl_cons (se_sl 4) sl_nil)) runB_bad)))) sl_nil)))) (blkOk_by (N := n_law_right) (sc := defScope s_law_right) (by decide +kernel)) (fun _ _ _ _ _ => (pg_name (i := 11) sc_law_right.nd rfl (Or.inl rfl) (.inr rfl))) (fun _ _ _ _ _ => sts_nil) (fun _ _ _ _ _ => (se_call (pe_callS G_cells_name (hr.mono (by decide)) (by rfl) T.g_cells_name T.k_cells_name T.B_cells_name (fun σ => passAt takes0 σ) (sl_cons (se_ix (se_sl 11) se_int (fun _ _ => rfl)) (sl_cons (se_ix (se_sl 11) se_int (fun _ _ => rfl)) sl_nil))) runB_bad)))) (nomark _)) (sb_one (ss_ret se_bl)) sb_nil)
    (sb_cons (ss_for (ps_for (passes_of rfl) rfl (si_range1 (pi_range1 (by rfl) T.b_range (sl_cons se_int sl_nil))) (sg_name (i := 2) sc_law_right.nd rfl (Or.inl rfl)) (sb_cons (ss_set (i := 5) sc_law_right.nd rfl (Or.inl rfl) (se_call (pe_callS G_law_given (hr.mono (by decide)) (by rfl) T.g_law_given T.k_law_given T.B_law_given (fun σ => passAt tk σ) (sl_cons (se_sl 0) (sl_cons (se_lst (sl_cons se_int (sl_cons se_int (sl_cons se_int (sl_cons se_int (sl_cons se_int (sl_cons se_int (sl_cons (se_call (pe_callS G_law_drawn (hr.mono (by decide)) (by rfl) T.g_law_drawn T.k_law_drawn T.B_law_drawn (fun σ => passAt tk σ) (sl_cons (se_sl 0) (sl_cons se_int sl_nil))) runB_bad) (sl_cons (se_op x_mulG se_int (se_call (pe_callS G_law_drawn (hr.mono (by decide)) (by rfl) T.g_law_drawn T.k_law_drawn T.B_law_drawn (fun σ => passAt tk σ) (sl_cons (se_sl 0) (sl_cons se_int sl_nil))) runB_bad)) sl_nil))))))))) sl_nil))) runB_bad))
    (sb_cons (ss_set (i := 6) sc_law_right.nd rfl (Or.inl rfl) (se_call (pe_callS G_law_given (hr.mono (by decide)) (by rfl) T.g_law_given T.k_law_given T.B_law_given (fun σ => passAt tk σ) (sl_cons (se_sl 0) (sl_cons (se_lst (sl_cons se_int (sl_cons se_int (sl_cons se_int (sl_cons se_int (sl_cons se_int (sl_cons se_int (sl_cons se_int (sl_cons (se_call (pe_callS G_law_drawn (hr.mono (by decide)) (by rfl) T.g_law_drawn T.k_law_drawn T.B_law_drawn (fun σ => passAt tk σ) (sl_cons (se_sl 0) (sl_cons se_int sl_nil))) runB_bad) (sl_cons (se_op x_mulG se_int (se_call (pe_callS G_law_drawn (hr.mono (by decide)) (by rfl) T.g_law_drawn T.k_law_drawn T.B_law_drawn (fun σ => passAt tk σ) (sl_cons (se_sl 0) (sl_cons se_int sl_nil))) runB_bad)) sl_nil)))))))))) sl_nil))) runB_bad))
    (sb_one (ss_if (st_cmp (x_ne hr.units) (se_call (pe_callS G_cells_name (hr.mono (by decide)) (by rfl) T.g_cells_name T.k_cells_name T.B_cells_name (fun σ => passAt tk σ) (sl_cons (se_sl 5) (sl_cons (se_sl 6) sl_nil))) runB_bad) (se_call (pe_callS G_law_spelled (hr.mono (by decide)) (by rfl) T.g_law_spelled T.k_law_spelled T.B_law_spelled (fun σ => passAt tk σ) (sl_cons (se_sl 5) (sl_cons (se_sl 6) sl_nil))) runB_bad) (nomark _)) (sb_one (ss_ret se_bl)) sb_nil))))))
    (sb_cons (ss_asg (ps_asg (se_call (pe_callS G_law_near (hr.mono (by decide)) (by rfl) T.g_law_near T.k_law_near T.B_law_near (fun σ => passAt tk σ) (sl_cons (se_sl 0) sl_nil)) runB_bad) (sg_tup (pg_tup rfl (sgs_cons (pgs_cons (sg_name (i := 4) sc_law_right.nd rfl (Or.inl rfl)) (sgs_cons (pgs_cons (sg_name (i := 7) sc_law_right.nd rfl (Or.inl rfl)) (sgs_cons (pgs_cons (sg_name (i := 8) sc_law_right.nd rfl (Or.inl rfl)) sgs_nil))))))))))
    (sb_cons (ss_set (i := 9) sc_law_right.nd rfl (Or.inl rfl) (se_lst (sl_cons (se_call (pe_callS G_is_name (hr.mono (by decide)) (by rfl) T.g_is_name T.k_is_name T.B_is_name (fun σ => passAt tk σ) (sl_cons (se_sl 4) sl_nil)) runB_bad) (sl_cons (se_call (pe_callS G_is_cell (hr.mono (by decide)) (by rfl) T.g_is_cell T.k_is_cell T.B_is_cell (fun σ => passAt tk σ) (sl_cons (se_sl 7) sl_nil)) runB_bad) (sl_cons (se_call (pe_callS G_is_cells (hr.mono (by decide)) (by rfl) T.g_is_cells T.k_is_cells T.B_is_cells (fun σ => passAt tk σ) (sl_cons (se_sl 8) sl_nil)) runB_bad) sl_nil)))))
    (sb_one (ss_ret (se_cmp (x_eq hr.units) (se_sl 9) (se_lst (sl_cons (se_cmp (x_in (u65 hr)) (se_sl 4) (se_tup (sl_cons (se_str (by decide +kernel)) (sl_cons (se_str (by decide +kernel)) (sl_cons (se_str (by decide +kernel)) sl_nil)))) (by with_unfolding_all rfl)) (sl_cons (se_reprIn (pe_callB (call_reprs hr.units) (by rfl) T.b_repr (by decide +kernel) (sl_cons (se_sl 7) sl_nil)) (se_tup (sl_cons (se_str (by decide +kernel)) (sl_cons (se_str (by decide +kernel)) sl_nil))) (u65 hr) (by with_unfolding_all rfl)) (sl_cons (se_cmp (x_inX (u65 hr)) (se_sl 8) (se_tup (sl_cons (se_tup sl_nil) (sl_cons (se_tup (sl_cons se_int (sl_cons se_int sl_nil))) sl_nil))) (by with_unfolding_all rfl)) sl_nil)))) (nomark _)))))))))))
theorem ok_law (T : Txt w K c mg a d) (G_law_right : FnOk P w K mg base (L2.CX P w) 4 a.law_right d.law_right ["well"] (spF K c 1 d_law_right)) (G_law_well : FnOk P w K mg base (L2.CX P w) 1 a.law_well d.law_well ["script", "spot"] (spF K c 2 d_law_well)) (G_cells_name : FnOk P w K mg base (L2.CX P w) 3 a.cells_name d.cells_name ["first", "second"] (spF K c 2 d_cells_name)) (G_name_cells : FnOk P w K mg base (L2.CX P w) 3 a.name_cells d.name_cells ["name"] (spF K c 1 d_name_cells)) : FnOk P w K mg base (L2.CX P w) 5 a.law d.law ["script"] (spF K c 1 d_law) := by
  refine fn_ev2 (b := b_law) T.F_law sc_law rfl rfl rfl fun cdv A outer s H E hr => ?_
  have tk := takes_of (X := cxOf (L2.CX P w) P w K mg base n_law "law" (defScope s_law) a.law cdv A outer s H E) rfl rfl rfl rfl
  exact (sb_cons (ss_for (ps_for (passes_of rfl) rfl (si_range1 (pi_range1 (by rfl) T.b_range (sl_cons (se_b (pe_callB (b_max2 rfl) (by rfl) T.b_max (by decide +kernel) (sl_cons se_int (sl_cons (se_b (pe_callB (b_min2 rfl) (by rfl) T.b_min (by decide +kernel) (sl_cons se_int (sl_cons (se_b (pe_callB b_len (by rfl) T.b_len (by decide +kernel) (sl_cons (se_sl 0) sl_nil))) sl_nil)))) sl_nil)))) sl_nil))) (sg_name (i := 1) sc_law.nd rfl (Or.inl rfl)) (sb_one (ss_if (st_not (st_tru (se_call (pe_callS G_law_right (hr.mono (by decide)) (by rfl) T.g_law_right T.k_law_right T.B_law_right (fun σ => passAt tk σ) (sl_cons (se_call (pe_callS G_law_well (hr.mono (by decide)) (by rfl) T.g_law_well T.k_law_well T.B_law_well (fun σ => passAt tk σ) (sl_cons (se_sl 0) (sl_cons (se_sl 1) sl_nil))) runB_bad) sl_nil)) runB_bad) (by intro _; rfl))) (sb_one (ss_ret se_bl)) sb_nil))))
    (sb_cons (ss_set (i := 2) sc_law.nd rfl (Or.inl rfl) (se_lst (sl_cons (se_call (pe_callS G_name_cells (hr.mono (by decide)) (by rfl) T.g_name_cells T.k_name_cells T.B_name_cells (fun σ => passAt tk σ) (sl_cons (se_str (by decide +kernel)) sl_nil)) runB_bad) (sl_cons (se_call (pe_callS G_name_cells (hr.mono (by decide)) (by rfl) T.g_name_cells T.k_name_cells T.B_name_cells (fun σ => passAt tk σ) (sl_cons (se_str (by decide +kernel)) sl_nil)) runB_bad) (sl_cons (se_call (pe_callS G_name_cells (hr.mono (by decide)) (by rfl) T.g_name_cells T.k_name_cells T.B_name_cells (fun σ => passAt tk σ) (sl_cons (se_str (by decide +kernel)) sl_nil)) runB_bad) (sl_cons (se_call (pe_callS G_name_cells (hr.mono (by decide)) (by rfl) T.g_name_cells T.k_name_cells T.B_name_cells (fun σ => passAt tk σ) (sl_cons (se_str (by decide +kernel)) sl_nil)) runB_bad) (sl_cons (se_call (pe_callS G_cells_name (hr.mono (by decide)) (by rfl) T.g_cells_name T.k_cells_name T.B_cells_name (fun σ => passAt tk σ) (sl_cons se_int (sl_cons se_int sl_nil))) runB_bad) sl_nil)))))))
    (sb_cons (ss_set (i := 2) sc_law.nd rfl (Or.inl rfl) (se_op x_add (se_sl 2) (se_lst (sl_cons (se_call (pe_callS G_cells_name (hr.mono (by decide)) (by rfl) T.g_cells_name T.k_cells_name T.B_cells_name (fun σ => passAt tk σ) (sl_cons se_int (sl_cons se_int sl_nil))) runB_bad) sl_nil))))
    (sb_cons (ss_if (st_cmp (x_ne hr.units) (se_sl 2) (se_lst (sl_cons (se_tup (sl_cons se_int (sl_cons se_int sl_nil))) (sl_cons (se_tup (sl_cons se_int (sl_cons se_int sl_nil))) (sl_cons (se_tup (sl_cons se_int (sl_cons se_int sl_nil))) (sl_cons (se_tup (sl_cons se_int (sl_cons se_int sl_nil))) (sl_cons se_non (sl_cons se_non sl_nil))))))) (nomark _)) (sb_one (ss_ret se_bl)) sb_nil)
    (sb_one (ss_ret (se_cmp (x_eq hr.units) (se_tup (sl_cons (se_c (pe_glob (v := .int 997) rfl T.c_PRIME.choose_spec ⟨_, rfl⟩) fun _ _ => .int _) (sl_cons (se_c (pe_glob (v := .int 996) rfl T.c_MAX_CELL.choose_spec ⟨_, rfl⟩) fun _ _ => .int _) (sl_cons (se_c (pe_glob (v := .int 4) rfl T.c_MAX_NAME.choose_spec ⟨_, rfl⟩) fun _ _ => .int _) sl_nil)))) (se_tup (sl_cons se_int (sl_cons se_int (sl_cons se_int sl_nil)))) (nomark _))))))))
end
end My


set_option Elab.async false
set_option linter.all false
set_option maxRecDepth 100000
set_option maxHeartbeats 4000000
namespace My
open PySem L2 Ev RZ RT
section
def sp_law (K : PySem.W.Frag) : Sp := fun vs H Q _ => ∃ (ad : Addr) (ns : List Int), vs = [.ref ad] ∧ ((∃ o, H ad = some (.frz o (.lst (ns.map V.int)))) ∨ SqL K (fun _ => none) ad (ns.map V.int)) ∧ ns.length ≤ 63 ∧ ∀ H', Q (.bl true) H'
theorem all_mk {l : PySem.W.OpenLaw} {w : World} {K : PySem.W.Frag} {h : Heap} {mg : Str → Option Value} {fa : Addr} (X : K.In h) (G : h.Ns mainGlobals mg) (hfa : mg "law" = some (.ref fa))
    {f0 : Addr} {f1 : Addr} {f2 : Addr} {f3 : Addr} {f4 : Addr} {f5 : Addr} {f6 : Addr} {f7 : Addr} {f8 : Addr} {f9 : Addr} {f10 : Addr} {f11 : Addr} {f12 : Addr} {f13 : Addr} {f14 : Addr} {f15 : Addr}
    {od0 an0 : Option Addr} {sl0 : Array (Option Value)} {oc0 kV0 dc0 pm0 cd0 ct0 : Value}
    (a0 : PySem.W.nsIn K mainGlobals "is_number" = some (some (.ref f0))) (l0 : K.lookup f0 = some ⟨oc0, od0, .func (PySem.W.fnOf "is_number" "is_number" (defArgs s_is_number) (defBody s_is_number) (defScope s_is_number) .none kV0 dc0 pm0 an0 cd0 ct0), sl0⟩) (c0 : PySem.W.codeIn K cd0 "is_number" = true) (k0 : PySem.W.keepIn K (.ref f0) = true)
    {od1 an1 : Option Addr} {sl1 : Array (Option Value)} {oc1 kV1 dc1 pm1 cd1 ct1 : Value}
    (a1 : PySem.W.nsIn K mainGlobals "check_number" = some (some (.ref f1))) (l1 : K.lookup f1 = some ⟨oc1, od1, .func (PySem.W.fnOf "check_number" "check_number" (defArgs s_check_number) (defBody s_check_number) (defScope s_check_number) .none kV1 dc1 pm1 an1 cd1 ct1), sl1⟩) (c1 : PySem.W.codeIn K cd1 "check_number" = true) (k1 : PySem.W.keepIn K (.ref f1) = true)
    {od2 an2 : Option Addr} {sl2 : Array (Option Value)} {oc2 kV2 dc2 pm2 cd2 ct2 : Value}
    (a2 : PySem.W.nsIn K mainGlobals "is_cell" = some (some (.ref f2))) (l2 : K.lookup f2 = some ⟨oc2, od2, .func (PySem.W.fnOf "is_cell" "is_cell" (defArgs s_is_cell) (defBody s_is_cell) (defScope s_is_cell) .none kV2 dc2 pm2 an2 cd2 ct2), sl2⟩) (c2 : PySem.W.codeIn K cd2 "is_cell" = true) (k2 : PySem.W.keepIn K (.ref f2) = true)
    {od3 an3 : Option Addr} {sl3 : Array (Option Value)} {oc3 kV3 dc3 pm3 cd3 ct3 : Value}
    (a3 : PySem.W.nsIn K mainGlobals "is_cells" = some (some (.ref f3))) (l3 : K.lookup f3 = some ⟨oc3, od3, .func (PySem.W.fnOf "is_cells" "is_cells" (defArgs s_is_cells) (defBody s_is_cells) (defScope s_is_cells) .none kV3 dc3 pm3 an3 cd3 ct3), sl3⟩) (c3 : PySem.W.codeIn K cd3 "is_cells" = true) (k3 : PySem.W.keepIn K (.ref f3) = true)
    {od4 an4 : Option Addr} {sl4 : Array (Option Value)} {oc4 kV4 dc4 pm4 cd4 ct4 : Value}
    (a4 : PySem.W.nsIn K mainGlobals "is_name" = some (some (.ref f4))) (l4 : K.lookup f4 = some ⟨oc4, od4, .func (PySem.W.fnOf "is_name" "is_name" (defArgs s_is_name) (defBody s_is_name) (defScope s_is_name) .none kV4 dc4 pm4 an4 cd4 ct4), sl4⟩) (c4 : PySem.W.codeIn K cd4 "is_name" = true) (k4 : PySem.W.keepIn K (.ref f4) = true)
    {od5 an5 : Option Addr} {sl5 : Array (Option Value)} {oc5 kV5 dc5 pm5 cd5 ct5 : Value}
    (a5 : PySem.W.nsIn K mainGlobals "check_name" = some (some (.ref f5))) (l5 : K.lookup f5 = some ⟨oc5, od5, .func (PySem.W.fnOf "check_name" "check_name" (defArgs s_check_name) (defBody s_check_name) (defScope s_check_name) .none kV5 dc5 pm5 an5 cd5 ct5), sl5⟩) (c5 : PySem.W.codeIn K cd5 "check_name" = true) (k5 : PySem.W.keepIn K (.ref f5) = true)
    {od6 an6 : Option Addr} {sl6 : Array (Option Value)} {oc6 kV6 dc6 pm6 cd6 ct6 : Value}
    (a6 : PySem.W.nsIn K mainGlobals "name_cells" = some (some (.ref f6))) (l6 : K.lookup f6 = some ⟨oc6, od6, .func (PySem.W.fnOf "name_cells" "name_cells" (defArgs s_name_cells) (defBody s_name_cells) (defScope s_name_cells) .none kV6 dc6 pm6 an6 cd6 ct6), sl6⟩) (c6 : PySem.W.codeIn K cd6 "name_cells" = true) (k6 : PySem.W.keepIn K (.ref f6) = true)
    {od7 an7 : Option Addr} {sl7 : Array (Option Value)} {oc7 kV7 dc7 pm7 cd7 ct7 : Value}
    (a7 : PySem.W.nsIn K mainGlobals "cells_name" = some (some (.ref f7))) (l7 : K.lookup f7 = some ⟨oc7, od7, .func (PySem.W.fnOf "cells_name" "cells_name" (defArgs s_cells_name) (defBody s_cells_name) (defScope s_cells_name) .none kV7 dc7 pm7 an7 cd7 ct7), sl7⟩) (c7 : PySem.W.codeIn K cd7 "cells_name" = true) (k7 : PySem.W.keepIn K (.ref f7) = true)
    {od8 an8 : Option Addr} {sl8 : Array (Option Value)} {oc8 kV8 dc8 pm8 cd8 ct8 : Value}
    (a8 : PySem.W.nsIn K mainGlobals "_law_well" = some (some (.ref f8))) (l8 : K.lookup f8 = some ⟨oc8, od8, .func (PySem.W.fnOf "_law_well" "_law_well" (defArgs s_law_well) (defBody s_law_well) (defScope s_law_well) .none kV8 dc8 pm8 an8 cd8 ct8), sl8⟩) (c8 : PySem.W.codeIn K cd8 "_law_well" = true) (k8 : PySem.W.keepIn K (.ref f8) = true)
    {od9 an9 : Option Addr} {sl9 : Array (Option Value)} {oc9 kV9 dc9 pm9 cd9 ct9 : Value}
    (a9 : PySem.W.nsIn K mainGlobals "_law_drawn" = some (some (.ref f9))) (l9 : K.lookup f9 = some ⟨oc9, od9, .func (PySem.W.fnOf "_law_drawn" "_law_drawn" (defArgs s_law_drawn) (defBody s_law_drawn) (defScope s_law_drawn) .none kV9 dc9 pm9 an9 cd9 ct9), sl9⟩) (c9 : PySem.W.codeIn K cd9 "_law_drawn" = true) (k9 : PySem.W.keepIn K (.ref f9) = true)
    {od10 an10 : Option Addr} {sl10 : Array (Option Value)} {oc10 kV10 dc10 pm10 cd10 ct10 : Value}
    (a10 : PySem.W.nsIn K mainGlobals "_law_given" = some (some (.ref f10))) (l10 : K.lookup f10 = some ⟨oc10, od10, .func (PySem.W.fnOf "_law_given" "_law_given" (defArgs s_law_given) (defBody s_law_given) (defScope s_law_given) .none kV10 dc10 pm10 an10 cd10 ct10), sl10⟩) (c10 : PySem.W.codeIn K cd10 "_law_given" = true) (k10 : PySem.W.keepIn K (.ref f10) = true)
    {od11 an11 : Option Addr} {sl11 : Array (Option Value)} {oc11 kV11 dc11 pm11 cd11 ct11 : Value}
    (a11 : PySem.W.nsIn K mainGlobals "_law_figures" = some (some (.ref f11))) (l11 : K.lookup f11 = some ⟨oc11, od11, .func (PySem.W.fnOf "_law_figures" "_law_figures" (defArgs s_law_figures) (defBody s_law_figures) (defScope s_law_figures) .none kV11 dc11 pm11 an11 cd11 ct11), sl11⟩) (c11 : PySem.W.codeIn K cd11 "_law_figures" = true) (k11 : PySem.W.keepIn K (.ref f11) = true)
    {od12 an12 : Option Addr} {sl12 : Array (Option Value)} {oc12 kV12 dc12 pm12 cd12 ct12 : Value}
    (a12 : PySem.W.nsIn K mainGlobals "_law_spelled" = some (some (.ref f12))) (l12 : K.lookup f12 = some ⟨oc12, od12, .func (PySem.W.fnOf "_law_spelled" "_law_spelled" (defArgs s_law_spelled) (defBody s_law_spelled) (defScope s_law_spelled) .none kV12 dc12 pm12 an12 cd12 ct12), sl12⟩) (c12 : PySem.W.codeIn K cd12 "_law_spelled" = true) (k12 : PySem.W.keepIn K (.ref f12) = true)
    {od13 an13 : Option Addr} {sl13 : Array (Option Value)} {oc13 kV13 dc13 pm13 cd13 ct13 : Value}
    (a13 : PySem.W.nsIn K mainGlobals "_law_near" = some (some (.ref f13))) (l13 : K.lookup f13 = some ⟨oc13, od13, .func (PySem.W.fnOf "_law_near" "_law_near" (defArgs s_law_near) (defBody s_law_near) (defScope s_law_near) .none kV13 dc13 pm13 an13 cd13 ct13), sl13⟩) (c13 : PySem.W.codeIn K cd13 "_law_near" = true) (k13 : PySem.W.keepIn K (.ref f13) = true)
    {od14 an14 : Option Addr} {sl14 : Array (Option Value)} {oc14 kV14 dc14 pm14 cd14 ct14 : Value}
    (a14 : PySem.W.nsIn K mainGlobals "_law_right" = some (some (.ref f14))) (l14 : K.lookup f14 = some ⟨oc14, od14, .func (PySem.W.fnOf "_law_right" "_law_right" (defArgs s_law_right) (defBody s_law_right) (defScope s_law_right) .none kV14 dc14 pm14 an14 cd14 ct14), sl14⟩) (c14 : PySem.W.codeIn K cd14 "_law_right" = true) (k14 : PySem.W.keepIn K (.ref f14) = true)
    {od15 an15 : Option Addr} {sl15 : Array (Option Value)} {oc15 kV15 dc15 pm15 cd15 ct15 : Value}
    (a15 : PySem.W.nsIn K mainGlobals "law" = some (some (.ref f15))) (l15 : K.lookup f15 = some ⟨oc15, od15, .func (PySem.W.fnOf "law" "law" (defArgs s_law) (defBody s_law) (defScope s_law) .none kV15 dc15 pm15 an15 cd15 ct15), sl15⟩) (c15 : PySem.W.codeIn K cd15 "law" = true) (k15 : PySem.W.keepIn K (.ref f15) = true)
    (z_abs : PySem.W.nsIn K mainGlobals "abs" = some none)
    (z_all : PySem.W.nsIn K mainGlobals "all" = some none)
    (z_bool : PySem.W.nsIn K mainGlobals "bool" = some none)
    (z_divmod : PySem.W.nsIn K mainGlobals "divmod" = some none)
    (z_enumerate : PySem.W.nsIn K mainGlobals "enumerate" = some none)
    (z_int : PySem.W.nsIn K mainGlobals "int" = some none)
    (z_isinstance : PySem.W.nsIn K mainGlobals "isinstance" = some none)
    (z_len : PySem.W.nsIn K mainGlobals "len" = some none)
    (z_list : PySem.W.nsIn K mainGlobals "list" = some none)
    (z_max : PySem.W.nsIn K mainGlobals "max" = some none)
    (z_min : PySem.W.nsIn K mainGlobals "min" = some none)
    (z_range : PySem.W.nsIn K mainGlobals "range" = some none)
    (z_repr : PySem.W.nsIn K mainGlobals "repr" = some none)
    (z_sorted : PySem.W.nsIn K mainGlobals "sorted" = some none)
    (z_str : PySem.W.nsIn K mainGlobals "str" = some none)
    (z_sum : PySem.W.nsIn K mainGlobals "sum" = some none)
    (z_tuple : PySem.W.nsIn K mainGlobals "tuple" = some none)
    {t_LETTERS : Tok} (y_LETTERS : PySem.W.nsIn K mainGlobals "LETTERS" = some (some (.str (st [97, 98, 99, 100, 101, 102, 103, 104, 105, 106, 107, 108, 109, 110, 111, 112, 113, 114, 115, 116, 117, 118, 119, 120, 121, 122]) t_LETTERS)))
    {t_LETTER_NUMBERS : Tok} (y_LETTER_NUMBERS : PySem.W.nsIn K mainGlobals "LETTER_NUMBERS" = some (some (.int 27 t_LETTER_NUMBERS)))
    {t_LONGEST : Tok} (y_LONGEST : PySem.W.nsIn K mainGlobals "LONGEST" = some (some (.int 999999999999999999999999999999999999999999999999999999999999 t_LONGEST)))
    {t_MAX_CELL : Tok} (y_MAX_CELL : PySem.W.nsIn K mainGlobals "MAX_CELL" = some (some (.int 996 t_MAX_CELL)))
    {t_MAX_NAME : Tok} (y_MAX_NAME : PySem.W.nsIn K mainGlobals "MAX_NAME" = some (some (.int 4 t_MAX_NAME)))
    {t_PRIME : Tok} (y_PRIME : PySem.W.nsIn K mainGlobals "PRIME" = some (some (.int 997 t_PRIME)))
    : ∃ fd : FuncData, (∀ (s : Shared) (v : Value), BindsTo s fd ⟨[v], []⟩ [("script", v)]) ∧ ∀ base : Heap, K.In base → base.Ns mainGlobals mg → FnOk l.prog w K mg base (L2.CX l.prog w) 5 fa fd ["script"] (sp_law K) := by
  have e := hfa.symm.trans (PySem.W.mg_of X G a15)
  cases e
  have F0 := fun_mk (st := s_is_number) l0 c0 k0
  have F1 := fun_mk (st := s_check_number) l1 c1 k1
  have F2 := fun_mk (st := s_is_cell) l2 c2 k2
  have F3 := fun_mk (st := s_is_cells) l3 c3 k3
  have F4 := fun_mk (st := s_is_name) l4 c4 k4
  have F5 := fun_mk (st := s_check_name) l5 c5 k5
  have F6 := fun_mk (st := s_name_cells) l6 c6 k6
  have F7 := fun_mk (st := s_cells_name) l7 c7 k7
  have F8 := fun_mk (st := s_law_well) l8 c8 k8
  have F9 := fun_mk (st := s_law_drawn) l9 c9 k9
  have F10 := fun_mk (st := s_law_given) l10 c10 k10
  have F11 := fun_mk (st := s_law_figures) l11 c11 k11
  have F12 := fun_mk (st := s_law_spelled) l12 c12 k12
  have F13 := fun_mk (st := s_law_near) l13 c13 k13
  have F14 := fun_mk (st := s_law_right) l14 c14 k14
  have F15 := fun_mk (st := s_law) l15 c15 k15
  have T : Txt w K (fun _ => 0) mg ⟨f0, f1, f2, f3, f4, f5, f6, f7, f8, f9, f10, f11, f12, f13, f14, fa⟩ ⟨_, _, _, _, _, _, _, _, _, _, _, _, _, _, _, _⟩ := {
    b_abs := PySem.W.mg_none_of X G z_abs
    b_all := PySem.W.mg_none_of X G z_all
    b_bool := PySem.W.mg_none_of X G z_bool
    b_divmod := PySem.W.mg_none_of X G z_divmod
    b_enumerate := PySem.W.mg_none_of X G z_enumerate
    b_int := PySem.W.mg_none_of X G z_int
    b_isinstance := PySem.W.mg_none_of X G z_isinstance
    b_len := PySem.W.mg_none_of X G z_len
    b_list := PySem.W.mg_none_of X G z_list
    b_max := PySem.W.mg_none_of X G z_max
    b_min := PySem.W.mg_none_of X G z_min
    b_range := PySem.W.mg_none_of X G z_range
    b_repr := PySem.W.mg_none_of X G z_repr
    b_sorted := PySem.W.mg_none_of X G z_sorted
    b_str := PySem.W.mg_none_of X G z_str
    b_sum := PySem.W.mg_none_of X G z_sum
    b_tuple := PySem.W.mg_none_of X G z_tuple
    c_LETTERS := ⟨_, PySem.W.mg_of X G y_LETTERS⟩
    c_LETTER_NUMBERS := ⟨_, PySem.W.mg_of X G y_LETTER_NUMBERS⟩
    c_LONGEST := ⟨_, PySem.W.mg_of X G y_LONGEST⟩
    c_MAX_CELL := ⟨_, PySem.W.mg_of X G y_MAX_CELL⟩
    c_MAX_NAME := ⟨_, PySem.W.mg_of X G y_MAX_NAME⟩
    c_PRIME := ⟨_, PySem.W.mg_of X G y_PRIME⟩
    g_is_number := PySem.W.mg_of X G a0
    k_is_number := k0
    F_is_number := F0
    B_is_number := F0.binds (ps := ["value", "least", "most"]) fun _ _ _ _ _ _ us hl => match us, hl with | [_, _, _], _ => rfl
    g_check_number := PySem.W.mg_of X G a1
    k_check_number := k1
    F_check_number := F1
    B_check_number := F1.binds (ps := ["given", "least", "most"]) fun _ _ _ _ _ _ us hl => match us, hl with | [_, _, _], _ => rfl
    g_is_cell := PySem.W.mg_of X G a2
    k_is_cell := k2
    F_is_cell := F2
    B_is_cell := F2.binds (ps := ["value"]) fun _ _ _ _ _ _ us hl => match us, hl with | [_], _ => rfl
    g_is_cells := PySem.W.mg_of X G a3
    k_is_cells := k3
    F_is_cells := F3
    B_is_cells := F3.binds (ps := ["value"]) fun _ _ _ _ _ _ us hl => match us, hl with | [_], _ => rfl
    g_is_name := PySem.W.mg_of X G a4
    k_is_name := k4
    F_is_name := F4
    B_is_name := F4.binds (ps := ["value"]) fun _ _ _ _ _ _ us hl => match us, hl with | [_], _ => rfl
    g_check_name := PySem.W.mg_of X G a5
    k_check_name := k5
    F_check_name := F5
    B_check_name := F5.binds (ps := ["name"]) fun _ _ _ _ _ _ us hl => match us, hl with | [_], _ => rfl
    g_name_cells := PySem.W.mg_of X G a6
    k_name_cells := k6
    F_name_cells := F6
    B_name_cells := F6.binds (ps := ["name"]) fun _ _ _ _ _ _ us hl => match us, hl with | [_], _ => rfl
    g_cells_name := PySem.W.mg_of X G a7
    k_cells_name := k7
    F_cells_name := F7
    B_cells_name := F7.binds (ps := ["first", "second"]) fun _ _ _ _ _ _ us hl => match us, hl with | [_, _], _ => rfl
    g_law_well := PySem.W.mg_of X G a8
    k_law_well := k8
    F_law_well := F8
    B_law_well := F8.binds (ps := ["script", "spot"]) fun _ _ _ _ _ _ us hl => match us, hl with | [_, _], _ => rfl
    g_law_drawn := PySem.W.mg_of X G a9
    k_law_drawn := k9
    F_law_drawn := F9
    B_law_drawn := F9.binds (ps := ["well", "many"]) fun _ _ _ _ _ _ us hl => match us, hl with | [_, _], _ => rfl
    g_law_given := PySem.W.mg_of X G a10
    k_law_given := k10
    F_law_given := F10
    B_law_given := F10.binds (ps := ["well", "items"]) fun _ _ _ _ _ _ us hl => match us, hl with | [_, _], _ => rfl
    g_law_figures := PySem.W.mg_of X G a11
    k_law_figures := k11
    F_law_figures := F11
    B_law_figures := F11.binds (ps := ["name"]) fun _ _ _ _ _ _ us hl => match us, hl with | [_], _ => rfl
    g_law_spelled := PySem.W.mg_of X G a12
    k_law_spelled := k12
    F_law_spelled := F12
    B_law_spelled := F12.binds (ps := ["first", "second"]) fun _ _ _ _ _ _ us hl => match us, hl with | [_, _], _ => rfl
    g_law_near := PySem.W.mg_of X G a13
    k_law_near := k13
    F_law_near := F13
    B_law_near := F13.binds (ps := ["well"]) fun _ _ _ _ _ _ us hl => match us, hl with | [_], _ => rfl
    g_law_right := PySem.W.mg_of X G a14
    k_law_right := k14
    F_law_right := F14
    B_law_right := F14.binds (ps := ["well"]) fun _ _ _ _ _ _ us hl => match us, hl with | [_], _ => rfl
    g_law := PySem.W.mg_of X G a15
    k_law := k15
    F_law := F15
    B_law := F15.binds (ps := ["script"]) fun _ _ _ _ _ _ us hl => match us, hl with | [_], _ => rfl
  }
  refine ⟨PySem.W.fnOf "law" "law" (defArgs s_law) (defBody s_law) (defScope s_law) .none kV15 dc15 pm15 an15 cd15 ct15, fun s v => .of_eq rfl, fun base _ _ => ?_⟩
  have G_is_number := ok_is_number (P := l.prog) (w := w) (base := base) T 
  have G_is_name := ok_is_name (P := l.prog) (w := w) (base := base) T 
  have G_law_well := ok_law_well (P := l.prog) (w := w) (base := base) T 
  have G_law_drawn := ok_law_drawn (P := l.prog) (w := w) (base := base) T 
  have G_law_figures := ok_law_figures (P := l.prog) (w := w) (base := base) T 
  have G_law_spelled := ok_law_spelled (P := l.prog) (w := w) (base := base) T 
  have G_check_number := ok_check_number (P := l.prog) (w := w) (base := base) T G_is_number
  have G_is_cell := ok_is_cell (P := l.prog) (w := w) (base := base) T G_is_number
  have G_check_name := ok_check_name (P := l.prog) (w := w) (base := base) T G_is_name
  have G_law_given := ok_law_given (P := l.prog) (w := w) (base := base) T G_law_drawn
  have G_is_cells := ok_is_cells (P := l.prog) (w := w) (base := base) T G_is_cell
  have G_name_cells := ok_name_cells (P := l.prog) (w := w) (base := base) T G_check_name
  have G_cells_name := ok_cells_name (P := l.prog) (w := w) (base := base) T G_check_number
  have G_law_near := ok_law_near (P := l.prog) (w := w) (base := base) T G_law_given
  have G_law_right := ok_law_right (P := l.prog) (w := w) (base := base) T G_law_drawn G_law_figures G_law_given G_law_near G_law_spelled G_cells_name G_is_cell G_is_cells G_is_name G_name_cells
  have G_law := ok_law (P := l.prog) (w := w) (base := base) T G_law_right G_law_well G_cells_name G_name_cells
  exact G_law.imp (fun vs H Q E h => law_sp law_true h)
theorem walk {l : PySem.W.OpenLaw} {q : Program} {loose : List Str} {XP : (Str → Option Value) → Heap → Prop} {YP : World → Heap → Prop} {d : DefRec} {K : Params → PySem.W.Frag} (hn : l.most = some 63) (hdf : d.params.defaults = [])
    (hY : ∀ (w : World) (h : Heap), YP w h → (K w.params).In h)
    (F : ∀ (w : World) (mg : Str → Option Value) (fa : Addr) (h : Heap), (K w.params).In h → h.Ns mainGlobals mg → mg d.name = some (.ref fa) →
      ∃ fd : FuncData, (∀ (s : Shared) (u : Value), BindsTo s fd ⟨[u], []⟩ [("script", u)]) ∧ ∀ base : Heap, (K w.params).In base → base.Ns mainGlobals mg → FnOk l.prog w (K w.params) mg base (L2.CX l.prog w) 5 fa fd ["script"] (sp_law (K w.params))) :
    PySem.W.WalkO q loose XP YP l.row.toRowW d [] (fun f vs => PySem.call f vs) :=
  L2.walk_of (n := 63) (k := 5) (x := "script") (CX := fun w => L2.CX l.prog w) (sp := fun w => sp_law (K w.params)) hn (by decide) hdf ⟨rfl, by decide, by decide⟩ hY F (fun _ H a ns hl hO hS => ⟨a, ns, rfl, only_rol hO hS, hl, fun _ => rfl⟩) fun _ _ _ _ _ z => cx_false z
end
end My
open PySem PySem.W PyProof.Rows
set_option maxRecDepth 100000 in
set_option maxHeartbeats 0 in
theorem PySem.Challenge.cw_stillread_k01_whole_names_and_their_cell_holds : PySem.Challenge.rw_stillread_k01_whole_names_and_their_cell.Holds := by
  w_on; o_law; k_head; (case hw => w_witness2)
  k_fill
  refine My.walk (l := PySem.Challenge.rw_stillread_k01_whole_names_and_their_cell) rfl rfl (fun w h Y => PySem.W.kIn_of Y) ?F
  case F =>
    intro w mg fa h KX G hmg
    refine' My.all_mk KX G hmg ?a0 ?l0 ?c0 ?k0 ?a1 ?l1 ?c1 ?k1 ?a2 ?l2 ?c2 ?k2 ?a3 ?l3 ?c3 ?k3 ?a4 ?l4 ?c4 ?k4 ?a5 ?l5 ?c5 ?k5 ?a6 ?l6 ?c6 ?k6 ?a7 ?l7 ?c7 ?k7 ?a8 ?l8 ?c8 ?k8 ?a9 ?l9 ?c9 ?k9 ?a10 ?l10 ?c10 ?k10 ?a11 ?l11 ?c11 ?k11 ?a12 ?l12 ?c12 ?k12 ?a13 ?l13 ?c13 ?k13 ?a14 ?l14 ?c14 ?k14 ?a15 ?l15 ?c15 ?k15 ?z_abs ?z_all ?z_bool ?z_divmod ?z_enumerate ?z_int ?z_isinstance ?z_len ?z_list ?z_max ?z_min ?z_range ?z_repr ?z_sorted ?z_str ?z_sum ?z_tuple ?y_LETTERS ?y_LETTER_NUMBERS ?y_LONGEST ?y_MAX_CELL ?y_MAX_NAME ?y_PRIME
    (case a0 => k_is)
    (case l0 => k_is)
    (case c0 => k_is)
    (case k0 => k_is)
    (case a1 => k_is)
    (case l1 => k_is)
    (case c1 => k_is)
    (case k1 => k_is)
    (case a2 => k_is)
    (case l2 => k_is)
    (case c2 => k_is)
    (case k2 => k_is)
    (case a3 => k_is)
    (case l3 => k_is)
    (case c3 => k_is)
    (case k3 => k_is)
    (case a4 => k_is)
    (case l4 => k_is)
    (case c4 => k_is)
    (case k4 => k_is)
    (case a5 => k_is)
    (case l5 => k_is)
    (case c5 => k_is)
    (case k5 => k_is)
    (case a6 => k_is)
    (case l6 => k_is)
    (case c6 => k_is)
    (case k6 => k_is)
    (case a7 => k_is)
    (case l7 => k_is)
    (case c7 => k_is)
    (case k7 => k_is)
    (case a8 => k_is)
    (case l8 => k_is)
    (case c8 => k_is)
    (case k8 => k_is)
    (case a9 => k_is)
    (case l9 => k_is)
    (case c9 => k_is)
    (case k9 => k_is)
    (case a10 => k_is)
    (case l10 => k_is)
    (case c10 => k_is)
    (case k10 => k_is)
    (case a11 => k_is)
    (case l11 => k_is)
    (case c11 => k_is)
    (case k11 => k_is)
    (case a12 => k_is)
    (case l12 => k_is)
    (case c12 => k_is)
    (case k12 => k_is)
    (case a13 => k_is)
    (case l13 => k_is)
    (case c13 => k_is)
    (case k13 => k_is)
    (case a14 => k_is)
    (case l14 => k_is)
    (case c14 => k_is)
    (case k14 => k_is)
    (case a15 => k_is)
    (case l15 => k_is)
    (case c15 => k_is)
    (case k15 => k_is)
    (case z_abs => k_is)
    (case z_all => k_is)
    (case z_bool => k_is)
    (case z_divmod => k_is)
    (case z_enumerate => k_is)
    (case z_int => k_is)
    (case z_isinstance => k_is)
    (case z_len => k_is)
    (case z_list => k_is)
    (case z_max => k_is)
    (case z_min => k_is)
    (case z_range => k_is)
    (case z_repr => k_is)
    (case z_sorted => k_is)
    (case z_str => k_is)
    (case z_sum => k_is)
    (case z_tuple => k_is)
    (case y_LETTERS => k_is)
    (case y_LETTER_NUMBERS => k_is)
    (case y_LONGEST => k_is)
    (case y_MAX_CELL => k_is)
    (case y_MAX_NAME => k_is)
    (case y_PRIME => k_is)
