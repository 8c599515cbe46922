import PyProof.Rows.All
import Wide.All
import OpenK.AllK
import Wide.FinOn
import HandS.ForMost
import HandS.Exc
import HandS.ExcOwn
import HandS.TryOnly
import HandS.Wide
import HandS.TupAny
import HandS.TupMul
import HandS.Deep
import HandS.IsInst
import HandS.Walk
import HandS.Zip
import HandS.Rev
import HandS.RevRange
import HandS.WordsExc
import HandS.StrMore
import HandS.Replace
import HandS.SetFor
import KE.GoesEnum
import KE.GoesZip
import KE.SortData
import KE.IntTextLaws
import HandS.Conv
import HandS.DictComp
import HandS.ListItems
import HandS.CallLocal
import HandS.More
import PyProof.TupleOfSeq
import HandS.Style
import HandS.FStrTup
import PyProof.ListStr
import KE.DataFind
import HandS.Lambda
import HandS.ExcInit
import HandS.FStr
import KE.KExcInit
import HandS.ExcField
import PySem.Challenge.RW_stillread_k32_whole_reasons_of_refusals
set_option Elab.async false
set_option linter.all false
set_option maxRecDepth 100000
set_option maxHeartbeats 2000000
/-! Ev: Python's values, memory and results as plain data; what a state of the layer holds of them. -/
namespace Ev
open PySem PySem.Spec L2

/-- a value: tuples stand in it as they are; ref: a cell of the memory; rol: a list that nobody changes; ob: a def, a class -/
inductive U where
  | non | bl (b : Bool) | int (i : Int) | str (x : Str) | tup (us : List U) | rol (us : List U) | ref (n : Nat) | ob (v : V)
instance : Inhabited U := ⟨.non⟩
inductive Cell where
  | lst (us : List U) | dK (kvs : List (Key × U)) | dT (kvs : List (List Key × U)) | dF (kvs : List (Key × U))
abbrev Mem := List Cell
/-- an exception: its class by number, what it keeps -/
structure Ex where
  cls : Nat
  val : Option (Str × U)
inductive R (α : Type) where
  | ok (a : α) (m : Mem) | err (x : Ex) (m : Mem) | bad
def R.bind {α β : Type} (r : R α) (k : α → Mem → R β) : R β := match r with
  | .ok a m => k a m
  | .err x m => .err x m
  | .bad => .bad
theorem R.bind_ok {α β : Type} (a : α) (m : Mem) (k : α → Mem → R β) : (R.ok a m).bind k = k a m := rfl
theorem R.bind_err {α β : Type} (x : Ex) (m : Mem) (k : α → Mem → R β) : (R.err x m : R α).bind k = .err x m := rfl
theorem R.bind_assoc {α β γ : Type} (r : R α) (k : α → Mem → R β) (l : β → Mem → R γ) : (r.bind k).bind l = r.bind fun a m => (k a m).bind l := by cases r <;> rfl
abbrev Env := List (Option U)
/-- what is fixed through a law: the written part, the classes of errors by number -/
structure W0 where
  K : PySem.W.Frag
  cls : Nat → Addr

/-! ### values -/
mutual
inductive RU (K : PySem.W.Frag) (H : Hp) (μ : List Addr) : U → V → Prop
  | non : RU K H μ .non .non
  | bl (b : Bool) : RU K H μ (.bl b) (.bl b)
  | int (i : Int) : RU K H μ (.int i) (.int i)
  | str (x : Str) : RU K H μ (.str x) (.str x)
  | tup {a : Addr} {vs : List V} {us : List U} : SqT K H a vs → RUs K H μ us vs → RU K H μ (.tup us) (.ref a)
  | rol {a : Addr} {vs : List V} {us : List U} : ((∃ o, H a = some (.frz o (.lst vs))) ∨ (SqL K (fun _ => none) a vs)) → RUs K H μ us vs → RU K H μ (.rol us) (.ref a)
  | ref {n : Nat} {a : Addr} : μ[n]? = some a → RU K H μ (.ref n) (.ref a)
  | ob (v : V) : RU K H μ (.ob v) v
inductive RUs (K : PySem.W.Frag) (H : Hp) (μ : List Addr) : List U → List V → Prop
  | nil : RUs K H μ [] []
  | cons {u : U} {us : List U} {v : V} {vs : List V} : RU K H μ u v → RUs K H μ us vs → RUs K H μ (u :: us) (v :: vs)
end

/-- from state to state: further cells; all else that is tracked stays -/
structure Step (K : PySem.W.Frag) (μ : List Addr) (H : Hp) (μ' : List Addr) (H' : Hp) : Prop where
  ext : ∃ t, μ' = μ ++ t
  keep : ∀ b o, H b = some o → b ∉ μ → (∀ ps, o ≠ .tbl ps) → H' b = some o
  stay : ∀ b o, H b = some o → b ∉ μ → b ∉ μ' ∧ ∃ o', H' b = some o'
  kt : ∀ a xs, SqT K H a xs → SqT K H' a xs
  fz : ∀ b o u, H b = some (.frz o u) → H' b = some (.frz o u)
section
variable {K : PySem.W.Frag} {H H' H'' : Hp} {μ μ' μ'' : List Addr}
theorem Step.refl : Step K μ H μ H := ⟨⟨[], by simp⟩, fun _ _ h _ _ => h, fun _ o h n => ⟨n, o, h⟩, fun _ _ h => h, fun _ _ _ h => h⟩
theorem Step.trans (a : Step K μ H μ' H') (b : Step K μ' H' μ'' H'') : Step K μ H μ'' H'' := by
  obtain ⟨t, e1⟩ := a.ext
  obtain ⟨t', e2⟩ := b.ext
  refine ⟨⟨t ++ t', by rw [e2, e1, List.append_assoc]⟩, fun c o h n hp => ?_, fun c o h n => ?_, fun c xs h => b.kt _ _ (a.kt _ _ h), fun c o u h => b.fz _ _ _ (a.fz _ _ _ h)⟩
  · exact b.keep c o (a.keep c o h n hp) (a.stay c o h n).1 hp
  · obtain ⟨n1, o1, h1⟩ := a.stay c o h n
    exact b.stay c o1 h1 n1
/-- what values lean on -/
structure Mono (K : PySem.W.Frag) (μ : List Addr) (H : Hp) (μ' : List Addr) (H' : Hp) : Prop where
  ext : ∃ t, μ' = μ ++ t
  kt : ∀ a xs, SqT K H a xs → SqT K H' a xs
  fz : ∀ b o u, H b = some (.frz o u) → H' b = some (.frz o u)
theorem Mono.refl : Mono K μ H μ H := ⟨⟨[], by simp⟩, fun _ _ h => h, fun _ _ _ h => h⟩
theorem Mono.trans (a : Mono K μ H μ' H') (b : Mono K μ' H' μ'' H'') : Mono K μ H μ'' H'' := by
  obtain ⟨t, e1⟩ := a.ext
  obtain ⟨t', e2⟩ := b.ext
  exact ⟨⟨t ++ t', by rw [e2, e1, List.append_assoc]⟩, fun c xs h => b.kt _ _ (a.kt _ _ h), fun c o u h => b.fz _ _ _ (a.fz _ _ _ h)⟩
theorem Step.mono (s : Step K μ H μ' H') : Mono K μ H μ' H' := ⟨s.ext, s.kt, s.fz⟩
theorem Mono.at (s : Mono K μ H μ' H') {n : Nat} {a : Addr} (h : μ[n]? = some a) : μ'[n]? = some a := by
  obtain ⟨t, e⟩ := s.ext
  have hl : n < μ.length := (List.getElem?_eq_some_iff.mp h).1
  rw [e, List.getElem?_append_left hl]
  exact h
mutual
theorem RU.mo (s : Mono K μ H μ' H') : ∀ {u : U} {v : V}, RU K H μ u v → RU K H' μ' u v
  | _, _, .non => .non
  | _, _, .bl b => .bl b
  | _, _, .int i => .int i
  | _, _, .str x => .str x
  | _, _, .tup h t => .tup (s.kt _ _ h) (RUs.mo s t)
  | _, _, .rol h t => .rol (h.imp (fun ⟨o, q⟩ => ⟨o, s.fz _ _ _ q⟩) id) (RUs.mo s t)
  | _, _, .ref h => .ref (s.at h)
  | _, _, .ob v => .ob v
theorem RUs.mo (s : Mono K μ H μ' H') : ∀ {us : List U} {vs : List V}, RUs K H μ us vs → RUs K H' μ' us vs
  | _, _, .nil => .nil
  | _, _, .cons h t => .cons (RU.mo s h) (RUs.mo s t)
end
theorem RU.step (s : Step K μ H μ' H') {u : U} {v : V} (r : RU K H μ u v) : RU K H' μ' u v := r.mo s.mono
theorem RUs.step (s : Step K μ H μ' H') {us : List U} {vs : List V} (r : RUs K H μ us vs) : RUs K H' μ' us vs := r.mo s.mono
theorem RUs.length : ∀ {us : List U} {vs : List V}, RUs K H μ us vs → us.length = vs.length
  | _, _, .nil => rfl
  | _, _, .cons _ t => congrArg (· + 1) (RUs.length t)
theorem RUs.append : ∀ {us us' : List U} {vs vs' : List V}, RUs K H μ us vs → RUs K H μ us' vs' → RUs K H μ (us ++ us') (vs ++ vs')
  | _, _, _, _, .nil, h => h
  | _, _, _, _, .cons a t, h => .cons a (RUs.append t h)
theorem RUs.get : ∀ {us : List U} {vs : List V} {i : Nat} {u : U}, RUs K H μ us vs → us[i]? = some u → ∃ v, vs[i]? = some v ∧ RU K H μ u v
  | _, _, _, _, .nil, e => by simp at e
  | _, _, 0, _, .cons h _, e => by simp at e; subst e; exact ⟨_, rfl, h⟩
  | _, _, i + 1, _, .cons _ t, e => by
    obtain ⟨v, h1, h2⟩ := RUs.get (i := i) t (by simpa using e)
    exact ⟨v, by simpa using h1, h2⟩
theorem RUs.get' : ∀ {us : List U} {vs : List V} {i : Nat} {v : V}, RUs K H μ us vs → vs[i]? = some v → ∃ u, us[i]? = some u ∧ RU K H μ u v
  | _, _, _, _, .nil, e => by simp at e
  | _, _, 0, _, .cons h _, e => by simp at e; subst e; exact ⟨_, rfl, h⟩
  | _, _, i + 1, _, .cons _ t, e => by
    obtain ⟨v, h1, h2⟩ := RUs.get' (i := i) t (by simpa using e)
    exact ⟨v, by simpa using h1, h2⟩
theorem RUs.take : ∀ {us : List U} {vs : List V} (n : Nat), RUs K H μ us vs → RUs K H μ (us.take n) (vs.take n)
  | _, _, 0, _ => .nil
  | _, _, _ + 1, .nil => .nil
  | _, _, n + 1, .cons r t => .cons r (RUs.take n t)
theorem RUs.drop : ∀ {us : List U} {vs : List V} (n : Nat), RUs K H μ us vs → RUs K H μ (us.drop n) (vs.drop n)
  | _, _, 0, r => r
  | _, _, _ + 1, .nil => .nil
  | _, _, n + 1, .cons _ t => RUs.drop n t
theorem RUs.set : ∀ {us : List U} {vs : List V} (i : Nat) {u : U} {v : V}, RU K H μ u v → RUs K H μ us vs → RUs K H μ (us.set i u) (vs.set i v)
  | _, _, _, _, _, _, .nil => .nil
  | _, _, 0, _, _, r, .cons _ t => .cons r t
  | _, _, i + 1, _, _, r, .cons q t => .cons q (RUs.set i r t)
theorem RUs.rep {us : List U} {vs : List V} (h : RUs K H μ us vs) : ∀ k : Nat, RUs K H μ (List.replicate k us).flatten (List.replicate k vs).flatten
  | 0 => .nil
  | k + 1 => by
    rw [List.replicate_succ, List.replicate_succ, List.flatten_cons, List.flatten_cons]
    exact h.append (RUs.rep h k)
theorem RUs.reverse : ∀ {us : List U} {vs : List V}, RUs K H μ us vs → RUs K H μ us.reverse vs.reverse
  | _, _, .nil => .nil
  | _, _, .cons h t => by
    rw [List.reverse_cons, List.reverse_cons]
    exact (RUs.reverse t).append (.cons h .nil)
theorem RUs.ints : ∀ ns : List Int, RUs K H μ (ns.map U.int) (ns.map V.int)
  | [] => .nil
  | n :: r => .cons (.int n) (RUs.ints r)
theorem RUs.vints : ∀ {ns : List Int} {vs : List V}, RUs K H μ (ns.map U.int) vs → vs = ns.map V.int
  | [], _, h => by cases h; rfl
  | n :: r, _, h => by
    cases h with
    | cons a t =>
      cases a
      rw [RUs.vints t]; rfl
end

/-! ### memory -/
def COk (K : PySem.W.Frag) (H : Hp) (μ : List Addr) : Cell → Addr → Prop
  | .lst us, a => ∃ vs, H a = some (.lst vs) ∧ RUs K H μ us vs
  | .dK kvs, a => ∃ vs, H a = some (.dK vs) ∧ Paired (fun (p : Key × U) (q : Key × V) => p.1 = q.1 ∧ RU K H μ p.2 q.2) kvs vs
  | .dT kvs, a => ∃ vs, H a = some (.dT vs) ∧ Paired (fun (p : List Key × U) (q : List Key × V) => p.1 = q.1 ∧ RU K H μ p.2 q.2) kvs vs
  | .dF kvs, a => ∃ o vs, H a = some (.frz o (.dK vs)) ∧ Paired (fun (p : Key × U) (q : Key × V) => p.1 = q.1 ∧ RU K H μ p.2 q.2) kvs vs
structure MOk (K : PySem.W.Frag) (H : Hp) (μ : List Addr) (m : Mem) : Prop where
  len : μ.length = m.length
  nd : μ.Nodup
  cell : ∀ (n : Nat) (a : Addr) (c : Cell), μ[n]? = some a → m[n]? = some c → COk K H μ c a
section
variable {K : PySem.W.Frag} {H H' : Hp} {μ μ' : List Addr} {m : Mem}
/-- what a cell's object may be -/
def isC : HO → Bool
  | .lst _ => true
  | .dK _ => true
  | .dT _ => true
  | _ => false
/-- the same, or a dict that is held fast -/
def isK : HO → Bool
  | .frz _ (.dK _) => true
  | o => isC o
theorem isK_of {o : HO} (h : isC o = true) : isK o = true := by
  cases o <;> first | exact h | cases h
theorem COk.is {c : Cell} {a : Addr} (h : COk K H μ c a) : ∃ o, H a = some o ∧ isK o = true := by
  cases c with
  | dF us => obtain ⟨o, vs, e, _⟩ := h; exact ⟨_, e, rfl⟩
  | lst us => obtain ⟨vs, e, _⟩ := h; exact ⟨_, e, rfl⟩
  | dK us => obtain ⟨vs, e, _⟩ := h; exact ⟨_, e, rfl⟩
  | dT us => obtain ⟨vs, e, _⟩ := h; exact ⟨_, e, rfl⟩
theorem MOk.at (M : MOk K H μ m) {n : Nat} {c : Cell} (h : m[n]? = some c) : ∃ a, μ[n]? = some a ∧ COk K H μ c a := by
  have hl : n < μ.length := by rw [M.len]; exact (List.getElem?_eq_some_iff.mp h).1
  exact ⟨μ[n], List.getElem?_eq_getElem hl, M.cell n _ c (List.getElem?_eq_getElem hl) h⟩
theorem MOk.is (M : MOk K H μ m) {a : Addr} (h : a ∈ μ) : ∃ o, H a = some o ∧ isK o = true := by
  obtain ⟨n, hn⟩ := List.getElem?_of_mem h
  have hl : n < m.length := by rw [← M.len]; exact (List.getElem?_eq_some_iff.mp hn).1
  exact (M.cell n a m[n] hn (List.getElem?_eq_getElem hl)).is
theorem MOk.nin (M : MOk K H μ m) {a : Addr} (h : H a = none) : a ∉ μ := fun z => by
  obtain ⟨o, e, _⟩ := M.is z
  rw [h] at e; cases e
theorem MOk.ninT (M : MOk K H μ m) {a : Addr} {o : HO} (h : H a = some o) (ho : isK o = false) : a ∉ μ := fun z => by
  obtain ⟨u, e, q⟩ := M.is z
  rw [h] at e; cases e; rw [ho] at q; cases q
theorem COk.mo {c : Cell} {a : Addr} (s : Mono K μ H μ' H') (e : H' a = H a) (h : COk K H μ c a) : COk K H' μ' c a := by
  cases c with
  | lst us => obtain ⟨vs, q, r⟩ := h; exact ⟨vs, e.trans q, r.mo s⟩
  | dK kvs => obtain ⟨vs, q, r⟩ := h; exact ⟨vs, e.trans q, Paired.mapP r fun p q z => ⟨z.1, z.2.mo s⟩⟩
  | dT kvs => obtain ⟨vs, q, r⟩ := h; exact ⟨vs, e.trans q, Paired.mapP r fun p q z => ⟨z.1, z.2.mo s⟩⟩
  | dF kvs => obtain ⟨o, vs, q, r⟩ := h; exact ⟨o, vs, e.trans q, Paired.mapP r fun p q z => ⟨z.1, z.2.mo s⟩⟩
theorem COk.step {c : Cell} {a : Addr} (s : Step K μ H μ' H') (e : H' a = H a) (h : COk K H μ c a) : COk K H' μ' c a := h.mo s.mono e
/-- nothing of the cells changed -/
theorem MOk.mo (M : MOk K H μ m) (s : Mono K μ H μ H') (e : ∀ a ∈ μ, H' a = H a) : MOk K H' μ m :=
  ⟨M.len, M.nd, fun n a c h1 h2 => (M.cell n a c h1 h2).mo s (e a (List.mem_of_getElem? h1))⟩
theorem MOk.step (M : MOk K H μ m) (s : Step K μ H μ H') (e : ∀ a ∈ μ, H' a = H a) : MOk K H' μ m := M.mo s.mono e
theorem kt_new {p : Addr} {o : HO} (hp : H p = none) : ∀ a xs, SqT K H a xs → SqT K (upd H p o) a xs := fun a xs h => by
  rcases h with (h | ⟨u, h⟩) | h
  · exact .inl (.inl (by rw [upd_ne (ne_of_none h hp)]; exact h))
  · exact .inl (.inr ⟨u, by rw [upd_ne (ne_of_none h hp)]; exact h⟩)
  · exact .inr h
theorem kt_set {p : Addr} {o u : HO} (hp : H p = some u) (hu : isC u = true) : ∀ a xs, SqT K H a xs → SqT K (upd H p o) a xs := fun a xs h => by
  have ne : ∀ v, H a = some v → isC v = false → a ≠ p := fun v e q z => by
    subst z; rw [hp] at e; cases e; rw [hu] at q; cases q
  rcases h with (h | ⟨w, h⟩) | h
  · exact .inl (.inl (by rw [upd_ne (ne _ h rfl)]; exact h))
  · exact .inl (.inr ⟨w, by rw [upd_ne (ne _ h rfl)]; exact h⟩)
  · exact .inr h
theorem Step.newT {p : Addr} {o : HO} (hp : H p = none) : Step K μ H μ (upd H p o) :=
  ⟨⟨[], by simp⟩, fun b u h _ _ => by rw [upd_ne (ne_of_none h hp)]; exact h, fun b u h n => ⟨n, u, by rw [upd_ne (ne_of_none h hp)]; exact h⟩, kt_new hp, fun b u x h => by rw [upd_ne (ne_of_none h hp)]; exact h⟩
theorem Step.newC {p : Addr} {o : HO} (hp : H p = none) : Step K μ H (μ ++ [p]) (upd H p o) :=
  ⟨⟨[p], rfl⟩, fun b u h _ _ => by rw [upd_ne (ne_of_none h hp)]; exact h, fun b u h n => ⟨fun z => by
      rcases List.mem_append.mp z with z | z
      · exact n z
      · exact ne_of_none h hp (by simpa using z), u, by rw [upd_ne (ne_of_none h hp)]; exact h⟩, kt_new hp, fun b u x h => by rw [upd_ne (ne_of_none h hp)]; exact h⟩
theorem Step.set {p : Addr} {o u : HO} (hm : p ∈ μ) (hp : H p = some u) (hu : isC u = true) : Step K μ H μ (upd H p o) := by
  have ne : ∀ b, b ∉ μ → b ≠ p := fun b n z => n (z ▸ hm)
  refine ⟨⟨[], by simp⟩, fun b v h n _ => by rw [upd_ne (ne b n)]; exact h, fun b v h n => ⟨n, v, by rw [upd_ne (ne b n)]; exact h⟩, kt_set hp hu, fun b v x h => ?_⟩
  rw [upd_ne fun z => by subst z; rw [hp] at h; cases h; cases hu]; exact h
theorem MOk.newT (M : MOk K H μ m) {p : Addr} {o : HO} (hp : H p = none) : MOk K (upd H p o) μ m :=
  M.step (Step.newT hp) fun a ha => by
    obtain ⟨o', e, _⟩ := M.is ha
    rw [upd_ne (ne_of_none e hp)]
theorem MOk.newC (M : MOk K H μ m) {p : Addr} {o : HO} {c : Cell} (hp : H p = none) (hc : COk K (upd H p o) (μ ++ [p]) c p) : MOk K (upd H p o) (μ ++ [p]) (m ++ [c]) := by
  refine ⟨by simp [M.len], ?_, fun n a d h1 h2 => ?_⟩
  · rw [List.nodup_append]
    exact ⟨M.nd, by simp, fun x hx y hy e => M.nin hp (by rw [← (by simpa using hy : y = p), ← e]; exact hx)⟩
  · by_cases hn : n < μ.length
    · rw [List.getElem?_append_left hn] at h1
      rw [List.getElem?_append_left (by rw [← M.len]; exact hn)] at h2
      refine (M.cell n a d h1 h2).step (Step.newC hp) ?_
      obtain ⟨o', e, _⟩ := M.is (List.mem_of_getElem? h1)
      rw [upd_ne (ne_of_none e hp)]
    · rw [List.getElem?_append_right (Nat.le_of_not_lt hn)] at h1
      rw [List.getElem?_append_right (by rw [← M.len]; exact Nat.le_of_not_lt hn)] at h2
      have h1' : a = p ∧ n - μ.length = 0 := by
        cases e : n - μ.length with
        | zero => rw [e] at h1; simp at h1; exact ⟨h1.symm, rfl⟩
        | succ k => rw [e] at h1; simp at h1
      rw [M.len] at h1'
      rw [h1'.2] at h2
      simp at h2
      subst h2
      rw [h1'.1]
      exact hc
theorem nodup_inj {l : List Addr} (h : l.Nodup) {i j : Nat} {a : Addr} (hi : l[i]? = some a) (hj : l[j]? = some a) : i = j := by
  obtain ⟨h1, e1⟩ := List.getElem?_eq_some_iff.mp hi
  obtain ⟨h2, e2⟩ := List.getElem?_eq_some_iff.mp hj
  exact (List.getElem_inj h).mp (e1.trans e2.symm)
theorem MOk.set (M : MOk K H μ m) {n : Nat} {p : Addr} {o u : HO} {c : Cell} (hn : μ[n]? = some p) (hp : H p = some u) (hu : isC u = true) (hc : COk K (upd H p o) μ c p) : MOk K (upd H p o) μ (m.set n c) := by
  have hm := List.mem_of_getElem? hn
  refine ⟨by simp [M.len], M.nd, fun k a d h1 h2 => ?_⟩
  by_cases hk : k = n
  · subst hk
    have hl : k < m.length := by rw [← M.len]; exact (List.getElem?_eq_some_iff.mp hn).1
    rw [List.getElem?_set_self hl] at h2
    cases h2
    rw [hn] at h1; cases h1
    exact hc
  · rw [List.getElem?_set_ne (Ne.symm hk)] at h2
    refine (M.cell k a d h1 h2).step (Step.set hm hp hu) ?_
    rw [upd_ne fun z => hk (nodup_inj M.nd h1 (by rw [z]; exact hn))]
end

/-! ### slots -/
structure EOk (K : PySem.W.Frag) (H : Hp) (μ : List Addr) (ρ : Env) (σ : St) : Prop where
  len : ρ.length = σ.length
  at_ : ∀ (i : Nat) (u : U), ρ[i]? = some (some u) → ∃ v, σ[i]? = some (some v) ∧ RU K H μ u v
section
variable {K : PySem.W.Frag} {H H' : Hp} {μ μ' : List Addr} {ρ : Env} {σ : St}
theorem EOk.mo (E : EOk K H μ ρ σ) (s : Mono K μ H μ' H') : EOk K H' μ' ρ σ := ⟨E.len, fun i u h => let ⟨v, e, r⟩ := E.at_ i u h; ⟨v, e, r.mo s⟩⟩
theorem EOk.step (E : EOk K H μ ρ σ) (s : Step K μ H μ' H') : EOk K H' μ' ρ σ := E.mo s.mono
theorem EOk.set (E : EOk K H μ ρ σ) {i : Nat} {u : U} {v : V} (r : RU K H μ u v) : EOk K H μ (ρ.set i (some u)) (σ.set i (some v)) := by
  refine ⟨by simp [E.len], fun j w h => ?_⟩
  by_cases hj : j = i
  · subst hj
    have hl : j < ρ.length := by
      have := (List.getElem?_eq_some_iff.mp h).1
      simpa using this
    rw [List.getElem?_set_self hl] at h
    cases h
    exact ⟨v, by rw [List.getElem?_set_self (by rw [← E.len]; exact hl)], r⟩
  · rw [List.getElem?_set_ne (Ne.symm hj)] at h
    obtain ⟨x, e, q⟩ := E.at_ j w h
    exact ⟨x, by rw [List.getElem?_set_ne (Ne.symm hj)]; exact e, q⟩
end

/-! ### results -/
def ExOk (K : PySem.W.Frag) (H : Hp) (μ : List Addr) (x : Ex) (d : Option Addr) : Prop := match x.val with
  | none => d = none
  | some (f, u) => ∃ (a : Addr) (v : V), d = some a ∧ H a = some (.xd [(f, v)]) ∧ RU K H μ u v
/-- what is wanted of a result, where one stands -/
def Post {α : Type} (w : W0) (W : WX) (σ : St) (μ : List Addr) (H : Hp) (r : R α) (P : List Addr → Hp → Mem → α → Prop) : Prop := match r with
  | .ok a m => ∀ μ' H', Step w.K μ H μ' H' → MOk w.K H' μ' m → P μ' H' m a
  | .err x m => ∀ μ' H' d, Step w.K μ H μ' H' → MOk w.K H' μ' m → ExOk w.K H' μ' x d → W (.ref (w.cls x.cls)) d σ H'
  | .bad => False
section
variable {w : W0} {W : WX} {σ : St} {μ μ' : List Addr} {H H' : Hp} {α β : Type}
theorem Post.from {r : R α} {P : List Addr → Hp → Mem → α → Prop} (p : Post w W σ μ H r P) (s : Step w.K μ H μ' H') : Post w W σ μ' H' r P := by
  cases r with
  | ok a m => exact fun μ2 H2 s2 M => p μ2 H2 (s.trans s2) M
  | err x m => exact fun μ2 H2 d s2 M e => p μ2 H2 d (s.trans s2) M e
  | bad => exact p
theorem Post.bind {r : R α} {k : α → Mem → R β} {P : List Addr → Hp → Mem → β → Prop} (p : Post w W σ μ H (r.bind k) P) : Post w W σ μ H r fun μ1 H1 m1 a => Post w W σ μ1 H1 (k a m1) P := by
  cases r with
  | ok a m => exact fun μ1 H1 s1 M1 => Post.from p s1
  | err x m => exact p
  | bad => exact p
theorem Post.imp {r : R α} {P P' : List Addr → Hp → Mem → α → Prop} (p : Post w W σ μ H r P) (h : ∀ μ1 H1 m1 a, Step w.K μ H μ1 H1 → MOk w.K H1 μ1 m1 → P μ1 H1 m1 a → P' μ1 H1 m1 a) : Post w W σ μ H r P' := by
  cases r with
  | ok a m => exact fun μ1 H1 s1 M1 => h _ _ _ _ s1 M1 (p μ1 H1 s1 M1)
  | err x m => exact p
  | bad => exact p
/-- the value where it stands -/
theorem Post.ok_at {a : α} {m : Mem} {P : List Addr → Hp → Mem → α → Prop} (p : Post w W σ μ H (.ok a m) P) (M : MOk w.K H μ m) : P μ H m a := p μ H .refl M
end
end Ev

set_option Elab.async false
set_option linter.all false
set_option maxRecDepth 100000
set_option maxHeartbeats 2000000
/-! Ev: expressions as functions from slots and memory to a result. -/
namespace Ev
open PySem PySem.Spec L2

abbrev XD := Env → Mem → R U
abbrev XL := Env → Mem → R (List U)
abbrev XT := Env → Mem → R Bool
def rdE (w : W0) (W : WX) (f : XD) : TE := fun σ H Q => ∃ ρ m μ, EOk w.K H μ ρ σ ∧ MOk w.K H μ m ∧ Post w W σ μ H (f ρ m) fun μ' H' _ u => ∀ v, RU w.K H' μ' u v → Q v H'
def rdL (w : W0) (W : WX) (f : XL) : TA := fun σ H Q => ∃ ρ m μ, EOk w.K H μ ρ σ ∧ MOk w.K H μ m ∧ Post w W σ μ H (f ρ m) fun μ' H' _ us => ∀ vs, RUs w.K H' μ' us vs → Q vs H'
def rdT (w : W0) (W : WX) (f : XT) : TT := fun σ H Q => ∃ ρ m μ, EOk w.K H μ ρ σ ∧ MOk w.K H μ m ∧ Post w W σ μ H (f ρ m) fun _ H' _ b => Q b H'
abbrev wX (X : Cx) (c : Nat → Addr) : W0 := ⟨X.K, c⟩
abbrev SE (X : Cx) (c : Nat → Addr) (W : WX) (e : Expr) (f : XD) : Prop := PE X e (rdE (wX X c) W f)
abbrev SL (X : Cx) (c : Nat → Addr) (W : WX) (e : List Expr) (f : XL) : Prop := PA X e (rdL (wX X c) W f)
abbrev ST (X : Cx) (c : Nat → Addr) (W : WX) (e : Expr) (f : XT) : Prop := PT X e (rdT (wX X c) W f)
section
variable {X : Cx}
theorem _root_.L2.PE.imp {e : Expr} {t t' : TE} (h : PE X e t) (i : ∀ σ H Q, t' σ H Q → t σ H Q) : PE X e t' := ⟨fun p s σ H Q I q => h.run p s σ H Q I (i _ _ _ q)⟩
theorem _root_.L2.PT.imp {e : Expr} {t t' : TT} (h : PT X e t) (i : ∀ σ H Q, t' σ H Q → t σ H Q) : PT X e t' := ⟨fun p s σ H Q I q => h.run p s σ H Q I (i _ _ _ q)⟩
theorem _root_.L2.PW.imp {e : Expr} {t t' : TT} (h : PW X e t) (i : ∀ σ H Q, t' σ H Q → t σ H Q) : PW X e t' := ⟨fun wh p s σ H Q I q => h.run wh p s σ H Q I (i _ _ _ q)⟩
theorem _root_.L2.PA.imp {e : List Expr} {t t' : TA} (h : PA X e t) (i : ∀ σ H Q, t' σ H Q → t σ H Q) : PA X e t' := ⟨fun po p s σ H Q I q => h.run po p s σ H Q I (i _ _ _ q)⟩
theorem _root_.L2.OpR.imp {f : Value → Value → Sem Value} {r r' : R2} (h : OpR X f r) (i : ∀ x y H Q, r' x y H Q → r x y H Q) : OpR X f r' := fun p s σ H x y v u Q I rx ry q => h p s σ H x y v u Q I rx ry (i _ _ _ _ q)
theorem _root_.L2.CallR.imp {f : Value} {r r' : List V → Hp → VK → Prop} (h : CallR X f r) (i : ∀ xs H Q, r' xs H Q → r xs H Q) : CallR X f r' := fun p s σ H xs us Q I rx q => h p s σ H xs us Q I rx (i _ _ _ q)
end

/-! ### operations: a value and a memory, or nothing -/
abbrev O (α : Type) := Option (α × Mem)
def ofO {α : Type} : O α → R α
  | some (a, m) => .ok a m
  | none => .bad
def PostO {α : Type} (K : PySem.W.Frag) (μ : List Addr) (H : Hp) (o : O α) (P : List Addr → Hp → Mem → α → Prop) : Prop := match o with
  | some (a, m) => ∀ μ' H', Step K μ H μ' H' → MOk K H' μ' m → P μ' H' m a
  | none => False
theorem Post.o {α : Type} {w : W0} {W : WX} {σ : L2.St} {μ : List Addr} {H : Hp} {o : O α} {P : List Addr → Hp → Mem → α → Prop} (p : Post w W σ μ H (ofO o) P) : PostO w.K μ H o P := by
  cases o with
  | none => exact p
  | some a => exact p
/-- a two-place operation's reading -/
def rd2 (K : PySem.W.Frag) (F : U → U → Mem → O U) : R2 := fun x y H Q => ∃ u1 u2 m μ, RU K H μ u1 x ∧ RU K H μ u2 y ∧ MOk K H μ m ∧ PostO K μ H (F u1 u2 m) fun μ' H' _ z => ∀ v, RU K H' μ' z v → Q v H'
def rd1 (K : PySem.W.Frag) (F : U → Mem → O U) : V → Hp → VK → Prop := fun x H Q => ∃ u1 m μ, RU K H μ u1 x ∧ MOk K H μ m ∧ PostO K μ H (F u1 m) fun μ' H' _ z => ∀ v, RU K H' μ' z v → Q v H'
def rdC (K : PySem.W.Frag) (F : List U → Mem → O U) : List V → Hp → VK → Prop := fun xs H Q => ∃ us m μ, RUs K H μ us xs ∧ MOk K H μ m ∧ PostO K μ H (F us m) fun μ' H' _ z => ∀ v, RU K H' μ' z v → Q v H'
section
variable {K : PySem.W.Frag} {μ : List Addr} {H : Hp} {m : Mem} {α : Type}
theorem PostO.here {a : α} {P : List Addr → Hp → Mem → α → Prop} (p : PostO K μ H (some (a, m)) P) (M : MOk K H μ m) : P μ H m a := p μ H .refl M
/-- a plain value, the memory as it is -/
theorem PostO.val {z : U} {v : V} {Q : VK} (p : PostO K μ H (some (z, m)) fun μ' H' _ z => ∀ v, RU K H' μ' z v → Q v H') (M : MOk K H μ m) (r : RU K H μ z v) : Q v H := p.here M v r
/-- a new tuple -/
theorem PostO.tup {us : List U} {vs : List V} {Q : VK} (p : PostO K μ H (some (.tup us, m)) fun μ' H' _ z => ∀ v, RU K H' μ' z v → Q v H') (M : MOk K H μ m) (r : RUs K H μ us vs) {a : Addr} (ha : H a = none) : Q (.ref a) (upd H a (.tup vs)) :=
  p μ _ (.newT ha) (M.newT ha) _ (.tup (SqT.of upd_same) (r.step (.newT ha)))
/-- a new list -/
theorem PostO.lst {us : List U} {vs : List V} {Q : VK} (p : PostO K μ H (some (.ref m.length, m ++ [.lst us])) fun μ' H' _ z => ∀ v, RU K H' μ' z v → Q v H') (M : MOk K H μ m) (r : RUs K H μ us vs) {a : Addr} (ha : H a = none) : Q (.ref a) (upd H a (.lst vs)) :=
  p (μ ++ [a]) _ (.newC ha) (M.newC ha ⟨vs, upd_same, r.step (.newC ha)⟩) _ (.ref (by rw [← M.len]; simp))
end
/-- the items of a list or tuple -/
def itemsOf (m : Mem) : U → Option (List U)
  | .tup us => some us
  | .rol us => some us
  | .ref n => match m[n]? with
    | some (.lst us) => some us
    | _ => none
  | _ => none
def isT : U → Bool
  | .tup _ => true
  | _ => false
section
variable {K : PySem.W.Frag} {μ : List Addr} {H : Hp} {m : Mem}
theorem rol_sq {a : Addr} {vs : List V} (h : (∃ o, H a = some (.frz o (.lst vs))) ∨ SqL K (fun _ => none) a vs) : SqL K H a vs := by
  rcases h with ⟨o, h⟩ | (h | ⟨o, h⟩) | h
  · exact .inl (.inr ⟨o, h⟩)
  · cases h
  · cases h
  · exact .inr h
theorem items_ok (M : MOk K H μ m) {u : U} {v : V} {us : List U} (r : RU K H μ u v) (h : itemsOf m u = some us) : ∃ a vs, v = .ref a ∧ (SqL K H a vs ∨ SqT K H a vs) ∧ RUs K H μ us vs ∧ (isT u = true → SqT K H a vs) ∧ (isT u = false → SqL K H a vs) := by
  cases r with
  | tup hs t => cases h; exact ⟨_, _, rfl, .inr hs, t, (fun _ => hs), (fun z => nomatch (show true = false from z))⟩
  | rol hs t => cases h; exact ⟨_, _, rfl, .inl (rol_sq hs), t, (fun z => nomatch (show false = true from z)), fun _ => rol_sq hs⟩
  | @ref n a hn =>
    cases e : m[n]? with
    | none => simp [itemsOf, e] at h
    | some c =>
      cases c with
      | lst us' =>
        simp [itemsOf, e] at h
        subst h
        obtain ⟨vs, q, t⟩ := M.cell n a _ hn e
        exact ⟨a, vs, rfl, .inl (SqL.of q), t, (fun z => nomatch (show false = true from z)), fun _ => SqL.of q⟩
      | dK _ => simp [itemsOf, e] at h
      | dT _ => simp [itemsOf, e] at h
      | dF _ => simp [itemsOf, e] at h
  | _ => cases h
end

/-! ### data -/
mutual
def datR (res : Nat → Option PyData) : U → Option PyData
  | .non => some .none
  | .bl b => some (.bool b)
  | .int i => some (.int i)
  | .str x => some (.str x)
  | .tup us => (datRL res us).map .tuple
  | .rol us => (datRL res us).map .list
  | .ref n => res n
  | .ob _ => none
def datRL (res : Nat → Option PyData) : List U → Option (List PyData)
  | [] => some []
  | u :: us => match datR res u with
    | none => none
    | some d => (datRL res us).map (d :: ·)
end
def resM (m : Mem) : Nat → Nat → Option PyData
  | 0, _ => none
  | n + 1, k => match m[k]? with
    | some (.lst us) => (datRL (resM m n) us).map .list
    | _ => none
def dat (m : Mem) (u : U) : Option PyData := datR (resM m 6) u
section
variable {K : PySem.W.Frag} {μ : List Addr} {H : Hp} {m : Mem}
mutual
theorem datR_ok {res : Nat → Option PyData} (hr : ∀ k d a, res k = some d → μ[k]? = some a → Dp K H (.ref a) d) : ∀ {u : U} {v : V} {d : PyData}, RU K H μ u v → datR res u = some d → Dp K H v d
  | _, _, _, .non, e => by cases e; exact .non
  | _, _, _, .bl b, e => by cases e; exact .bl b
  | _, _, _, .int i, e => by cases e; exact .int i
  | _, _, _, .str x, e => by cases e; exact .str x
  | .tup us, _, d, .tup h t, e => by
    rw [datR] at e
    cases q : datRL res us with
    | none => rw [q] at e; cases e
    | some ds => rw [q] at e; cases e; exact .tup h (datRL_ok hr t q)
  | .rol us, _, d, .rol h t, e => by
    rw [datR] at e
    cases q : datRL res us with
    | none => rw [q] at e; cases e
    | some ds => rw [q] at e; cases e; exact .lst (rol_sq h) (datRL_ok hr t q)
  | _, _, _, .ref h, e => hr _ _ _ e h
  | _, _, _, .ob v, e => by cases e
theorem datRL_ok {res : Nat → Option PyData} (hr : ∀ k d a, res k = some d → μ[k]? = some a → Dp K H (.ref a) d) : ∀ {us : List U} {vs : List V} {ds : List PyData}, RUs K H μ us vs → datRL res us = some ds → DpAll K H vs ds
  | _, _, _, .nil, e => by cases e; exact .nil
  | u :: us, _, ds, .cons h t, e => by
    rw [datRL] at e
    cases q : datR res u with
    | none => rw [q] at e; cases e
    | some d =>
      rw [q] at e
      cases q2 : datRL res us with
      | none => rw [q2] at e; cases e
      | some ds' => rw [q2] at e; cases e; exact .cons (datR_ok hr h q) (datRL_ok hr t q2)
end
theorem resM_ok (M : MOk K H μ m) : ∀ (n k : Nat) (d : PyData) (a : Addr), resM m n k = some d → μ[k]? = some a → Dp K H (.ref a) d
  | 0, _, _, _, e, _ => by cases e
  | n + 1, k, d, a, e, h => by
    rw [resM] at e
    cases q : m[k]? with
    | none => rw [q] at e; cases e
    | some c =>
      rw [q] at e
      cases c with
      | lst us =>
        simp only at e
        cases q2 : datRL (resM m n) us with
        | none => rw [q2] at e; cases e
        | some ds =>
          rw [q2] at e; cases e
          obtain ⟨vs, hs, t⟩ := M.cell k a _ h q
          exact .lst (SqL.of hs) (datRL_ok (resM_ok M n) t q2)
      | dK _ => cases e
      | dT _ => cases e
      | dF _ => cases e
theorem dat_ok (M : MOk K H μ m) {u : U} {v : V} {d : PyData} (r : RU K H μ u v) (e : dat m u = some d) : Dp K H v d := datR_ok (resM_ok M 6) r e
end
end Ev

set_option Elab.async false
set_option linter.all false
set_option maxRecDepth 100000
set_option maxHeartbeats 2000000
/-! Ev: operators and comparisons. -/
namespace Ev
open PySem PySem.Spec L2

/-! ### operators -/
def oAdd : U → U → Mem → O U
  | .int i, .int j, m => some (.int (i + j), m)
  | .int i, .bl k, m => some (.int (i + PyProof.Rows.b2i k), m)
  | .str x, .str y, m => if x.length + y.length ≤ sizeLine then some (.str (x ++ y), m) else none
  | .tup xs, .tup ys, m => if xs.length + ys.length ≤ sizeLine then some (.tup (xs ++ ys), m) else none
  | .ref l, .ref k, m => match m[l]?, m[k]? with
    | some (.lst xs), some (.lst ys) => if xs.length + ys.length ≤ sizeLine then some (.ref m.length, m ++ [.lst (xs ++ ys)]) else none
    | _, _ => none
  | _, _, _ => none
def oSub : U → U → Mem → O U
  | .int i, .int j, m => some (.int (i - j), m)
  | _, _, _ => none
def mulOk (i j : Int) : Bool := decide (i.natAbs < 2 ^ 64) || decide (j.natAbs < 2 ^ 64) || decide (i.natAbs.log2 + j.natAbs.log2 < 1000000)
def oMul : U → U → Mem → O U
  | .int i, .int j, m => if mulOk i j then some (.int (i * j), m) else none
  | .ref l, .int k, m => match m[l]? with
    | some (.lst xs) => if -(2 ^ 63) ≤ k ∧ k < 2 ^ 63 ∧ xs.length * k.toNat ≤ sizeLine then some (.ref m.length, m ++ [.lst (List.replicate k.toNat xs).flatten]) else none
    | _ => none
  | .tup xs, .int k, m => if 0 < xs.length ∧ xs.length ≤ 1000 ∧ 1 < k ∧ k ≤ 1000 then some (.tup (List.replicate k.toNat xs).flatten, m) else none
  | _, _, _ => none
def oDiv : U → U → Mem → O U
  | .int i, .int j, m => if 0 < j ∧ j.natAbs.log2 < 9000 then some (.int (i / j), m) else none
  | _, _, _ => none
def oMod : U → U → Mem → O U
  | .int i, .int j, m => if 0 < j then some (.int (i % j), m) else none
  | _, _, _ => none
def oPow : U → U → Mem → O U
  | .int i, .int j, m => if 0 ≤ j ∧ (Builtin.Int.intBits i : Int) * j ≤ 2 ^ 27 then some (.int (i ^ j.toNat), m) else none
  | _, _, _ => none
def oNeg : U → Mem → O U
  | .int i, m => some (.int (-i), m)
  | _, _ => none
section
variable {X : Cx}
theorem no_op {K : PySem.W.Frag} {μ : List Addr} {H : Hp} {α : Type} {P : List Addr → Hp → Mem → α → Prop} {Z : Prop} (h : PostO K μ H (none : O α) P) : Z := False.elim h
theorem x_add : OpR X (binaryOp .Add) (rd2 X.K oAdd) := by
  intro pins s σ H x y v u Q I rx ry h
  obtain ⟨u1, u2, m, μ, r1, r2, M, p⟩ := h
  unfold oAdd at p
  split at p
  · cases r1; cases r2
    exact op_add pins s σ H _ _ v u Q I rx ry ⟨_, _, rfl, rfl, p.val M (.int _)⟩
  · cases r1; cases r2
    exact op_add_ib pins s σ H _ _ v u Q I rx ry ⟨_, _, rfl, rfl, p.val M (.int _)⟩
  · cases r1; cases r2
    split at p
    · exact op_add_str pins s σ H _ _ v u Q I rx ry ⟨_, _, rfl, rfl, by assumption, p.val M (.str _)⟩
    · exact no_op p
  · cases r1 with
    | tup h1 t1 =>
      cases r2 with
      | tup h2 t2 =>
        split at p
        · rename_i hz
          refine op_catA pins s σ H _ _ v u Q I rx ry ⟨_, _, _, _, rfl, rfl, h1, h2, by rw [← t1.length, ← t2.length]; exact hz, fun e => ?_, fun _ e => ?_, fun _ _ a ha => p.tup M (t1.append t2) ha⟩
          · subst e
            cases t1
            exact p.val M (.tup h2 t2)
          · subst e
            cases t2
            refine p.val M (.tup h1 ?_)
            rw [List.append_nil]; exact t1
        · exact no_op p
  · cases r1 with
    | ref h1 =>
      cases r2 with
      | ref h2 =>
        split at p
        · rename_i xs ys e1 e2
          split at p
          · rename_i hz
            obtain ⟨vs, q1, t1⟩ := M.cell _ _ _ h1 e1
            obtain ⟨ws, q2, t2⟩ := M.cell _ _ _ h2 e2
            exact op_cat pins s σ H _ _ v u Q I rx ry ⟨_, _, _, _, rfl, rfl, q1, q2, by rw [← t1.length, ← t2.length]; exact hz, fun a ha => p.lst M (t1.append t2) ha⟩
          · exact no_op p
        · exact no_op p
  · exact no_op p
theorem x_sub : OpR X (binaryOp .Sub) (rd2 X.K oSub) := by
  intro pins s σ H x y v u Q I rx ry h
  obtain ⟨u1, u2, m, μ, r1, r2, M, p⟩ := h
  unfold oSub at p
  split at p
  · cases r1; cases r2
    exact op_sub pins s σ H _ _ v u Q I rx ry ⟨_, _, rfl, rfl, p.val M (.int _)⟩
  · exact no_op p
theorem mulOk_ok {i j : Int} (h : mulOk i j = true) : IntMulOk i j := by
  unfold mulOk at h
  rw [Bool.or_eq_true, Bool.or_eq_true] at h
  rcases h with (h | h) | h
  · have := of_decide_eq_true h; exact CMul.ok (.inl ⟨by omega, by omega⟩)
  · have := of_decide_eq_true h; exact CMul.ok (.inr ⟨by omega, by omega⟩)
  · exact CMulW.ok (show _ < 1000000 from of_decide_eq_true h)
theorem x_mul : OpR X (binaryOp .Mult) (rd2 X.K oMul) := by
  intro pins s σ H x y v u Q I rx ry h
  obtain ⟨u1, u2, m, μ, r1, r2, M, p⟩ := h
  unfold oMul at p
  split at p
  · cases r1; cases r2
    split at p
    · rename_i hz
      exact opI (C := fun i j => mulOk i j = true) (g := fun i j => i * j) (fun _ _ _ _ _ _ _ hc q => PyProof.Rows.mul_int q (mulOk_ok hc)) pins s σ H _ _ v u Q I rx ry ⟨_, _, rfl, rfl, hz, p.val M (.int _)⟩
    · exact no_op p
  · cases r1 with
    | ref h1 =>
      cases r2
      split at p
      · rename_i xs e1
        split at p
        · rename_i hz
          obtain ⟨vs, q1, t1⟩ := M.cell _ _ _ h1 e1
          exact op_rep pins s σ H _ _ v u Q I rx ry ⟨_, _, _, rfl, rfl, q1, hz.1, hz.2.1, by rw [← t1.length]; exact hz.2.2, fun a ha => p.lst M (t1.rep _) ha⟩
        · exact no_op p
      · exact no_op p
  · cases r1 with
    | tup h1 t1 =>
      cases r2
      split at p
      · rename_i hz
        exact op_repT pins s σ H _ _ v u Q I rx ry ⟨_, _, _, rfl, rfl, h1, (fun e => by subst e; have := t1.length; simp at this; simp [this] at hz), hz.2.2.1, hz.2.2.2, by have := t1.length; omega, fun a ha => p.tup M (t1.rep _) ha⟩
      · exact no_op p
  · exact no_op p
theorem x_div : OpR X (binaryOp .FloorDiv) (rd2 X.K oDiv) := by
  intro pins s σ H x y v u Q I rx ry h
  obtain ⟨u1, u2, m, μ, r1, r2, M, p⟩ := h
  unfold oDiv at p
  split at p
  · cases r1; cases r2
    split at p
    · rename_i hz
      exact op_fdivW pins s σ H _ _ v u Q I rx ry ⟨_, _, rfl, rfl, hz, p.val M (.int _)⟩
    · exact no_op p
  · exact no_op p
theorem x_mod : OpR X (binaryOp .Mod) (rd2 X.K oMod) := by
  intro pins s σ H x y v u Q I rx ry h
  obtain ⟨u1, u2, m, μ, r1, r2, M, p⟩ := h
  unfold oMod at p
  split at p
  · cases r1; cases r2
    split at p
    · rename_i hz
      exact op_mod pins s σ H _ _ v u Q I rx ry ⟨_, _, rfl, rfl, hz, p.val M (.int _)⟩
    · exact no_op p
  · exact no_op p
theorem x_pow : OpR X (binaryOp .Pow) (rd2 X.K oPow) := by
  intro pins s σ H x y v u Q I rx ry h
  obtain ⟨u1, u2, m, μ, r1, r2, M, p⟩ := h
  unfold oPow at p
  split at p
  · cases r1; cases r2
    split at p
    · rename_i hz
      exact opI (C := fun i j => 0 ≤ j ∧ (Builtin.Int.intBits i : Int) * j ≤ 2 ^ 27) (g := fun i j => i ^ j.toNat) (fun _ _ _ _ _ _ _ hc q => PyProof.Rows.pow_int hc.1 hc.2 q) pins s σ H _ _ v u Q I rx ry ⟨_, _, rfl, rfl, hz, p.val M (.int _)⟩
    · exact no_op p
  · exact no_op p
theorem x_neg : UnR X (unaryOp .USub) (rd1 X.K oNeg) := by
  intro pins s σ H x v Q I rx h
  obtain ⟨u1, m, μ, r1, M, p⟩ := h
  unfold oNeg at p
  split at p
  · cases r1
    exact un_neg pins s σ H _ v Q I rx ⟨_, rfl, p.val M (.int _)⟩
  · exact no_op p

/-! ### comparisons -/
def eqU (m : Mem) (u v : U) : Option Bool := match dat m u, dat m v with
  | some d, some e => if SeqAt.shaped d && SeqAt.shaped e then some (PyData.eqv d e) else none
  | _, _ => none
def oEq : U → U → Mem → O U := fun u v m => (eqU m u v).map fun b => (.bl b, m)
def oNe : U → U → Mem → O U := fun u v m => (eqU m u v).map fun b => (.bl (!b), m)
theorem eqU_of {m : Mem} {u v : U} {b : Bool} (h : eqU m u v = some b) : ∃ d e, dat m u = some d ∧ dat m v = some e ∧ SeqAt.shaped d = true ∧ SeqAt.shaped e = true ∧ b = PyData.eqv d e := by
  unfold eqU at h
  split at h
  · rename_i d e h1 h2
    split at h
    · rename_i hs
      rw [Bool.and_eq_true] at hs
      cases h
      exact ⟨d, e, h1, h2, hs.1, hs.2, rfl⟩
    · cases h
  · cases h
theorem x_eq (hu : X.A.units + 64 < cLine) : OpR X (compareOp .Eq) (rd2 X.K oEq) := by
  intro pins s σ H x y v u Q I rx ry h
  obtain ⟨u1, u2, m, μ, r1, r2, M, p⟩ := h
  unfold oEq at p
  cases e : eqU m u1 u2 with
  | none => rw [e] at p; exact no_op p
  | some b =>
    rw [e] at p
    obtain ⟨d, f, h1, h2, s1, s2, rfl⟩ := eqU_of e
    exact op_eqD hu pins s σ H _ _ v u Q I rx ry ⟨d, f, dat_ok M r1 h1, dat_ok M r2 h2, s1, s2, p.val M (.bl _)⟩
theorem x_ne (hu : X.A.units + 64 < cLine) : OpR X (compareOp .NotEq) (rd2 X.K oNe) := by
  intro pins s σ H x y v u Q I rx ry h
  obtain ⟨u1, u2, m, μ, r1, r2, M, p⟩ := h
  unfold oNe at p
  cases e : eqU m u1 u2 with
  | none => rw [e] at p; exact no_op p
  | some b =>
    rw [e] at p
    obtain ⟨d, f, h1, h2, s1, s2, rfl⟩ := eqU_of e
    exact op_neD hu pins s σ H _ _ v u Q I rx ry ⟨d, f, dat_ok M r1 h1, dat_ok M r2 h2, s1, s2, p.val M (.bl _)⟩
def oCmp (fi : Int → Int → Bool) (fs : List Nat → List Nat → Bool) : U → U → Mem → O U
  | .int i, .int j, m => some (.bl (fi i j), m)
  | .str x, .str y, m => some (.bl (fs x.cps.toList y.cps.toList), m)
  | _, _, _ => none
abbrev oLt := oCmp (fun i j => decide (i < j)) fun a b => decide (a < b)
abbrev oLe := oCmp (fun i j => decide (i ≤ j)) fun a b => !decide (b < a)
abbrev oGt := oCmp (fun i j => decide (j < i)) fun a b => decide (b < a)
abbrev oGe := oCmp (fun i j => decide (j ≤ i)) fun a b => !decide (a < b)
theorem x_cmp {op : CmpOp} {fi : Int → Int → Bool} {fs : List Nat → List Nat → Bool} (hi : OpR X (compareOp op) (rI0 fun i j => .bl (fi i j)))
    (hs : OpR X (compareOp op) (fun x y H Q => ∃ i j, x = .str i ∧ y = .str j ∧ Q (.bl (fs i.cps.toList j.cps.toList)) H)) : OpR X (compareOp op) (rd2 X.K (oCmp fi fs)) := by
  intro pins s σ H x y v u Q I rx ry h
  obtain ⟨u1, u2, m, μ, r1, r2, M, p⟩ := h
  unfold oCmp at p
  split at p
  · cases r1; cases r2
    exact hi pins s σ H _ _ v u Q I rx ry ⟨_, _, rfl, rfl, p.val M (.bl _)⟩
  · cases r1; cases r2
    exact hs pins s σ H _ _ v u Q I rx ry ⟨_, _, rfl, rfl, p.val M (.bl _)⟩
  · exact no_op p
theorem x_lt : OpR X (compareOp .Lt) (rd2 X.K oLt) := x_cmp op_lt op_lt_str
theorem x_le : OpR X (compareOp .LtE) (rd2 X.K oLe) := x_cmp op_le op_le_str
theorem x_gt : OpR X (compareOp .Gt) (rd2 X.K oGt) := x_cmp op_gt op_gt_str
theorem x_ge : OpR X (compareOp .GtE) (rd2 X.K oGe) := x_cmp op_ge op_ge_str
def isNon : U → Bool
  | .non => true
  | _ => false
/-- x is None -/
def oIsN : U → U → Mem → O U
  | .ob (.non), _, _ => none
  | u, .non, m => some (.bl (isNon u), m)
  | _, _, _ => none
def oNotN : U → U → Mem → O U
  | .ob (.non), _, _ => none
  | u, .non, m => some (.bl (!isNon u), m)
  | _, _, _ => none
theorem isNon_ok {K : PySem.W.Frag} {H : Hp} {μ : List Addr} {u : U} {x : V} (r : RU K H μ u x) (h : u ≠ .ob .non) : decide (x = .non) = isNon u := by
  cases r with
  | ob v =>
    have : x ≠ .non := fun e => h (by rw [e])
    rw [decide_eq_false this]; rfl
  | _ => rfl
theorem x_isN : OpR X (compareOp .Is) (rd2 X.K oIsN) := by
  intro pins s σ H x y v u Q I rx ry h
  obtain ⟨u1, u2, m, μ, r1, r2, M, p⟩ := h
  unfold oIsN at p
  split at p
  · exact no_op p
  · rename_i hn
    cases r2
    refine op_isN pins s σ H _ _ v u Q I rx ry ⟨rfl, ?_⟩
    rw [isNon_ok r1 hn]
    exact p.val M (.bl _)
  · exact no_op p
theorem x_notN : OpR X (compareOp .IsNot) (rd2 X.K oNotN) := by
  intro pins s σ H x y v u Q I rx ry h
  obtain ⟨u1, u2, m, μ, r1, r2, M, p⟩ := h
  unfold oNotN at p
  split at p
  · exact no_op p
  · rename_i hn
    cases r2
    refine op_notN pins s σ H _ _ v u Q I rx ry ⟨rfl, ?_⟩
    rw [isNon_ok r1 hn]
    exact p.val M (.bl _)
  · exact no_op p
end
end Ev

set_option Elab.async false
set_option linter.all false
set_option maxRecDepth 100000
set_option maxHeartbeats 2000000
/-! Ev: expressions. -/
namespace Ev
open PySem PySem.Spec L2

/-! ### what the pieces mean -/
def dSlot (i : Nat) : XD := fun ρ m => match ρ[i]? with
  | some (some u) => .ok u m
  | _ => .bad
def dC (u : U) : XD := fun _ m => .ok u m
def dOp (F : U → U → Mem → O U) (fa fb : XD) : XD := fun ρ m => (fa ρ m).bind fun u m1 => (fb ρ m1).bind fun v m2 => ofO (F u v m2)
def dUn (F : U → Mem → O U) (fa : XD) : XD := fun ρ m => (fa ρ m).bind fun u m1 => ofO (F u m1)
def dChain (F F' : U → U → Mem → O U) (fa fb fc : XD) : XD := fun ρ m => (fa ρ m).bind fun u m1 => (fb ρ m1).bind fun v m2 => (ofO (F u v m2)).bind fun z m3 => match z with
  | .bl true => (fc ρ m3).bind fun t m4 => ofO (F' v t m4)
  | .bl false => .ok (.bl false) m3
  | _ => .bad
/-- True or False, nothing else -/
def asB {α : Type} (z : U) (k : Bool → R α) : R α := match z with
  | .bl b => k b
  | _ => .bad
def dAnd (fa fb : XD) : XD := fun ρ m => (fa ρ m).bind fun z m1 => asB z fun b => if b then fb ρ m1 else .ok (.bl false) m1
def dOr (fa fb : XD) : XD := fun ρ m => (fa ρ m).bind fun z m1 => asB z fun b => if b then .ok (.bl true) m1 else fb ρ m1
def dNot (fa : XD) : XD := fun ρ m => (fa ρ m).bind fun z m1 => asB z fun b => .ok (.bl (!b)) m1
def dIf (t : XT) (fa fb : XD) : XD := fun ρ m => (t ρ m).bind fun b m1 => if b then fa ρ m1 else fb ρ m1
def lNil : XL := fun _ m => .ok [] m
def lCons (fa : XD) (fr : XL) : XL := fun ρ m => (fa ρ m).bind fun u m1 => (fr ρ m1).bind fun us m2 => .ok (u :: us) m2
def oTup (us : List U) (m : Mem) : O U := if us.length ≤ sizeLine then some (.tup us, m) else none
def oLst (us : List U) (m : Mem) : O U := if us.length ≤ sizeLine then some (.ref m.length, m ++ [.lst us]) else none
def dTup (fr : XL) : XD := fun ρ m => (fr ρ m).bind fun us m1 => ofO (oTup us m1)
def dLst (fr : XL) : XD := fun ρ m => (fr ρ m).bind fun us m1 => ofO (oLst us m1)
def dCall (F : List U → Mem → R U) (fr : XL) : XD := fun ρ m => (fr ρ m).bind fun us m1 => F us m1
def dB (F : List U → Mem → O U) (fr : XL) : XD := fun ρ m => (fr ρ m).bind fun us m1 => ofO (F us m1)
def pNone : Env → Mem → R (Option Int) := fun _ m => .ok none m
def pSome (fa : XD) : Env → Mem → R (Option Int) := fun ρ m => (fa ρ m).bind fun z m1 => match z with
  | .int i => .ok (some i) m1
  | _ => .bad
def cutU (xs : List U) (lo hi : Option Int) : List U := (xs.drop (HT.sIx xs.length 0 lo)).take (HT.sIx xs.length xs.length hi - HT.sIx xs.length 0 lo)
def oSlice (u : U) (lo hi : Option Int) (m : Mem) : O U := match u with
  | .tup us => some (.tup (cutU us lo hi), m)
  | .str z => if z.length ≤ sizeLine then some (.str (cutS z lo hi), m) else none
  | u => match itemsOf m u with
    | some us => some (.ref m.length, m ++ [.lst (cutU us lo hi)])
    | none => none
def dSlice (fa : XD) (lo hi : Env → Mem → R (Option Int)) : XD := fun ρ m => (fa ρ m).bind fun u m1 => (lo ρ m1).bind fun l m2 => (hi ρ m2).bind fun h m3 => ofO (oSlice u l h m3)
def oIx : U → U → Mem → O U
  | .str z, .int i, m => if z.length ≤ sizeLine then (atI z.cps.toList i).map fun c => (.str ⟨#[c]⟩, m) else none
  | u, .int i, m => match itemsOf m u with
    | some us => (atI us i).map fun x => (x, m)
    | none => none
  | _, _, _ => none
/-- truth -/
def truU (m : Mem) : U → Option Bool
  | .non => some false
  | .bl b => some b
  | .int i => some (i != 0)
  | .str z => if z.length ≤ sizeLine then some (z.length != 0) else none
  | .tup us => some (!us.isEmpty)
  | .rol us => some (!us.isEmpty)
  | .ref n => match m[n]? with
    | some (.lst us) => some (!us.isEmpty)
    | some (.dK kvs) => some (!kvs.isEmpty)
    | _ => none
  | .ob _ => none
def ofB {α : Type} (o : Option α) (m : Mem) : R α := match o with
  | some a => .ok a m
  | none => .bad
def tTru (fa : XD) : XT := fun ρ m => (fa ρ m).bind fun z m1 => ofB (truU m1 z) m1
def tBl (fa : XD) : XT := fun ρ m => (fa ρ m).bind fun z m1 => asB z fun b => .ok b m1
def tAn (t u : XT) : XT := fun ρ m => (t ρ m).bind fun b m1 => if b then u ρ m1 else .ok false m1
def tO (t u : XT) : XT := fun ρ m => (t ρ m).bind fun b m1 => if b then .ok true m1 else u ρ m1
def tN (t : XT) : XT := fun ρ m => (t ρ m).bind fun b m1 => .ok (!b) m1

/-! ### they are so -/
section
variable {X : Cx} {c : Nat → Addr} {W : WX} {a b d : Expr} {fa fb fc : XD} {ta tb : XT} {pos : Pos} {fr : XL} {es : List Expr}
theorem se_slot {i : Nat} {x : Str} {pos : Pos} (hN : X.N[i]? = some x) (hv : Vis X.env.scope x) (hd : (x == ("__debug__" : Str)) = false := by decide) (hcd : (x == ("__classdict__" : Str)) = false := by decide) : SE X c W (.Name x pos) (dSlot i) :=
  (pe_var hN hv hd hcd).imp fun σ H Q ⟨ρ, m, μ, E, M, p⟩ => by
    unfold dSlot at p
    split at p
    · rename_i u e
      obtain ⟨v, h1, h2⟩ := E.at_ i u e
      exact ⟨v, h1, p.ok_at M v h2⟩
    · exact False.elim p
theorem se_c {e : Expr} {v : V} {u : U} (h : PE X e (tC v)) (r : ∀ H μ, RU X.K H μ u v) : SE X c W e (dC u) :=
  h.imp fun σ H Q ⟨ρ, m, μ, E, M, p⟩ => p.ok_at M v (r H μ)
theorem se_int {i : Int} {j pos} : SE X c W (.Constant (.int i) j pos) (dC (.int i)) := se_c pe_int fun _ _ => .int i
theorem se_bl {i : Bool} {j pos} : SE X c W (.Constant (.bool i) j pos) (dC (.bl i)) := se_c pe_bl fun _ _ => .bl i
theorem se_non {j pos} : SE X c W (.Constant .none j pos) (dC .non) := se_c pe_non fun _ _ => .non
theorem se_str {x y : Str} {j pos} (h : x = y) : SE X c W (.Constant (.str x) j pos) (dC (.str y)) := by subst h; exact se_c pe_str fun _ _ => .str x
theorem rd2_of {F : U → U → Mem → O U} {σ : L2.St} {H : Hp} {Q : VK} {ρ : Env} {m : Mem} {μ : List Addr} (E : EOk X.K H μ ρ σ) (M : MOk X.K H μ m)
    (p : Post (wX X c) W σ μ H (dOp F fa fb ρ m) fun μ' H' _ u => ∀ v, RU X.K H' μ' u v → Q v H') : tOp (rd2 X.K F) (rdE (wX X c) W fa) (rdE (wX X c) W fb) σ H Q :=
  ⟨ρ, m, μ, E, M, p.bind.imp fun μ1 H1 m1 u s1 M1 p1 v r1 => ⟨ρ, m1, μ1, E.step s1, M1, p1.bind.imp fun μ2 H2 m2 u2 s2 M2 p2 v2 r2 => ⟨u, u2, m2, μ2, r1.step s2, r2, M2, p2.o⟩⟩⟩
theorem se_op {op : Operator} {F : U → U → Mem → O U} (ho : OpR X (binaryOp op) (rd2 X.K F)) (ha : SE X c W a fa) (hb : SE X c W b fb) : SE X c W (.BinOp a op b pos) (dOp F fa fb) :=
  (pe_op ho ha hb).imp fun σ H Q ⟨ρ, m, μ, E, M, p⟩ => rd2_of E M p
theorem se_cmp {op : CmpOp} {F : U → U → Mem → O U} (ho : OpR X (compareOp op) (rd2 X.K F)) (ha : SE X c W a fa) (hb : SE X c W b fb) (hm : behindInMarks op b = false) : SE X c W (.Compare a [op] [b] pos) (dOp F fa fb) :=
  (pe_cmpR ho ha hb hm).imp fun σ H Q ⟨ρ, m, μ, E, M, p⟩ => rd2_of E M p
theorem se_un {op : UnaryOp} {F : U → Mem → O U} (ho : UnR X (unaryOp op) (rd1 X.K F)) (ha : SE X c W a fa) : SE X c W (.UnaryOp op a pos) (dUn F fa) :=
  (pe_un ho ha).imp fun σ H Q ⟨ρ, m, μ, E, M, p⟩ => ⟨ρ, m, μ, E, M, p.bind.imp fun μ1 H1 m1 u s1 M1 p1 v r1 => ⟨u, m1, μ1, r1, M1, p1.o⟩⟩
theorem se_chain {op op' : CmpOp} {F F' : U → U → Mem → O U} (ho : OpR X (compareOp op) (rd2 X.K F)) (ho' : OpR X (compareOp op') (rd2 X.K F')) (ha : SE X c W a fa) (hb : SE X c W b fb) (hc : SE X c W d fc)
    (hm : lastMarks [op, op'] [b, d] = false := by with_unfolding_all rfl) : SE X c W (.Compare a [op, op'] [b, d] pos) (dChain F F' fa fb fc) :=
  (pe_chain ho ho' ha hb hc hm).imp fun σ H Q ⟨ρ, m, μ, E, M, p⟩ => ⟨ρ, m, μ, E, M, p.bind.imp fun μ1 H1 m1 u s1 M1 p1 v r1 => ⟨ρ, m1, μ1, E.step s1, M1, p1.bind.imp fun μ2 H2 m2 u2 s2 M2 p2 v2 r2 =>
    ⟨u, u2, m2, μ2, r1.step s2, r2, M2, by
      have q := p2.bind
      cases e : F u u2 m2 with
      | none => rw [e] at q; exact False.elim q
      | some zm =>
        obtain ⟨z, m3⟩ := zm
        rw [e] at q
        refine fun μ3 H3 s3 M3 w rw_ => ?_
        have q3 := q μ3 H3 s3 M3
        cases z with
        | bl k =>
          cases rw_
          refine ⟨k, rfl, ?_⟩
          cases k with
          | false => exact q3.ok_at M3 _ (.bl false)
          | true =>
            refine ⟨ρ, m3, μ3, ((E.step s1).step s2).step s3, M3, (Post.bind q3).imp fun μ4 H4 m4 t s4 M4 p4 v4 r4 => ?_⟩
            exact ⟨u2, t, m4, μ4, (r2.step s3).step s4, r4, M4, p4.o⟩
        | _ => exact False.elim q3⟩⟩⟩
theorem asB_post {α : Type} {w : W0} {σ : L2.St} {μ : List Addr} {H : Hp} {z : U} {k : Bool → R α} {P : List Addr → Hp → Mem → α → Prop} (p : Post w W σ μ H (asB z k) P) : ∃ b, z = .bl b ∧ Post w W σ μ H (k b) P := by
  cases z with
  | bl b => exact ⟨b, rfl, p⟩
  | _ => exact False.elim p
theorem se_one {op} (h : SE X c W a fa) : SE X c W (.BoolOp op [a] pos) fa := pe_one h
theorem se_and {rest : List Expr} (ha : SE X c W a fa) (hb : SE X c W (.BoolOp .And (b :: rest) pos) fb) : SE X c W (.BoolOp .And (a :: b :: rest) pos) (dAnd fa fb) :=
  (pe_and ha hb).imp fun σ H Q ⟨ρ, m, μ, E, M, p⟩ => ⟨ρ, m, μ, E, M, p.bind.imp fun μ1 H1 m1 u s1 M1 p1 v r1 => by
    obtain ⟨k, e, p2⟩ := asB_post p1
    subst e
    cases r1
    refine ⟨k, rfl, ?_⟩
    cases k with
    | true => exact ⟨ρ, m1, μ1, E.step s1, M1, p2⟩
    | false => exact p2.ok_at M1 _ (.bl false)⟩
theorem se_or {rest : List Expr} (ha : SE X c W a fa) (hb : SE X c W (.BoolOp .Or (b :: rest) pos) fb) : SE X c W (.BoolOp .Or (a :: b :: rest) pos) (dOr fa fb) :=
  (pe_or ha hb).imp fun σ H Q ⟨ρ, m, μ, E, M, p⟩ => ⟨ρ, m, μ, E, M, p.bind.imp fun μ1 H1 m1 u s1 M1 p1 v r1 => by
    obtain ⟨k, e, p2⟩ := asB_post p1
    subst e
    cases r1
    refine ⟨k, rfl, ?_⟩
    cases k with
    | false => exact ⟨ρ, m1, μ1, E.step s1, M1, p2⟩
    | true => exact p2.ok_at M1 _ (.bl true)⟩
theorem se_not (ha : SE X c W a fa) : SE X c W (.UnaryOp .Not a pos) (dNot fa) :=
  (pe_not ha).imp fun σ H Q ⟨ρ, m, μ, E, M, p⟩ => ⟨ρ, m, μ, E, M, p.bind.imp fun μ1 H1 m1 u s1 M1 p1 v r1 => by
    obtain ⟨k, e, p2⟩ := asB_post p1
    subst e
    cases r1
    exact ⟨k, rfl, p2.ok_at M1 _ (.bl _)⟩⟩
theorem se_if (ht : ST X c W d ta) (ha : SE X c W a fa) (hb : SE X c W b fb) : SE X c W (.IfExp d a b pos) (dIf ta fa fb) :=
  (pe_ifExp ht ha hb).imp fun σ H Q ⟨ρ, m, μ, E, M, p⟩ => ⟨ρ, m, μ, E, M, p.bind.imp fun μ1 H1 m1 k s1 M1 p1 => by
    cases k with
    | true => exact ⟨ρ, m1, μ1, E.step s1, M1, p1⟩
    | false => exact ⟨ρ, m1, μ1, E.step s1, M1, p1⟩⟩
theorem sl_nil : SL X c W [] lNil := pa_nil.imp fun σ H Q ⟨ρ, m, μ, E, M, p⟩ => p.ok_at M _ .nil
theorem sl_cons (ha : SE X c W a fa) (hr : SL X c W es fr) (hs : starEach (a :: es) X.env = (false, eval a X.env) :: starEach es X.env := by rfl) : SL X c W (a :: es) (lCons fa fr) :=
  (pa_cons ha hr hs).imp fun σ H Q ⟨ρ, m, μ, E, M, p⟩ => ⟨ρ, m, μ, E, M, p.bind.imp fun μ1 H1 m1 u s1 M1 p1 v r1 => ⟨ρ, m1, μ1, E.step s1, M1, p1.bind.imp fun μ2 H2 m2 us s2 M2 p2 vs rs =>
    p2.ok_at M2 _ (.cons (r1.step s2) rs)⟩⟩
theorem se_tup {x1} (h : SL X c W es fr) : SE X c W (.Tuple es x1 pos) (dTup fr) :=
  (pe_tup h).imp fun σ H Q ⟨ρ, m, μ, E, M, p⟩ => ⟨ρ, m, μ, E, M, p.bind.imp fun μ1 H1 m1 us s1 M1 p1 vs rs => by
    have q := p1.o
    unfold oTup at q
    split at q
    · rename_i hz
      exact ⟨by rw [← rs.length]; exact hz, fun a ha => q.tup M1 rs ha⟩
    · exact no_op q⟩
theorem se_lst (h : SL X c W es fr) : SE X c W (.List es pos) (dLst fr) :=
  (pe_lst h).imp fun σ H Q ⟨ρ, m, μ, E, M, p⟩ => ⟨ρ, m, μ, E, M, p.bind.imp fun μ1 H1 m1 us s1 M1 p1 vs rs => by
    have q := p1.o
    unfold oLst at q
    split at q
    · rename_i hz
      exact ⟨by rw [← rs.length]; exact hz, fun a ha => q.lst M1 rs ha⟩
    · exact no_op q⟩
theorem atI_u {K : PySem.W.Frag} {H : Hp} {μ : List Addr} {us : List U} {vs : List V} {i : Int} {x : U} (r : RUs K H μ us vs) (h : atI us i = some x) : ∃ v, atI vs i = some v ∧ RU K H μ x v := by
  unfold atI at h ⊢
  rw [← r.length]
  cases e : ixN us.length i with
  | none => rw [e] at h; cases h
  | some j =>
    rw [e] at h
    obtain ⟨v, h1, h2⟩ := r.get (i := j) (u := x) h
    exact ⟨v, h1, h2⟩
theorem x_ix : IxR X (rd2 X.K oIx) := by
  intro value slice pins s σ H x y v u Q I rx ry h hs
  obtain ⟨u1, u2, m, μ, r1, r2, M, p⟩ := h
  unfold oIx at p
  split at p
  · cases r1; cases r2
    split at p
    · rename_i hz
      cases e : atI _ _ with
      | none => rw [e] at p; exact no_op p
      | some k =>
        rw [e] at p
        exact ix_str value slice pins s σ H _ _ v u Q I rx ry ⟨_, _, k, rfl, rfl, hz, e, p.val M (.str _)⟩ hs
    · exact no_op p
  · cases r2
    split at p
    · rename_i us e1
      cases e : atI us _ with
      | none => rw [e] at p; exact no_op p
      | some k =>
        rw [e] at p
        obtain ⟨a, vs, rfl, hq, t, _, _⟩ := items_ok M r1 e1
        obtain ⟨z, h1, h2⟩ := atI_u t e
        rcases hq with hq | hq
        · exact ix_list value slice pins s σ H _ _ v u Q I rx ry ⟨_, _, _, z, rfl, rfl, hq, h1, p.val M h2⟩ hs
        · exact ix_tup value slice pins s σ H _ _ v u Q I rx ry ⟨_, _, _, z, rfl, rfl, hq, h1, p.val M h2⟩ hs
    · exact no_op p
  · exact no_op p
theorem se_ix (ha : SE X c W a fa) (hb : SE X c W b fb) (hs : PlainIx b) : SE X c W (.Subscript a b pos) (dOp oIx fa fb) :=
  (pe_ix x_ix ha hb hs).imp fun σ H Q ⟨ρ, m, μ, E, M, p⟩ => rd2_of E M p
/-! slices -/
def rdP (w : W0) (W : WX) (f : Env → Mem → R (Option Int)) : TO := fun σ H Q => ∃ ρ m μ, EOk w.K H μ ρ σ ∧ MOk w.K H μ m ∧ Post w W σ μ H (f ρ m) fun _ H' _ o => Q o H'
abbrev SP (X : Cx) (c : Nat → Addr) (W : WX) (e : Option Expr) (f : Env → Mem → R (Option Int)) : Prop := PO X e (rdP (wX X c) W f)
theorem _root_.L2.PO.imp {e : Option Expr} {t t' : TO} (h : PO X e t) (i : ∀ σ H Q, t' σ H Q → t σ H Q) : PO X e t' := ⟨fun p s σ H Q I q => h.run p s σ H Q I (i _ _ _ q)⟩
theorem sp_none : SP X c W none pNone := L2.PO.imp po_none fun σ H Q ⟨ρ, m, μ, E, M, p⟩ => p.ok_at M
theorem sp_some (h : SE X c W a fa) : SP X c W (some a) (pSome fa) := L2.PO.imp (po_some h) fun σ H Q ⟨ρ, m, μ, E, M, p⟩ => ⟨ρ, m, μ, E, M, p.bind.imp fun μ1 H1 m1 u s1 M1 p1 v r1 => by
  cases r1 with
  | int i => exact ⟨i, rfl, p1.ok_at M1⟩
  | _ => exact False.elim p1⟩
theorem cutU_ok {K : PySem.W.Frag} {H : Hp} {μ : List Addr} {us : List U} {vs : List V} (r : RUs K H μ us vs) (lo hi : Option Int) : RUs K H μ (cutU us lo hi) (cutV vs lo hi) := by
  unfold cutU cutV
  rw [← r.length]
  exact (r.drop _).take _
def rdSl (K : PySem.W.Frag) : V → Option Int → Option Int → Hp → VK → Prop := fun x lo hi H Q => ∃ u m μ, RU K H μ u x ∧ MOk K H μ m ∧ PostO K μ H (oSlice u lo hi m) fun μ' H' _ z => ∀ v, RU K H' μ' z v → Q v H'
theorem sIx_whole {n : Nat} {lo hi : Option Int} {α : Type} {xs : List α} (hn : xs.length = n) (h : HT.sIx n 0 lo = 0 ∧ HT.sIx n n hi = n) : (xs.drop (HT.sIx n 0 lo)).take (HT.sIx n n hi - HT.sIx n 0 lo) = xs := by
  rw [h.1, h.2, List.drop_zero, Nat.sub_zero, ← hn, List.take_length]
theorem x_slice : SlR X (rdSl X.K) := by
  intro pins s σ H x v vl vu lo hi sl Q I rx hs pl pu h
  obtain ⟨u, m, μ, r1, M, p⟩ := h
  unfold oSlice at p
  split at p
  · cases r1 with
    | tup hq t =>
      refine sl_tupA pins s σ H _ v vl vu lo hi sl Q I rx hs pl pu ⟨_, _, rfl, hq, fun hw => p.val M (.tup hq ?_), fun _ a ha => p.tup M (cutU_ok t lo hi) ha⟩
      rw [← t.length] at hw
      rw [cutU, sIx_whole rfl hw]
      exact t
  · cases r1
    split at p
    · rename_i hz
      exact sl_str pins s σ H _ v vl vu lo hi sl Q I rx hs pl pu ⟨_, rfl, hz, p.val M (.str _)⟩
    · exact no_op p
  · rename_i hn1 hn2
    split at p
    · rename_i us e1
      obtain ⟨a, vs, rfl, hq, t, _, h3⟩ := items_ok M r1 e1
      have hT : isT u = false := by
        cases u with
        | tup us => exact absurd rfl (hn1 us)
        | _ => rfl
      exact sl_list pins s σ H _ v vl vu lo hi sl Q I rx hs pl pu ⟨_, _, rfl, h3 hT, fun a ha => p.lst M (cutU_ok t lo hi) ha⟩
    · exact no_op p
theorem se_slice {lo hi : Option Expr} {fl fh : Env → Mem → R (Option Int)} {p2 : Pos} (he : SE X c W a fa) (hl : SP X c W lo fl) (hu : SP X c W hi fh) : SE X c W (.Subscript a (.Slice lo hi none p2) pos) (dSlice fa fl fh) :=
  (pe_slice x_slice he hl hu).imp fun σ H Q ⟨ρ, m, μ, E, M, p⟩ => ⟨ρ, m, μ, E, M, p.bind.imp fun μ1 H1 m1 u s1 M1 p1 v r1 => ⟨ρ, m1, μ1, E.step s1, M1, p1.bind.imp fun μ2 H2 m2 l s2 M2 p2 =>
    ⟨ρ, m2, μ2, (E.step s1).step s2, M2, p2.bind.imp fun μ3 H3 m3 h s3 M3 p3 => ⟨u, m3, μ3, (r1.step s2).step s3, M3, p3.o⟩⟩⟩⟩
/-! tests -/
theorem tru_u {K : PySem.W.Frag} {H : Hp} {μ : List Addr} {m : Mem} (M : MOk K H μ m) {u : U} {v : V} {k : Bool} (r : RU K H μ u v) (h : truU m u = some k) : TruV K v H k := by
  cases r with
  | non => cases h; rfl
  | bl b => cases h; rfl
  | int i => cases h; rfl
  | str x =>
    rw [truU] at h
    split at h
    · rename_i hz
      cases h
      refine ⟨hz, ?_⟩
      rw [Bool.eq_iff_iff]; simp
    · cases h
  | tup hq t =>
    cases h
    refine .inr (.inl ⟨_, hq, ?_⟩)
    cases t <;> rfl
  | rol hq t =>
    cases h
    refine .inl ⟨_, rol_sq hq, ?_⟩
    cases t <;> rfl
  | @ref n a hn =>
    rw [truU] at h
    split at h
    · rename_i us e
      cases h
      obtain ⟨vs, q, t⟩ := M.cell n a _ hn e
      refine .inl ⟨vs, SqL.of q, ?_⟩
      cases t <;> rfl
    · rename_i kvs e
      cases h
      obtain ⟨vs, q, t⟩ := M.cell n a _ hn e
      refine .inr (.inr ⟨vs, q, ?_⟩)
      cases t <;> rfl
    · cases h
  | ob v => cases h
theorem st_tru (ha : SE X c W a fa) (he : ∀ whole, isTrue a X.env whole = (do let v ← whole; standAt a.pos; holding [v] (truthy v))) : ST X c W a (tTru fa) :=
  (pt_truth ha he).imp fun σ H Q ⟨ρ, m, μ, E, M, p⟩ => ⟨ρ, m, μ, E, M, p.bind.imp fun μ1 H1 m1 u s1 M1 p1 v r1 => by
    cases e : truU m1 u with
    | none => rw [e] at p1; exact False.elim p1
    | some k =>
      rw [e] at p1
      exact ⟨k, tru_u M1 r1 e, p1.ok_at M1⟩⟩
theorem st_bl (ha : SE X c W a fa) (he : ∀ whole, isTrue a X.env whole = (do let v ← whole; standAt a.pos; holding [v] (truthy v)) := by intro _; rfl) : ST X c W a (tBl fa) :=
  (pt_val ha he).imp fun σ H Q ⟨ρ, m, μ, E, M, p⟩ => ⟨ρ, m, μ, E, M, p.bind.imp fun μ1 H1 m1 u s1 M1 p1 v r1 => by
    obtain ⟨k, e, p2⟩ := asB_post p1
    subst e
    cases r1
    exact ⟨k, rfl, p2.ok_at M1⟩⟩
theorem rdB_of {t : TE} {f : XD} (h : ∀ σ H Q, rdE (wX X c) W f σ H Q → t σ H Q) {σ : L2.St} {H : Hp} {Q : Bool → Hp → Prop} (q : rdT (wX X c) W (tBl f) σ H Q) : tTest t σ H Q := by
  obtain ⟨ρ, m, μ, E, M, p⟩ := q
  refine h σ H _ ⟨ρ, m, μ, E, M, p.bind.imp fun μ1 H1 m1 u s1 M1 p1 v r1 => ?_⟩
  obtain ⟨k, e, p2⟩ := asB_post p1
  subst e
  cases r1
  exact ⟨k, rfl, p2.ok_at M1⟩
theorem st_cmp {op : CmpOp} {F : U → U → Mem → O U} (ho : OpR X (compareOp op) (rd2 X.K F)) (ha : SE X c W a fa) (hb : SE X c W b fb) (hm : behindInMarks op b = false) : ST X c W (.Compare a [op] [b] pos) (tBl (dOp F fa fb)) :=
  (pt_cmpR ho ha hb hm).imp fun σ H Q q => rdB_of (fun σ H Q ⟨ρ, m, μ, E, M, p⟩ => rd2_of E M p) q
theorem chain_of {F F' : U → U → Mem → O U} {σ : L2.St} {H : Hp} {Q : VK} (h : rdE (wX X c) W (dChain F F' fa fb fc) σ H Q) : tChain (rd2 X.K F) (rd2 X.K F') (rdE (wX X c) W fa) (rdE (wX X c) W fb) (rdE (wX X c) W fc) σ H Q := by
  obtain ⟨ρ, m, μ, E, M, p⟩ := h
  exact ⟨ρ, m, μ, E, M, p.bind.imp fun μ1 H1 m1 u s1 M1 p1 v r1 => ⟨ρ, m1, μ1, E.step s1, M1, p1.bind.imp fun μ2 H2 m2 u2 s2 M2 p2 v2 r2 =>
    ⟨u, u2, m2, μ2, r1.step s2, r2, M2, by
      have q := p2.bind
      cases e : F u u2 m2 with
      | none => rw [e] at q; exact False.elim q
      | some zm =>
        obtain ⟨z, m3⟩ := zm
        rw [e] at q
        refine fun μ3 H3 s3 M3 w rw_ => ?_
        have q3 := q μ3 H3 s3 M3
        cases z with
        | bl k =>
          cases rw_
          refine ⟨k, rfl, ?_⟩
          cases k with
          | false => exact q3.ok_at M3 _ (.bl false)
          | true =>
            refine ⟨ρ, m3, μ3, ((E.step s1).step s2).step s3, M3, (Post.bind q3).imp fun μ4 H4 m4 t s4 M4 p4 v4 r4 => ?_⟩
            exact ⟨u2, t, m4, μ4, (r2.step s3).step s4, r4, M4, p4.o⟩
        | _ => exact False.elim q3⟩⟩⟩
theorem st_chain {op op' : CmpOp} {F F' : U → U → Mem → O U} (ho : OpR X (compareOp op) (rd2 X.K F)) (ho' : OpR X (compareOp op') (rd2 X.K F')) (ha : SE X c W a fa) (hb : SE X c W b fb) (hc : SE X c W d fc)
    (hm : lastMarks [op, op'] [b, d] = false := by with_unfolding_all rfl) : ST X c W (.Compare a [op, op'] [b, d] pos) (tBl (dChain F F' fa fb fc)) :=
  (pt_chain ho ho' ha hb hc hm).imp fun σ H Q q => rdB_of (fun σ H Q h => chain_of h) q
theorem st_not (ha : ST X c W a ta) : ST X c W (.UnaryOp .Not a pos) (tN ta) :=
  (pt_not ha).imp fun σ H Q ⟨ρ, m, μ, E, M, p⟩ => ⟨ρ, m, μ, E, M, p.bind.imp fun μ1 H1 m1 k s1 M1 p1 => p1.ok_at M1⟩
abbrev SW (X : Cx) (c : Nat → Addr) (W : WX) (e : Expr) (f : XT) : Prop := PW X e (rdT (wX X c) W f)
theorem sw_and1 (ha : ST X c W a ta) : SW X c W (.BoolOp .And [a] pos) ta := pw_and1 ha
theorem sw_or1 (ha : ST X c W a ta) : SW X c W (.BoolOp .Or [a] pos) ta := pw_or1 ha
theorem sw_and {rest : List Expr} (ha : ST X c W a ta) (hb : SW X c W (.BoolOp .And (b :: rest) pos) tb) : SW X c W (.BoolOp .And (a :: b :: rest) pos) (tAn ta tb) :=
  (pw_and ha hb).imp fun σ H Q ⟨ρ, m, μ, E, M, p⟩ => ⟨ρ, m, μ, E, M, p.bind.imp fun μ1 H1 m1 k s1 M1 p1 => by
    cases k with
    | true => exact ⟨ρ, m1, μ1, E.step s1, M1, p1⟩
    | false => exact p1.ok_at M1⟩
theorem sw_or {rest : List Expr} (ha : ST X c W a ta) (hb : SW X c W (.BoolOp .Or (b :: rest) pos) tb) : SW X c W (.BoolOp .Or (a :: b :: rest) pos) (tO ta tb) :=
  (pw_or ha hb).imp fun σ H Q ⟨ρ, m, μ, E, M, p⟩ => ⟨ρ, m, μ, E, M, p.bind.imp fun μ1 H1 m1 k s1 M1 p1 => by
    cases k with
    | false => exact ⟨ρ, m1, μ1, E.step s1, M1, p1⟩
    | true => exact p1.ok_at M1⟩
theorem st_w (h : SW X c W a ta) : ST X c W a ta := h.pt
end
end Ev

set_option Elab.async false
set_option linter.all false
set_option maxRecDepth 100000
set_option maxHeartbeats 2000000
/-! Ev: statements. -/
namespace Ev
open PySem PySem.Spec L2

inductive Fl where
  | nx | rt (u : U) | bk | ct
inductive RS where
  | ok (f : Fl) (ρ : Env) (m : Mem) | err (x : Ex) (ρ : Env) (m : Mem) | bad
abbrev SD := Env → Mem → RS
def PostS (w : W0) (W : WX) (μ : List Addr) (H : Hp) (r : RS) (D : Ends) : Prop := match r with
  | .ok f ρ' m' => ∀ μ' H' σ', Step w.K μ H μ' H' → MOk w.K H' μ' m' → EOk w.K H' μ' ρ' σ' → match f with
    | .nx => D.nx σ' H'
    | .bk => D.bk σ' H'
    | .ct => D.ct σ' H'
    | .rt u => ∀ v, RU w.K H' μ' u v → D.rt v H'
  | .err x ρ' m' => ∀ μ' H' σ' d, Step w.K μ H μ' H' → MOk w.K H' μ' m' → EOk w.K H' μ' ρ' σ' → ExOk w.K H' μ' x d → W (.ref (w.cls x.cls)) d σ' H'
  | .bad => False
def rdS (w : W0) (W : WX) (f : SD) : TS := fun D σ H => ∃ ρ m μ, EOk w.K H μ ρ σ ∧ MOk w.K H μ m ∧ PostS w W μ H (f ρ m) D
abbrev SS (X : Cx) (c : Nat → Addr) (W : WX) (s : Stmt) (f : SD) : Prop := PS X s (rdS (wX X c) W f)
abbrev SB (X : Cx) (c : Nat → Addr) (W : WX) (s : List Stmt) (f : SD) : Prop := PSs X s (rdS (wX X c) W f)
theorem _root_.L2.PS.imp {X : Cx} {e : Stmt} {t t' : TS} (h : PS X e t) (i : ∀ D σ H, t' D σ H → t D σ H) : PS X e t' := ⟨fun p s σ H D I q => h.run p s σ H D I (i _ _ _ q)⟩
theorem _root_.L2.PSs.imp {X : Cx} {e : List Stmt} {t t' : TS} (h : PSs X e t) (i : ∀ D σ H, t' D σ H → t D σ H) : PSs X e t' := ⟨fun p s σ H D I q => h.run p s σ H D I (i _ _ _ q)⟩
/-- an expression's result, what follows it -/
def thenE {α : Type} (r : R α) (ρ : Env) (k : α → Mem → RS) : RS := match r with
  | .ok a m => k a m
  | .err x m => .err x ρ m
  | .bad => .bad
def thenO {α : Type} (r : O α) (k : α → Mem → RS) : RS := match r with
  | some (a, m) => k a m
  | none => .bad
def thenS (r : RS) (k : Env → Mem → RS) : RS := match r with
  | .ok .nx ρ m => k ρ m
  | .ok f ρ m => .ok f ρ m
  | .err x ρ m => .err x ρ m
  | .bad => .bad
section
variable {w : W0} {W : WX} {σ : L2.St} {μ μ' : List Addr} {H H' : Hp} {α β : Type}
theorem PostS.from {r : RS} {D : Ends} (p : PostS w W μ H r D) (s : Step w.K μ H μ' H') : PostS w W μ' H' r D := by
  cases r with
  | ok f ρ m => exact fun μ2 H2 σ2 s2 M E => p μ2 H2 σ2 (s.trans s2) M E
  | err x ρ m => exact fun μ2 H2 σ2 d s2 M E e => p μ2 H2 σ2 d (s.trans s2) M E e
  | bad => exact p
theorem PostS.thenE {r : R α} {ρ : Env} {k : α → Mem → RS} {D : Ends} (E : EOk w.K H μ ρ σ) (p : PostS w W μ H (thenE r ρ k) D) : Post w W σ μ H r fun μ1 H1 m1 a => PostS w W μ1 H1 (k a m1) D := by
  cases r with
  | ok a m => exact fun μ1 H1 s1 M1 => PostS.from p s1
  | err x m => exact fun μ1 H1 d s1 M1 e => p μ1 H1 σ d s1 M1 (E.step s1) e
  | bad => exact p
theorem PostS.thenO {r : O α} {k : α → Mem → RS} {D : Ends} (p : PostS w W μ H (thenO r k) D) : PostO w.K μ H r fun μ1 H1 m1 a => PostS w W μ1 H1 (k a m1) D := by
  cases r with
  | none => exact p
  | some a => obtain ⟨a, m⟩ := a; exact fun μ1 H1 s1 M1 => PostS.from p s1
theorem PostS.thenS {r : RS} {k : Env → Mem → RS} {D : Ends} (p : PostS w W μ H (thenS r k) D) : PostS w W μ H r { D with nx := rdS w W (fun ρ m => k ρ m) D } := by
  cases r with
  | ok f ρ m =>
    cases f with
    | nx => exact fun μ1 H1 σ1 s1 M1 E1 => ⟨ρ, m, μ1, E1, M1, PostS.from p s1⟩
    | rt u => exact p
    | bk => exact p
    | ct => exact p
  | err x ρ m => exact p
  | bad => exact p
theorem PostS.nx {ρ : Env} {m : Mem} {D : Ends} (p : PostS w W μ H (.ok .nx ρ m) D) (M : MOk w.K H μ m) {σ : L2.St} (E : EOk w.K H μ ρ σ) : D.nx σ H := p μ H σ .refl M E
theorem PostS.imp {r : RS} {D D' : Ends} (p : PostS w W μ H r D) (h1 : ∀ σ H, D.nx σ H → D'.nx σ H) (h2 : ∀ σ H, D.bk σ H → D'.bk σ H) (h3 : ∀ σ H, D.ct σ H → D'.ct σ H) (h4 : ∀ v H, D.rt v H → D'.rt v H) : PostS w W μ H r D' := by
  cases r with
  | ok f ρ m =>
    cases f with
    | nx => exact fun μ1 H1 σ1 s1 M1 E1 => h1 _ _ (p μ1 H1 σ1 s1 M1 E1)
    | bk => exact fun μ1 H1 σ1 s1 M1 E1 => h2 _ _ (p μ1 H1 σ1 s1 M1 E1)
    | ct => exact fun μ1 H1 σ1 s1 M1 E1 => h3 _ _ (p μ1 H1 σ1 s1 M1 E1)
    | rt u => exact fun μ1 H1 σ1 s1 M1 E1 v r => h4 _ _ (p μ1 H1 σ1 s1 M1 E1 v r)
  | err x ρ m => exact p
  | bad => exact p
end

/-! ### what they mean -/
def sNext : SD := fun ρ m => .ok .nx ρ m
def sBreak : SD := fun ρ m => .ok .bk ρ m
def sCont : SD := fun ρ m => .ok .ct ρ m
def sExpr (f : XD) : SD := fun ρ m => thenE (f ρ m) ρ fun _ m1 => .ok .nx ρ m1
def sRet (f : XD) : SD := fun ρ m => thenE (f ρ m) ρ fun u m1 => .ok (.rt u) ρ m1
def sRetN : SD := fun ρ m => .ok (.rt .non) ρ m
def sSeq (a b : SD) : SD := fun ρ m => thenS (a ρ m) b
def sIf (t : XT) (a b : SD) : SD := fun ρ m => thenE (t ρ m) ρ fun k m1 => if k then a ρ m1 else b ρ m1
/-- targets -/
abbrev GD := U → Env → Mem → O Env
abbrev GL := List U → Env → Mem → O Env
def gName (i : Nat) : GD := fun u ρ m => some (ρ.set i (some u), m)
def gNil : GL := fun us ρ m => match us with
  | [] => some (ρ, m)
  | _ => none
def gCons (g : GD) (gs : GL) : GL := fun us ρ m => match us with
  | [] => none
  | u :: r => match g u ρ m with
    | some (ρ1, m1) => gs r ρ1 m1
    | none => none
def gTup (n : Nat) (gs : GL) : GD := fun u ρ m => match u with
  | .tup us => if us.length = n then gs us ρ m else none
  | _ => none
def toO {α : Type} : R α → O α
  | .ok a m => some (a, m)
  | _ => none
/-- a store at a place: the object, the index, the value -/
def gSub (S : U → U → U → Mem → O Unit) (fo fi : XD) : GD := fun u ρ m => match toO (fo ρ m) with
  | some (o, m1) => match toO (fi ρ m1) with
    | some (i, m2) => (S o i u m2).map fun x => (ρ, x.2)
    | none => none
  | none => none
def oSetL : U → U → U → Mem → O Unit := fun o i v m => match o, i with
  | .ref n, .int k => match m[n]? with
    | some (.lst us) => (ixN us.length k).map fun j => ((), m.set n (.lst (us.set j v)))
    | _ => none
  | _, _ => none
def sAsg (f : XD) (g : GD) : SD := fun ρ m => thenE (f ρ m) ρ fun u m1 => thenO (g u ρ m1) fun ρ1 m2 => .ok .nx ρ1 m2
def sPar (i j : Nat) (f : XL) : SD := fun ρ m => thenE (f ρ m) ρ fun us m1 => match us with
  | [u, v] => .ok .nx ((ρ.set i (some u)).set j (some v)) m1
  | _ => .bad
def sAug (i : Nat) (F : U → U → Mem → O U) (f : XD) : SD := fun ρ m => match ρ[i]? with
  | some (some u) => thenE (f ρ m) ρ fun v m1 => thenO (F u v m1) fun z m2 => .ok .nx (ρ.set i (some z)) m2
  | _ => .bad

/-! ### they are so -/
section
variable {X : Cx} {c : Nat → Addr} {W : WX} {e : Expr} {f : XD} {t : XT} {pos : Pos} {st : Stmt} {rest A B : List Stmt} {sa sb : SD}
theorem sb_nil : SB X c W [] sNext := pss_nil.imp fun D σ H ⟨ρ, m, μ, E, M, p⟩ => p.nx M E
theorem sb_cons (h1 : SS X c W st sa) (h2 : SB X c W rest sb) : SB X c W (st :: rest) (sSeq sa sb) := (pss_cons h1 h2).imp fun D σ H ⟨ρ, m, μ, E, M, p⟩ => ⟨ρ, m, μ, E, M, p.thenS⟩
theorem sb_one (h1 : SS X c W st sa) : SB X c W [st] sa := pss_one h1
theorem ss_pass : SS X c W (.Pass pos) sNext := ps_pass.imp fun D σ H ⟨ρ, m, μ, E, M, p⟩ => p.nx M E
theorem ss_break : SS X c W (.Break pos) sBreak := ps_break.imp fun D σ H ⟨ρ, m, μ, E, M, p⟩ => p μ H σ .refl M E
theorem ss_cont : SS X c W (.Continue pos) sCont := ps_continue.imp fun D σ H ⟨ρ, m, μ, E, M, p⟩ => p μ H σ .refl M E
theorem ss_doc {x j pos pos'} : SS X c W (.Expr (.Constant (.str x) j pos) pos') sNext := ps_doc.imp fun D σ H ⟨ρ, m, μ, E, M, p⟩ => p.nx M E
theorem ss_expr (he : SE X c W e f) (hs : swapsWith e none pos.line X.env = pure false := by rfl) : SS X c W (.Expr e pos) (sExpr f) :=
  (ps_expr he hs).imp fun D σ H ⟨ρ, m, μ, E, M, p⟩ => ⟨ρ, m, μ, E, M, (PostS.thenE E p).imp fun μ1 H1 m1 u s1 M1 p1 v r => p1.nx M1 (E.step s1)⟩
theorem ss_ret (he : SE X c W e f) : SS X c W (.Return (some e) pos) (sRet f) :=
  (ps_ret he).imp fun D σ H ⟨ρ, m, μ, E, M, p⟩ => ⟨ρ, m, μ, E, M, (PostS.thenE E p).imp fun μ1 H1 m1 u s1 M1 p1 v r => p1 μ1 H1 σ .refl M1 (E.step s1) v r⟩
theorem ss_retN : SS X c W (.Return none pos) sRetN := ps_retN.imp fun D σ H ⟨ρ, m, μ, E, M, p⟩ => p μ H σ .refl M E _ .non
theorem ss_if {d : Expr} (hc : ST X c W d t) (ha : SB X c W A sa) (hb : SB X c W B sb) : SS X c W (.If d A B pos) (sIf t sa sb) :=
  (ps_if hc ha hb).imp fun D σ H ⟨ρ, m, μ, E, M, p⟩ => ⟨ρ, m, μ, E, M, (PostS.thenE E p).imp fun μ1 H1 m1 k s1 M1 p1 => by
    cases k with
    | true => exact ⟨ρ, m1, μ1, E.step s1, M1, p1⟩
    | false => exact ⟨ρ, m1, μ1, E.step s1, M1, p1⟩⟩
/-! targets -/
def rdG (K : PySem.W.Frag) (g : GD) : TG := fun v σ H Q => ∃ u ρ m μ, RU K H μ u v ∧ EOk K H μ ρ σ ∧ MOk K H μ m ∧ PostO K μ H (g u ρ m) fun μ' H' _ ρ' => ∀ σ', EOk K H' μ' ρ' σ' → Q σ' H'
def rdGs (K : PySem.W.Frag) (g : GL) : TGs := fun vs σ H Q => ∃ us ρ m μ, RUs K H μ us vs ∧ EOk K H μ ρ σ ∧ MOk K H μ m ∧ PostO K μ H (g us ρ m) fun μ' H' _ ρ' => ∀ σ', EOk K H' μ' ρ' σ' → Q σ' H'
abbrev SG (X : Cx) (tg : Expr) (g : GD) : Prop := PG X tg (rdG X.K g)
abbrev SGs (X : Cx) (tg : List Expr) (g : GL) : Prop := PGs X tg (rdGs X.K g)
theorem _root_.L2.PG.imp {X : Cx} {e : Expr} {t t' : TG} (h : PG X e t) (i : ∀ v σ H Q, t' v σ H Q → t v σ H Q) : PG X e t' := ⟨fun p s σ H v u Q I r q => h.run p s σ H v u Q I r (i _ _ _ _ q)⟩
theorem _root_.L2.PGs.imp {X : Cx} {e : List Expr} {t t' : TGs} (h : PGs X e t) (i : ∀ v σ H Q, t' v σ H Q → t v σ H Q) : PGs X e t' := ⟨fun p s σ H v u Q I r q => h.run p s σ H v u Q I r (i _ _ _ _ q)⟩
theorem sg_name {i : Nat} {x : Str} (hN : X.N.Nodup) (hi : X.N[i]? = some x) (hx : Loc X.env.scope x) (hf : X.fn x = true ∨ X.env.scope.names.lookup x = some .local := by first | exact .inl rfl | exact .inr rfl | assumption) : SG X (.Name x pos) (gName i) :=
  (pg_name hN hi hx hf).imp fun v σ H Q ⟨u, ρ, m, μ, r, E, M, p⟩ => p.here M _ (E.set r)
theorem sgs_nil : SGs X [] gNil := pgs_nil.imp fun v σ H Q ⟨us, ρ, m, μ, r, E, M, p⟩ => by
  cases r with
  | nil => exact ⟨rfl, p.here M _ E⟩
  | cons _ _ => exact no_op p
theorem sgs_cons {e : Expr} {es : List Expr} {g : GD} {gs : GL} (h : PGs X (e :: es) (L2.gCons (rdG X.K g) (rdGs X.K gs))) : SGs X (e :: es) (gCons g gs) := h.imp fun v σ H Q ⟨us, ρ, m, μ, r, E, M, p⟩ => by
  cases r with
  | nil => exact no_op p
  | @cons u us v vs r1 r2 =>
    refine ⟨_, _, rfl, u, ρ, m, μ, r1, E, M, ?_⟩
    unfold gCons at p
    simp only at p
    cases q : g u ρ m with
    | none => rw [q] at p; exact no_op p
    | some z =>
      obtain ⟨ρ1, m1⟩ := z
      rw [q] at p
      simp only at p
      exact fun μ1 H1 s1 M1 σ1 E1 => ⟨us, ρ1, m1, μ1, r2.step s1, E1, M1, (by
        cases q2 : gs us ρ1 m1 with
        | none => rw [q2] at p; exact no_op p
        | some z => rw [q2] at p; exact fun μ2 H2 s2 M2 => p μ2 H2 (s1.trans s2) M2)⟩
theorem sg_tup {es : List Expr} {k : Nat} {n : Nat} {gs : GL} (hn : PG X (.Tuple es k pos) (L2.gTup X.K n (rdGs X.K gs))) : SG X (.Tuple es k pos) (gTup n gs) := hn.imp fun v σ H Q ⟨u, ρ, m, μ, r, E, M, p⟩ => by
  cases r with
  | tup hq t =>
    unfold gTup at p
    simp only at p
    split at p
    · rename_i hl
      exact ⟨_, _, rfl, hq, by rw [← t.length]; exact hl, _, ρ, m, μ, t, E, M, p⟩
    · exact no_op p
  | _ => exact no_op p
def rdSet (K : PySem.W.Frag) (S : U → U → U → Mem → O Unit) : TSet := fun o i v H Q => ∃ uo ui uv m μ, RU K H μ uo o ∧ RU K H μ ui i ∧ RU K H μ uv v ∧ MOk K H μ m ∧ PostO K μ H (S uo ui uv m) fun μ' H' _ _ => Q H'
theorem toO_post {α : Type} {w : W0} {σ : L2.St} {μ : List Addr} {H : Hp} {r : R α} {a : α} {m : Mem} {P : List Addr → Hp → Mem → α → Prop} (h : toO r = some (a, m)) (p : ∀ μ' H', Step w.K μ H μ' H' → MOk w.K H' μ' m → P μ' H' m a) : Post w W σ μ H r P := by
  cases r with
  | ok b n => cases h; exact p
  | err x n => cases h
  | bad => cases h
theorem sg_sub {o i : Expr} {fo fi : XD} {S : U → U → U → Mem → O Unit} (hg : PG X (.Subscript o i pos) (L2.gSub (rdE (wX X c) W fo) (rdE (wX X c) W fi) (rdSet X.K S))) : SG X (.Subscript o i pos) (gSub S fo fi) :=
  hg.imp fun v σ H Q ⟨u, ρ, m, μ, r, E, M, p⟩ => by
    unfold gSub at p
    cases q1 : toO (fo ρ m) with
    | none => rw [q1] at p; exact no_op p
    | some z =>
      obtain ⟨x, m1⟩ := z
      rw [q1] at p
      simp only at p
      cases q2 : toO (fi ρ m1) with
      | none => rw [q2] at p; exact no_op p
      | some z =>
        obtain ⟨y, m2⟩ := z
        rw [q2] at p
        simp only at p
        refine ⟨ρ, m, μ, E, M, toO_post (w := wX X c) q1 fun μ1 H1 s1 M1 v1 r1 => ⟨ρ, m1, μ1, E.step s1, M1, toO_post (w := wX X c) q2 fun μ2 H2 s2 M2 v2 r2 => ?_⟩⟩
        refine ⟨x, y, u, m2, μ2, r1.step s2, r2, (r.step s1).step s2, M2, ?_⟩
        cases q3 : S x y u m2 with
        | none => rw [q3] at p; exact no_op p
        | some z =>
          rw [q3] at p
          exact fun μ3 H3 s3 M3 => p μ3 H3 ((s1.trans s2).trans s3) M3 σ (((E.step s1).step s2).step s3)
theorem x_setL : PSet X (rdSet X.K oSetL) := by
  intro pins s σ H o i v u1 u2 u3 Q I ro ri rv h
  obtain ⟨uo, ui, uv, m, μ, r1, r2, r3, M, p⟩ := h
  unfold oSetL at p
  split at p
  · rename_i n k
    cases r2
    cases r1 with
    | @ref _ a hn =>
      split at p
      · rename_i us e
        cases q : ixN us.length k with
        | none => rw [q] at p; exact no_op p
        | some j =>
          rw [q] at p
          obtain ⟨vs, hq, t⟩ := M.cell _ _ _ hn e
          refine set_list pins s σ H _ _ v u1 u2 u3 Q I ro ri rv ⟨a, vs, k, j, rfl, rfl, hq, by rw [← t.length]; exact q, ?_⟩
          exact p μ _ (.set (List.mem_of_getElem? hn) hq rfl) (M.set hn hq rfl ⟨_, upd_same, (t.set j r3).step (.set (List.mem_of_getElem? hn) hq rfl)⟩)
      · exact no_op p
  · exact no_op p
theorem ss_asg {tg : Expr} {g : GD} (hps : PS X (.Assign [tg] e pos) (tAsg (rdE (wX X c) W f) (rdG X.K g))) : SS X c W (.Assign [tg] e pos) (sAsg f g) :=
  hps.imp fun D σ H ⟨ρ, m, μ, E, M, p⟩ => ⟨ρ, m, μ, E, M, (PostS.thenE E p).imp fun μ1 H1 m1 u s1 M1 p1 v r => by
    refine ⟨u, ρ, m1, μ1, r, E.step s1, M1, ?_⟩
    have p2 := PostS.thenO p1
    cases q : g u ρ m1 with
    | none => rw [q] at p2; exact no_op p2
    | some z =>
      obtain ⟨ρ2, m2⟩ := z
      rw [q] at p2
      exact fun μ2 H2 s2 M2 σ2 E2 => (p2 μ2 H2 s2 M2).nx M2 E2⟩
theorem ss_set {i : Nat} {x : Str} {pos' : Pos} (hN : X.N.Nodup) (hi : X.N[i]? = some x) (hx : Loc X.env.scope x) (he : SE X c W e f) (hs : swapsWith e (some (.Name x pos')) pos.line X.env = pure false := by rfl) (hf : X.fn x = true ∨ X.env.scope.names.lookup x = some .local := by first | exact .inl rfl | exact .inr rfl | assumption) :
    SS X c W (.Assign [.Name x pos'] e pos) (sAsg f (gName i)) :=
  (ps_set hN hi hx he hs hf).imp fun D σ H ⟨ρ, m, μ, E, M, p⟩ => ⟨ρ, m, μ, E, M, (PostS.thenE E p).imp fun μ1 H1 m1 u s1 M1 p1 v r => by
    have p2 := PostS.thenO p1
    exact (p2 μ1 H1 .refl M1).nx M1 ((E.step s1).set r)⟩
def rdIp (K : PySem.W.Frag) (F : U → U → Mem → O U) : TIp := rd2 K F
theorem ss_aug {i : Nat} {x : Str} {op : Operator} {F : U → U → Mem → O U} {pos' : Pos} (hps : PS X (.AugAssign (.Name x pos') op e pos) (tAug i (rdE (wX X c) W f) (rd2 X.K F))) :
    SS X c W (.AugAssign (.Name x pos') op e pos) (sAug i F f) :=
  hps.imp fun D σ H ⟨ρ, m, μ, E, M, p⟩ => by
    unfold sAug at p
    split at p
    · rename_i u e1
      obtain ⟨v, h1, r1⟩ := E.at_ i u e1
      refine ⟨v, h1, ρ, m, μ, E, M, (PostS.thenE E p).imp fun μ1 H1 m1 u2 s1 M1 p1 v2 r2 => ⟨u, u2, m1, μ1, r1.step s1, r2, M1, ?_⟩⟩
      have p2 := PostS.thenO p1
      cases q : F u u2 m1 with
      | none => rw [q] at p2; exact no_op p2
      | some z =>
        obtain ⟨z, m2⟩ := z
        rw [q] at p2
        exact fun μ2 H2 s2 M2 v3 r3 => (p2 μ2 H2 s2 M2).nx M2 (((E.step s1).step s2).set r3)
    · exact False.elim p
theorem ss_par {i j : Nat} {st : Stmt} {fl : XL} (hps : PS X st (tPar i j (rdL (wX X c) W fl))) : SS X c W st (sPar i j fl) :=
  hps.imp fun D σ H ⟨ρ, m, μ, E, M, p⟩ => ⟨ρ, m, μ, E, M, (PostS.thenE E p).imp fun μ1 H1 m1 us s1 M1 p1 vs r => by
    cases r with
    | nil => exact False.elim p1
    | cons r1 r =>
      cases r with
      | nil => exact False.elim p1
      | cons r2 r =>
        cases r with
        | nil => exact ⟨_, _, rfl, p1.nx M1 (((E.step s1).set r1).set r2)⟩
        | cons _ _ => exact False.elim p1⟩
end
end Ev

set_option Elab.async false
set_option linter.all false
set_option maxRecDepth 100000
set_option maxHeartbeats 2000000
/-! Ev: loops and comprehensions. -/
namespace Ev
open PySem PySem.Spec L2

/-- what is walked: written items, or what the memory has at each turn (with a bound of the turns) -/
inductive Src where
  | fix (us : List U) | dyn (k : Nat) (nx : Nat → Mem → Option (Option U))
def Src.next : Src → Nat → Mem → Option (Option U)
  | .fix us => fun i _ => if i ≤ us.length then some us[i]? else none
  | .dyn _ nx => nx
abbrev ID := Env → Mem → R Src
/-- the iterator gives what the source says -/
def WkOk (K : PySem.W.Frag) (J : It) (μ0 : List Addr) (H0 : Hp) (nx : Nat → Mem → Option (Option U)) : Prop :=
  ∀ (i : Nat) (μ : List Addr) (H : Hp) (m : Mem), Mono K μ0 H0 μ H → MOk K H μ m → match nx i m with
    | none => True
    | some none => J.stop i H
    | some (some u) => J.go i H ∧ ∀ x H', J.yld i H x H' → Step K μ H μ H' ∧ MOk K H' μ m ∧ RU K H' μ u x
def rdI (w : W0) (W : WX) (f : ID) : TI := fun σ H R => ∃ ρ m μ, EOk w.K H μ ρ σ ∧ MOk w.K H μ m ∧ Post w W σ μ H (f ρ m) fun μ' H' _ s => ∀ J, WkOk w.K J μ' H' s.next → R J H'
abbrev SI (X : Cx) (c : Nat → Addr) (W : WX) (tg e : Expr) (f : ID) : Prop := PI X tg e (rdI (wX X c) W f)
theorem _root_.L2.PI.imp {X : Cx} {tg e : Expr} {t t' : TI} (h : PI X tg e t) (i : ∀ σ H R, t' σ H R → t σ H R) : PI X tg e t' := ⟨fun p s σ H R I q => h.run p s σ H R I (i _ _ _ q)⟩

/-! ### loops -/
def loopS (r : RS) (k : Env → Mem → RS) : RS := match r with
  | .ok .nx ρ m => k ρ m
  | .ok .ct ρ m => k ρ m
  | .ok .bk ρ m => .ok .nx ρ m
  | r => r
def forL (g : GD) (b : SD) : List U → SD
  | [] => sNext
  | u :: us => fun ρ m => thenO (g u ρ m) fun ρ1 m1 => loopS (b ρ1 m1) (forL g b us)
def forN (nx : Nat → Mem → Option (Option U)) (g : GD) (b : SD) : Nat → Nat → SD
  | 0, _ => fun _ _ => .bad
  | k + 1, i => fun ρ m => match nx i m with
    | none => .bad
    | some none => .ok .nx ρ m
    | some (some u) => thenO (g u ρ m) fun ρ1 m1 => loopS (b ρ1 m1) (forN nx g b k (i + 1))
def forR (g : GD) (b : SD) : Src → SD
  | .fix us => forL g b us
  | .dyn k nx => forN nx g b k 0
def sFor (f : ID) (g : GD) (b : SD) : SD := fun ρ m => thenE (f ρ m) ρ fun s m1 => forR g b s ρ m1
def whileN (t : XT) (b : SD) : Nat → SD
  | 0 => fun _ _ => .bad
  | k + 1 => fun ρ m => thenE (t ρ m) ρ fun c m1 => if c then loopS (b ρ m1) (whileN t b k) else .ok .nx ρ m1
def sWhile (t : XT) (b : SD) : SD := whileN t b 1000000
theorem fix_next {us : List U} {i : Nat} {m : Mem} (h : i ≤ us.length) : (Src.fix us).next i m = some us[i]? := if_pos h
theorem forL_N {us : List U} {g : GD} {b : SD} : ∀ (k i : Nat), i ≤ us.length → us.length < i + k → forL g b (us.drop i) = forN (Src.fix us).next g b k i
  | 0, i, h, h2 => by omega
  | k + 1, i, h, h2 => by
    by_cases hi : i < us.length
    · have e : us.drop i = us[i] :: us.drop (i + 1) := List.drop_eq_getElem_cons hi
      have e2 : us[i]? = some us[i] := List.getElem?_eq_getElem hi
      rw [e, forL, forL_N k (i + 1) hi (by omega)]
      funext ρ m
      rw [forN]
      simp only [fix_next h, e2]
    · have e : us.drop i = [] := List.drop_eq_nil_of_le (by omega)
      have e2 : us[i]? = none := List.getElem?_eq_none (by omega)
      rw [e]
      funext ρ m
      rw [forN]
      simp only [fix_next h, e2]
      rfl
theorem forR_N (s : Src) (g : GD) (b : SD) : ∃ k, forR g b s = forN s.next g b k 0 := by
  cases s with
  | fix us => exact ⟨us.length + 1, by have := forL_N (us := us) (g := g) (b := b) (us.length + 1) 0 (Nat.zero_le _) (by omega); rw [List.drop_zero] at this; exact this⟩
  | dyn k nx => exact ⟨k, rfl⟩
section
variable {w : W0} {W : WX} {σ : L2.St} {μ : List Addr} {H : Hp}
theorem PostS.loop {r : RS} {k : Env → Mem → RS} {D : Ends} {N : L2.St → Hp → Prop} (p : PostS w W μ H (loopS r k) D)
    (hN : ∀ ρ m μ' H' σ', Step w.K μ H μ' H' → MOk w.K H' μ' m → EOk w.K H' μ' ρ σ' → PostS w W μ' H' (k ρ m) D → N σ' H') : PostS w W μ H r { D with nx := N, ct := N, bk := D.nx } := by
  cases r with
  | ok f ρ m =>
    cases f with
    | nx => exact fun μ1 H1 σ1 s1 M1 E1 => hN ρ m μ1 H1 σ1 s1 M1 E1 (PostS.from p s1)
    | ct => exact fun μ1 H1 σ1 s1 M1 E1 => hN ρ m μ1 H1 σ1 s1 M1 E1 (PostS.from p s1)
    | bk => exact p
    | rt u => exact p
  | err x ρ m => exact p
  | bad => exact p
end
section
variable {X : Cx} {c : Nat → Addr} {W : WX} {st : Stmt} {f : ID} {g : GD} {sb : SD} {t : XT}
theorem ss_for (h : PS X st (tFor (rdI (wX X c) W f) (rdG X.K g) (rdS (wX X c) W sb))) : SS X c W st (sFor f g sb) :=
  h.imp fun D σ H ⟨ρ, m, μ, E, M, p⟩ => ⟨ρ, m, μ, E, M, (PostS.thenE E p).imp fun μ1 H1 m1 src s1 M1 p1 J hJ => by
    obtain ⟨k, hk⟩ := forR_N src g sb
    rw [hk] at p1
    refine ⟨fun i n σ H => ∃ ρ m μ, Mono X.K μ1 H1 μ H ∧ EOk X.K H μ ρ σ ∧ MOk X.K H μ m ∧ PostS (wX X c) W μ H (forN src.next g sb n i ρ m) D, ⟨k, ρ, m1, μ1, .refl, E.step s1, M1, p1⟩, ?_⟩
    rintro i n σ H ⟨ρ, m, μ, mo, E, M, p⟩
    cases n with
    | zero => exact False.elim p
    | succ n =>
      have hj := hJ i μ H m mo M
      rw [forN] at p
      cases e : src.next i m with
      | none => simp only [e] at p; exact False.elim p
      | some o =>
        cases o with
        | none =>
          simp only [e] at p hj
          exact .inl ⟨hj, p.nx M E⟩
        | some u =>
          simp only [e] at p hj
          refine .inr ⟨hj.1, fun σ' H' => ∃ ρ m μ, Mono X.K μ1 H1 μ H' ∧ EOk X.K H' μ ρ σ' ∧ MOk X.K H' μ m ∧ PostS (wX X c) W μ H' (forN src.next g sb n (i + 1) ρ m) D, fun σ' H' z => ⟨n, Nat.lt_succ_self n, z⟩, fun x H' y => ?_⟩
          obtain ⟨s2, M2, r2⟩ := hj.2 x H' y
          refine ⟨u, ρ, m, μ, r2, E.step s2, M2, ?_⟩
          have p2 := PostS.thenO (PostS.from p s2)
          cases q : g u ρ m with
          | none => rw [q] at p2; exact False.elim p2
          | some z =>
            obtain ⟨ρ3, m3⟩ := z
            rw [q] at p2
            exact fun μ3 H3 s3 M3 σ3 E3 => ⟨ρ3, m3, μ3, E3, M3, PostS.loop (p2 μ3 H3 s3 M3) fun ρ4 m4 μ4 H4 σ4 s4 M4 E4 p4 => ⟨ρ4, m4, μ4, ((mo.trans s2.mono).trans s3.mono).trans s4.mono, E4, M4, p4⟩⟩⟩
theorem ss_while (h : PS X st (tWhile (rdT (wX X c) W t) (rdS (wX X c) W sb))) : SS X c W st (sWhile t sb) :=
  h.imp fun D σ H ⟨ρ, m, μ, E, M, p⟩ => by
    refine ⟨fun n σ H => ∃ ρ m μ, EOk X.K H μ ρ σ ∧ MOk X.K H μ m ∧ PostS (wX X c) W μ H (whileN t sb n ρ m) D, ⟨_, ρ, m, μ, E, M, p⟩, ?_⟩
    rintro n σ H ⟨ρ, m, μ, E, M, p⟩
    cases n with
    | zero => exact False.elim p
    | succ n =>
      rw [whileN] at p
      refine ⟨ρ, m, μ, E, M, (PostS.thenE E p).imp fun μ1 H1 m1 b s1 M1 p1 => ?_⟩
      cases b with
      | false => exact p1.nx M1 (E.step s1)
      | true =>
        exact ⟨fun σ' H' => ∃ ρ m μ, EOk X.K H' μ ρ σ' ∧ MOk X.K H' μ m ∧ PostS (wX X c) W μ H' (whileN t sb n ρ m) D, fun σ' H' z => ⟨n, Nat.lt_succ_self n, z⟩, ρ, m1, μ1, E.step s1, M1, PostS.loop p1 fun ρ4 m4 μ4 H4 σ4 s4 M4 E4 p4 => ⟨ρ4, m4, μ4, E4, M4, p4⟩⟩
end

/-! ### what is walked -/
def srcOf (m : Mem) (u : U) : Option Src := match u with
  | .tup us => some (.fix us)
  | .rol us => some (.fix us)
  | .ref n => match m[n]? with
    | some (.lst us) => some (.dyn (us.length + 1) fun i m => match m[n]? with
      | some (.lst us) => some us[i]?
      | _ => none)
    | _ => none
  | _ => none
def iOf (f : XD) : ID := fun ρ m => (f ρ m).bind fun u m1 => ofB (srcOf m1 u) m1
def signs (z : Str) : List U := z.cps.toList.map fun c => .str ⟨#[c]⟩
def iStr (f : XD) : ID := fun ρ m => (f ρ m).bind fun u m1 => match u with
  | .str z => .ok (.fix (signs z)) m1
  | _ => .bad
/-- lo, lo + 1, .. (n of them) -/
def runI (lo : Int) : Nat → List U
  | 0 => []
  | n + 1 => .int lo :: runI (lo + 1) n
def iRange1 (f : XL) : ID := fun ρ m => (f ρ m).bind fun us m1 => match us with
  | [.int j] => if -(2 ^ 62) ≤ j ∧ j < 2 ^ 62 then .ok (.fix (runI 0 j.toNat)) m1 else .bad
  | _ => .bad
def iRange2 (f : XL) : ID := fun ρ m => (f ρ m).bind fun us m1 => match us with
  | [.int i, .int j] => if -(2 ^ 62) ≤ i ∧ i < 2 ^ 62 ∧ -(2 ^ 62) ≤ j ∧ j < 2 ^ 62 then .ok (.fix (runI i (j - i).toNat)) m1 else .bad
  | _ => .bad
theorem runI_get : ∀ (n : Nat) (lo : Int) (i : Nat), (runI lo n)[i]? = if i < n then some (.int (lo + i)) else none
  | 0, lo, i => by simp [runI]
  | n + 1, lo, 0 => by simp [runI]
  | n + 1, lo, i + 1 => by
    rw [runI, List.getElem?_cons_succ, runI_get n]
    have e : (lo + 1 + (i : Int)) = lo + ((i + 1 : Nat) : Int) := by omega
    rw [e]
    by_cases h : i < n
    · rw [if_pos h, if_pos (by omega)]
    · rw [if_neg h, if_neg (by omega)]
section
variable {X : Cx} {c : Nat → Addr} {W : WX} {tg e : Expr} {f : XD} {fl : XL}
theorem wk_fix {K : PySem.W.Frag} {J : It} {H : Hp} {μ : List Addr} {us : List U} (h : ∀ (i : Nat) (μ1 : List Addr) (H1 : Hp) (m : Mem), Mono K μ H μ1 H1 → MOk K H1 μ1 m → i ≤ us.length → match us[i]? with
    | none => J.stop i H1
    | some u => J.go i H1 ∧ ∀ x H', J.yld i H1 x H' → Step K μ1 H1 μ1 H' ∧ MOk K H' μ1 m ∧ RU K H' μ1 u x) : WkOk K J μ H (Src.fix us).next := fun i μ1 H1 m mo M => by
  by_cases hi : i ≤ us.length
  · have h1 := h i μ1 H1 m mo M hi
    rw [fix_next hi]
    cases e : us[i]? with
    | none => rw [e] at h1; exact h1
    | some u => rw [e] at h1; exact h1
  · rw [show (Src.fix us).next i m = none from if_neg hi]
    trivial
/-- written items of a tuple or of a list that stands still -/
theorem wk_t {K : PySem.W.Frag} {H : Hp} {μ : List Addr} {us : List U} {vs : List V} {a : Addr} (hq : SqT K H a vs) (t : RUs K H μ us vs) : WkOk K (Itt K a) μ H (Src.fix us).next := wk_fix fun i μ1 H1 m mo M _ => by
  have hq1 := mo.kt _ _ hq
  have t1 := t.mo mo
  cases e : us[i]? with
  | none => exact ⟨vs, hq1, by rw [← t.length]; exact List.getElem?_eq_none_iff.mp e⟩
  | some u =>
    obtain ⟨v, h1, h2⟩ := t1.get e
    refine ⟨⟨vs, v, hq1, h1⟩, fun x H' y => ?_⟩
    obtain ⟨eH, y⟩ := y
    subst eH
    have := y vs hq1
    rw [h1] at this; cases this
    exact ⟨.refl, M, h2⟩
theorem wk_l {K : PySem.W.Frag} {H : Hp} {μ : List Addr} {us : List U} {vs : List V} {a : Addr} (hq : ∀ H1, Mono K μ H μ H1 → SqL K H1 a vs) (hq2 : ∀ μ1 H1, Mono K μ H μ1 H1 → SqL K H1 a vs) (t : RUs K H μ us vs) : WkOk K (Itl K a) μ H (Src.fix us).next := wk_fix fun i μ1 H1 m mo M _ => by
  have hq1 := hq2 _ _ mo
  have t1 := t.mo mo
  cases e : us[i]? with
  | none => exact ⟨vs, hq1, by rw [← t.length]; exact List.getElem?_eq_none_iff.mp e⟩
  | some u =>
    obtain ⟨v, h1, h2⟩ := t1.get e
    refine ⟨⟨vs, v, hq1, h1⟩, fun x H' y => ?_⟩
    obtain ⟨eH, y⟩ := y
    subst eH
    have := y vs hq1
    rw [h1] at this; cases this
    exact ⟨.refl, M, h2⟩
/-- a cell's items -/
theorem wk_c {K : PySem.W.Frag} {H : Hp} {μ : List Addr} {n : Nat} {a : Addr} (hn : μ[n]? = some a) : WkOk K (Itl K a) μ H (fun i m => match m[n]? with | some (.lst us) => some us[i]? | _ => none) := fun i μ1 H1 m mo M => by
  have hn1 := mo.at hn
  show match (match m[n]? with | some (.lst us) => some us[i]? | _ => none) with | none => True | some none => _ | some (some u) => _
  split
  · trivial
  · rename_i h
    split at h
    · rename_i us e1
      obtain ⟨vs, hq, t⟩ := M.cell _ _ _ hn1 e1
      injection h with h
      exact ⟨vs, SqL.of hq, by rw [← t.length]; exact List.getElem?_eq_none_iff.mp h⟩
    · cases h
  · rename_i u h
    split at h
    · rename_i us e1
      obtain ⟨vs, hq, t⟩ := M.cell _ _ _ hn1 e1
      injection h with h
      obtain ⟨v, h1, h2⟩ := t.get h
      refine ⟨⟨vs, v, SqL.of hq, h1⟩, fun x H' y => ?_⟩
      obtain ⟨eH, y⟩ := y
      subst eH
      have := y vs (SqL.of hq)
      rw [h1] at this; cases this
      exact ⟨.refl, M, h2⟩
    · cases h
theorem wk_of {K : PySem.W.Frag} {H : Hp} {μ : List Addr} {m : Mem} {u : U} {v : V} {s : Src} (M : MOk K H μ m) (r : RU K H μ u v) (h : srcOf m u = some s) :
    ∃ a, v = .ref a ∧ ((isT u = true ∧ (∃ xs, SqT K H a xs) ∧ WkOk K (Itt K a) μ H s.next) ∨ (isT u = false ∧ (∃ xs, SqL K H a xs) ∧ WkOk K (Itl K a) μ H s.next)) := by
  cases r with
  | tup hq t => cases h; exact ⟨_, rfl, .inl ⟨rfl, ⟨_, hq⟩, wk_t hq t⟩⟩
  | rol hq t =>
    cases h
    have st : ∀ μ1 H1, Mono K μ H μ1 H1 → SqL K H1 _ _ := fun μ1 H1 mo => rol_sq (hq.imp (fun ⟨o, z⟩ => ⟨o, mo.fz _ _ _ z⟩) id)
    exact ⟨_, rfl, .inr ⟨rfl, ⟨_, rol_sq hq⟩, wk_l (fun H1 mo => st _ _ mo) st t⟩⟩
  | @ref n a hn =>
    unfold srcOf at h
    simp only at h
    split at h
    · rename_i us e1
      cases h
      obtain ⟨vs, hq, t⟩ := M.cell _ _ _ hn e1
      exact ⟨a, rfl, .inr ⟨rfl, ⟨vs, SqL.of hq⟩, wk_c hn⟩⟩
    · cases h
  | _ => cases h
/-- for .. in a tuple -/
def iTupOf (f : XD) : ID := fun ρ m => (f ρ m).bind fun u m1 => if isT u then ofB (srcOf m1 u) m1 else .bad
/-- for .. in a list -/
def iLstOf (f : XD) : ID := fun ρ m => (f ρ m).bind fun u m1 => if isT u then .bad else ofB (srcOf m1 u) m1
theorem si_tup (h : SE X c W e f) : SI X c W tg e (iTupOf f) := (pi_tup h).imp fun σ H R ⟨ρ, m, μ, E, M, p⟩ => ⟨ρ, m, μ, E, M, p.bind.imp fun μ1 H1 m1 u s1 M1 p1 v r => by
  split at p1
  · rename_i hT
    cases q : srcOf m1 u with
    | none => rw [q] at p1; exact False.elim p1
    | some s =>
      rw [q] at p1
      obtain ⟨a, e1, h1⟩ := wk_of M1 r q
      rcases h1 with ⟨_, h2, h3⟩ | ⟨h2, _⟩
      · exact ⟨a, e1, h2, p1.ok_at M1 _ h3⟩
      · rw [hT] at h2; cases h2
  · exact False.elim p1⟩
theorem si_lst (h : SE X c W e f) : SI X c W tg e (iLstOf f) := (pi_list h).imp fun σ H R ⟨ρ, m, μ, E, M, p⟩ => ⟨ρ, m, μ, E, M, p.bind.imp fun μ1 H1 m1 u s1 M1 p1 v r => by
  split at p1
  · exact False.elim p1
  · rename_i hT
    cases q : srcOf m1 u with
    | none => rw [q] at p1; exact False.elim p1
    | some s =>
      rw [q] at p1
      obtain ⟨a, e1, h1⟩ := wk_of M1 r q
      rcases h1 with ⟨h2, _⟩ | ⟨_, h2, h3⟩
      · exact absurd h2 hT
      · exact ⟨a, e1, h2, p1.ok_at M1 _ h3⟩⟩
theorem wk_r {K : PySem.W.Frag} {H : Hp} {μ : List Addr} {lo : Int} {n : Nat} : WkOk K (Itr lo n) μ H (Src.fix (runI lo n)).next := wk_fix fun i μ1 H1 m mo M _ => by
  rw [runI_get]
  by_cases h : i < n
  · rw [if_pos h]
    refine ⟨h, fun x H' y => ?_⟩
    obtain ⟨e1, e2⟩ := y
    subst e1 e2
    exact ⟨.refl, M, .int _⟩
  · rw [if_neg h]
    exact Nat.le_of_not_lt h
theorem si_range1 {a : Expr} {p pos : Pos} (hp : PI X tg (.Call (.Name "range" p) [a] [] pos) (iRng1 (rdL (wX X c) W fl))) : SI X c W tg (.Call (.Name "range" p) [a] [] pos) (iRange1 fl) := hp.imp fun σ H R ⟨ρ, m, μ, E, M, p⟩ => ⟨ρ, m, μ, E, M, p.bind.imp fun μ1 H1 m1 us s1 M1 p1 vs r => by
  split at p1
  · rename_i j
    cases r with
    | cons r1 r2 =>
      cases r1; cases r2
      split at p1
      · rename_i hz
        exact ⟨j, rfl, hz.1, hz.2, p1.ok_at M1 _ wk_r⟩
      · exact False.elim p1
  · exact False.elim p1⟩
theorem si_range2 {a b : Expr} {p pos : Pos} (hp : PI X tg (.Call (.Name "range" p) [a, b] [] pos) (iRng2 (rdL (wX X c) W fl))) : SI X c W tg (.Call (.Name "range" p) [a, b] [] pos) (iRange2 fl) := hp.imp fun σ H R ⟨ρ, m, μ, E, M, p⟩ => ⟨ρ, m, μ, E, M, p.bind.imp fun μ1 H1 m1 us s1 M1 p1 vs r => by
  split at p1
  · rename_i i j
    cases r with
    | cons r1 r2 =>
      cases r2 with
      | cons r2 r3 =>
        cases r1; cases r2; cases r3
        split at p1
        · rename_i hz
          exact ⟨i, j, rfl, hz, p1.ok_at M1 _ wk_r⟩
        · exact False.elim p1
  · exact False.elim p1⟩
end
end Ev

set_option Elab.async false
set_option linter.all false
set_option maxRecDepth 100000
set_option maxHeartbeats 2000000
/-! Ev: list comprehensions. -/
namespace Ev
open PySem PySem.Spec L2

def wipeU (ρ : Env) : List Nat → Env
  | [] => ρ
  | v :: vs => (wipeU ρ vs).set v none
theorem wipeU_len (ρ : Env) : ∀ vs : List Nat, (wipeU ρ vs).length = ρ.length
  | [] => rfl
  | v :: vs => by rw [wipeU, List.length_set, wipeU_len ρ vs]
theorem wipeU_some {ρ : Env} {i : Nat} {x : U} : ∀ {vs : List Nat}, (wipeU ρ vs)[i]? = some (some x) → ρ[i]? = some (some x) ∧ i ∉ vs
  | [], h => ⟨h, by simp⟩
  | v :: vs, h => by
    rw [wipeU] at h
    by_cases hi : v = i
    · subst hi
      by_cases hv : v < (wipeU ρ vs).length
      · rw [List.getElem?_set_self hv] at h; cases h
      · rw [List.getElem?_eq_none (by simpa using hv)] at h; cases h
    · rw [List.getElem?_set_ne hi] at h
      obtain ⟨h1, h2⟩ := wipeU_some h
      exact ⟨h1, by simp only [List.mem_cons, not_or]; exact ⟨fun e => hi e.symm, h2⟩⟩
theorem EOk.wipe {K : PySem.W.Frag} {H : Hp} {μ : List Addr} {ρ : Env} {σ : L2.St} (E : EOk K H μ ρ σ) (vs : List Nat) : EOk K H μ (wipeU ρ vs) (wipe σ vs) :=
  ⟨by rw [wipeU_len, wipe_length, E.len], fun i u h => by
    obtain ⟨h1, h2⟩ := wipeU_some h
    obtain ⟨v, e, r⟩ := E.at_ i u h1
    exact ⟨v, by rw [wipe_out h2]; exact e, r⟩⟩
/-- a target that stores at vs alone -/
def GW (K : PySem.W.Frag) (g0 : TG) (g : GD) (vs : List Nat) : Prop := ∀ (u : U) (ρ : Env) (m : Mem) (v : V) (σ : L2.St) (H : Hp) (μ : List Addr) (Q : L2.St → Hp → Prop), RU K H μ u v → EOk K H μ ρ σ → MOk K H μ m →
  PostO K μ H (g u ρ m) (fun μ' H' _ ρ' => ∀ σ', EOk K H' μ' ρ' σ' → wipe σ' vs = wipe σ vs → Q σ' H') → g0 v σ H Q
def GWs (K : PySem.W.Frag) (g0 : TGs) (g : GL) (vs : List Nat) : Prop := ∀ (u : List U) (ρ : Env) (m : Mem) (v : List V) (σ : L2.St) (H : Hp) (μ : List Addr) (Q : L2.St → Hp → Prop), RUs K H μ u v → EOk K H μ ρ σ → MOk K H μ m →
  PostO K μ H (g u ρ m) (fun μ' H' _ ρ' => ∀ σ', EOk K H' μ' ρ' σ' → wipe σ' vs = wipe σ vs → Q σ' H') → g0 v σ H Q
theorem wipe_set {σ : L2.St} {i : Nat} {x : Option V} : ∀ {vs : List Nat}, i ∈ vs → wipe (σ.set i x) vs = wipe σ vs
  | v :: vs, h => by
    rw [L2.wipe, L2.wipe]
    by_cases hv : i ∈ vs
    · rw [wipe_set hv]
    · have e : i = v := by simpa [hv] using h
      subst e
      have com : ∀ (ws : List Nat), i ∉ ws → wipe (σ.set i x) ws = (wipe σ ws).set i x := by
        intro ws
        induction ws with
        | nil => intro _; rfl
        | cons w ws ih =>
          intro hw
          simp only [List.mem_cons, not_or] at hw
          rw [L2.wipe, L2.wipe, ih hw.2, List.set_comm]
          exact hw.1
      rw [com vs hv, List.set_set]
theorem gw_name {K : PySem.W.Frag} {i : Nat} {vs : List Nat} (h : i ∈ vs) : GW K (L2.gName i) (gName i) vs := fun u ρ m v σ H μ Q r E M p => p.here M _ (E.set r) (wipe_set h)
theorem gw_nil {K : PySem.W.Frag} {vs : List Nat} : GWs K L2.gNil gNil vs := fun u ρ m v σ H μ Q r E M p => by
  cases r with
  | nil => exact ⟨rfl, p.here M _ E rfl⟩
  | cons _ _ => exact no_op p
theorem gw_cons {K : PySem.W.Frag} {g0 : TG} {gs0 : TGs} {g : GD} {gs : GL} {vs : List Nat} (h1 : GW K g0 g vs) (h2 : GWs K gs0 gs vs) : GWs K (L2.gCons g0 gs0) (gCons g gs) vs := fun us ρ m v σ H μ Q r E M p => by
  cases r with
  | nil => exact no_op p
  | @cons u us v vs r1 r2 =>
    refine ⟨_, _, rfl, h1 u ρ m _ _ _ μ _ r1 E M ?_⟩
    unfold gCons at p
    simp only at p
    cases q : g u ρ m with
    | none => rw [q] at p; exact no_op p
    | some z =>
      obtain ⟨ρ1, m1⟩ := z
      rw [q] at p
      simp only at p
      exact fun μ1 H1 s1 M1 σ1 E1 w1 => h2 us ρ1 m1 _ _ _ μ1 _ (r2.step s1) E1 M1 (by
        cases q2 : gs us ρ1 m1 with
        | none => rw [q2] at p; exact no_op p
        | some z => rw [q2] at p; exact fun μ2 H2 s2 M2 σ2 E2 w2 => p μ2 H2 (s1.trans s2) M2 σ2 E2 (w2.trans w1))
theorem gw_tup {K : PySem.W.Frag} {gs0 : TGs} {gs : GL} {n : Nat} {vs : List Nat} (h : GWs K gs0 gs vs) : GW K (L2.gTup K n gs0) (gTup n gs) vs := fun u ρ m v σ H μ Q r E M p => by
  cases r with
  | tup hq t =>
    unfold gTup at p
    simp only at p
    split at p
    · rename_i hl
      exact ⟨_, _, rfl, hq, by rw [← t.length]; exact hl, h _ ρ m _ _ _ μ _ t E M p⟩
    · exact no_op p
  | _ => exact no_op p

/-! ### [e for g in s if t] -/
def compL (g : GD) (t : XT) (e : XD) (ρ : Env) : List U → Mem → O (List U)
  | [], m => some ([], m)
  | u :: us, m => match g u ρ m with
    | none => none
    | some (ρ1, m1) => match toO (t ρ1 m1) with
      | none => none
      | some (b, m2) => if b then match toO (e ρ1 m2) with
          | none => none
          | some (y, m3) => match compL g t e ρ us m3 with
            | none => none
            | some (ys, m4) => some (y :: ys, m4)
        else compL g t e ρ us m2
def compN (nx : Nat → Mem → Option (Option U)) (g : GD) (t : XT) (e : XD) (ρ : Env) : Nat → Nat → Mem → O (List U)
  | 0, _, _ => none
  | k + 1, i, m => match nx i m with
    | none => none
    | some none => some ([], m)
    | some (some u) => match g u ρ m with
      | none => none
      | some (ρ1, m1) => match toO (t ρ1 m1) with
        | none => none
        | some (b, m2) => if b then match toO (e ρ1 m2) with
            | none => none
            | some (y, m3) => match compN nx g t e ρ k (i + 1) m3 with
              | none => none
              | some (ys, m4) => some (y :: ys, m4)
          else compN nx g t e ρ k (i + 1) m2
def compR (g : GD) (t : XT) (e : XD) (ρ : Env) : Src → Mem → O (List U)
  | .fix us => compL g t e ρ us
  | .dyn k nx => compN nx g t e ρ k 0
def oList (o : O (List U)) : O U := match o with
  | some (us, m) => if us.length ≤ sizeLine then some (.ref m.length, m ++ [.lst us]) else none
  | none => none
def dLc (f : ID) (g : GD) (t : XT) (e : XD) (vs : List Nat) : XD := fun ρ m => (f ρ m).bind fun s m1 => ofO (oList (compR g t e (wipeU ρ vs) s m1))
def tYesU : XT := fun _ m => .ok true m
theorem compL_N {us : List U} {g : GD} {t : XT} {e : XD} {ρ : Env} : ∀ (k i : Nat), i ≤ us.length → us.length < i + k → compL g t e ρ (us.drop i) = compN (Src.fix us).next g t e ρ k i
  | 0, i, h, h2 => by omega
  | k + 1, i, h, h2 => by
    funext m
    rw [compN, fix_next h]
    by_cases hi : i < us.length
    · have e : us.drop i = us[i] :: us.drop (i + 1) := List.drop_eq_getElem_cons hi
      have e2 : us[i]? = some us[i] := List.getElem?_eq_getElem hi
      rw [e, compL, compL_N k (i + 1) hi (by omega), e2]
    · have e : us.drop i = [] := List.drop_eq_nil_of_le (by omega)
      have e2 : us[i]? = none := List.getElem?_eq_none (by omega)
      rw [e, e2]
      rfl
theorem compR_N (s : Src) (g : GD) (t : XT) (e : XD) (ρ : Env) : ∃ k, compR g t e ρ s = compN s.next g t e ρ k 0 := by
  cases s with
  | fix us => exact ⟨us.length + 1, by have := compL_N (us := us) (g := g) (t := t) (e := e) (ρ := ρ) (us.length + 1) 0 (Nat.zero_le _) (by omega); rw [List.drop_zero] at this; exact this⟩
  | dyn k nx => exact ⟨k, rfl⟩
section
variable {K : PySem.W.Frag} {H H1 : Hp} {μ μ1 : List Addr} {D : Addr} {xs ys : List V}
/-- the new list grows: what was ahead of it is as it was -/
theorem Step.grow (s : Step K μ1 H1 μ H) (hD : H1 D = none) (hL : H D = some (.lst xs)) : Step K μ1 H1 μ (upd H D (.lst ys)) := by
  have ne : ∀ b o, H1 b = some o → b ≠ D := fun b o h => ne_of_none h hD
  refine ⟨s.ext, fun b o h n hp => by rw [upd_ne (ne b o h)]; exact s.keep b o h n hp, fun b o h n => ?_, fun a vs h => kt_set hL rfl a vs (s.kt a vs h), fun b o u h => by rw [upd_ne (ne b _ h)]; exact s.fz b o u h⟩
  obtain ⟨h1, o', h2⟩ := s.stay b o h n
  exact ⟨h1, o', by rw [upd_ne (ne b o h)]; exact h2⟩
theorem Mono.grow (hL : H D = some (.lst xs)) : Mono K μ H μ (upd H D (.lst ys)) := ⟨⟨[], by simp⟩, kt_set hL rfl, fun b o u h => by
  rw [upd_ne fun z => by subst z; rw [hL] at h; cases h]; exact h⟩
end
section
variable {X : Cx} {c : Nat → Addr} {W : WX} {e : Expr} {f : ID} {g0 : TG} {g : GD} {t : XT} {fe : XD} {vs : List Nat}
/-- the reading of a comprehension, by its function -/
theorem lc_of (hg : GW X.K g0 g vs) {σ : L2.St} {H : Hp} {Q : VK} (q : rdE (wX X c) W (dLc f g t fe vs) σ H Q) :
    tLc (rdI (wX X c) W f) g0 (rdT (wX X c) (fun _ _ _ _ => False) t) (rdE (wX X c) (fun _ _ _ _ => False) fe) vs σ H Q := by
  obtain ⟨ρ, m, μ, E, M, p⟩ := q
  refine ⟨ρ, m, μ, E, M, p.bind.imp fun μ1 H1 m1 src s1 M1 p1 J hJ D hD => ?_⟩
  obtain ⟨k, hk⟩ := compR_N src g t fe (wipeU ρ vs)
  rw [hk] at p1
  have p1 := p1.o
  have E1 := (E.step s1).wipe vs
  -- acc ahead, what is left behind
  let Fin : List U → O (List U) → Prop := fun acc o => match o with
    | some (ys, m') => (acc ++ ys).length ≤ sizeLine ∧ ∀ μ' H', Step X.K μ1 H1 μ' H' → MOk X.K H' μ' (m' ++ [.lst (acc ++ ys)]) → ∀ v, RU X.K H' μ' (.ref m'.length) v → Q v H'
    | none => False
  have fin0 : Fin [] (compN src.next g t fe (wipeU ρ vs) k 0 m1) := by
    cases q : compN src.next g t fe (wipeU ρ vs) k 0 m1 with
    | none => rw [q] at p1; exact p1
    | some z =>
      obtain ⟨ys, m'⟩ := z
      rw [q] at p1
      unfold oList at p1
      simp only at p1
      split at p1
      · rename_i hz
        exact ⟨hz, fun μ' H' s' M' => p1 μ' H' s' M'⟩
      · exact no_op p1
  refine ⟨fun i n H => ∃ (m : Mem) (μ : List Addr) (acc : List U) (accV : List V), Step X.K μ1 H1 μ H ∧ D ∉ μ ∧ H D = some (.lst accV) ∧ RUs X.K H μ acc accV ∧ MOk X.K H μ m ∧ Fin acc (compN src.next g t fe (wipeU ρ vs) n i m),
    ⟨k, m1, μ1, [], [], .newT hD, M1.nin hD, upd_same, .nil, M1.newT hD, fin0⟩, ?_⟩
  rintro i n H ⟨m, μ, acc, accV, st, nD, hL, ra, M, fin⟩
  cases n with
  | zero => exact False.elim fin
  | succ n =>
    have hj := hJ i μ H m st.mono M
    rw [compN] at fin
    cases e : src.next i m with
    | none => simp only [e] at fin; exact False.elim fin
    | some o =>
      cases o with
      | none =>
        simp only [e] at fin hj
        refine .inl ⟨hj, ?_⟩
        obtain ⟨hz, fin⟩ := fin
        rw [List.append_nil] at fin
        refine fin (μ ++ [D]) H ⟨?_, st.keep, fun b o h n => ?_, st.kt, st.fz⟩ ?_ _ (.ref (by rw [← M.len]; simp))
        · obtain ⟨tt, e2⟩ := st.ext
          exact ⟨tt ++ [D], by rw [e2, List.append_assoc]⟩
        · obtain ⟨h1, h2⟩ := st.stay b o h n
          exact ⟨fun z => by
            rcases List.mem_append.mp z with z | z
            · exact h1 z
            · exact ne_of_none h hD (by simpa using z), h2⟩
        · have mo : Mono X.K μ H (μ ++ [D]) H := ⟨⟨[D], rfl⟩, fun _ _ h => h, fun _ _ _ h => h⟩
          refine ⟨by simp [M.len], ?_, fun k a d h1 h2 => ?_⟩
          · rw [List.nodup_append]
            exact ⟨M.nd, by simp, fun x hx y hy e => nD (by rw [← (by simpa using hy : y = D), ← e]; exact hx)⟩
          · by_cases hn : k < μ.length
            · rw [List.getElem?_append_left hn] at h1
              rw [List.getElem?_append_left (by rw [← M.len]; exact hn)] at h2
              exact (M.cell k a d h1 h2).mo mo rfl
            · rw [List.getElem?_append_right (Nat.le_of_not_lt hn)] at h1
              rw [List.getElem?_append_right (by rw [← M.len]; exact Nat.le_of_not_lt hn)] at h2
              have h1' : a = D ∧ k - μ.length = 0 := by
                cases e : k - μ.length with
                | zero => rw [e] at h1; simp at h1; exact ⟨h1.symm, rfl⟩
                | succ k => rw [e] at h1; simp at h1
              rw [M.len] at h1'
              rw [h1'.2] at h2
              simp at h2
              subst h2
              rw [h1'.1]
              exact ⟨accV, hL, ra.mo mo⟩
      | some u =>
        simp only [e] at fin hj
        refine .inr ⟨hj.1, fun H' => ∃ (m : Mem) (μ : List Addr) (acc : List U) (accV : List V), Step X.K μ1 H1 μ H' ∧ D ∉ μ ∧ H' D = some (.lst accV) ∧ RUs X.K H' μ acc accV ∧ MOk X.K H' μ m ∧ Fin acc (compN src.next g t fe (wipeU ρ vs) n (i + 1) m), fun H' z => ⟨n, Nat.lt_succ_self n, z⟩, fun x H' y => ?_⟩
        obtain ⟨s2, M2, r2⟩ := hj.2 x H' y
        have E2 := (E1.step st).step s2
        refine hg u (wipeU ρ vs) m x _ H' μ _ r2 E2 M2 ?_
        cases q1 : g u (wipeU ρ vs) m with
        | none => simp only [q1] at fin; exact False.elim fin
        | some z =>
          obtain ⟨ρ3, m3⟩ := z
          simp only [q1] at fin
          refine fun μ3 H3 s3 M3 σ3 E3 w3 => ⟨w3.trans ?_, ?_⟩
          · -- wiped twice
            have idem : ∀ (σ : L2.St) (ws us : List Nat), (∀ i ∈ ws, i ∈ us) → wipe (wipe σ ws) us = wipe σ us := by
              intro σ ws
              induction ws with
              | nil => intro us _; rfl
              | cons w ws ih =>
                intro us h
                rw [show wipe σ (w :: ws) = (wipe σ ws).set w none from rfl, wipe_set (h w (by simp)), ih us fun i hi => h i (by simp [hi])]
            exact idem σ vs vs fun _ h => h
          cases q2 : toO (t ρ3 m3) with
          | none => simp only [q2] at fin; exact False.elim fin
          | some z =>
            obtain ⟨b, m4⟩ := z
            simp only [q2] at fin
            refine ⟨ρ3, m3, μ3, E3, M3, toO_post (w := wX X c) q2 fun μ4 H4 s4 M4 => ?_⟩
            have st4 := ((st.trans s2).trans s3).trans s4
            have stay4 := ((s2.trans s3).trans s4)
            have hL4 : H4 D = some (.lst accV) := stay4.keep D _ hL nD (fun ps z => by cases z)
            have nD4 := (stay4.stay D _ hL nD).1
            have ra4 := ra.step stay4
            cases b with
            | false => exact ⟨m4, μ4, acc, accV, st4, nD4, hL4, ra4, M4, fin⟩
            | true =>
              simp only [if_true] at fin ⊢
              cases q3 : toO (fe ρ3 m4) with
              | none => simp only [q3] at fin; exact False.elim fin
              | some z =>
                obtain ⟨y, m5⟩ := z
                simp only [q3] at fin
                refine ⟨ρ3, m4, μ4, E3.step s4, M4, toO_post (w := wX X c) q3 fun μ5 H5 s5 M5 v5 r5 => ?_⟩
                have hL5 : H5 D = some (.lst accV) := s5.keep D _ hL4 nD4 (fun ps z => by cases z)
                have nD5 := (s5.stay D _ hL4 nD4).1
                have ra5 := ra4.step s5
                have st5 := st4.trans s5
                have mo := Mono.grow (K := X.K) (μ := μ5) (ys := accV ++ [v5]) hL5
                cases q4 : compN src.next g t fe (wipeU ρ vs) n (i + 1) m5 with
                | none => rw [q4] at fin; exact False.elim fin
                | some z =>
                  obtain ⟨ys, m6⟩ := z
                  rw [q4] at fin
                  obtain ⟨hz, fin⟩ := fin
                  refine ⟨accV, hL5, ?_, m5, μ5, acc ++ [y], accV ++ [v5], st5.grow hD hL5, nD5, upd_same, (ra5.append (.cons r5 .nil)).mo mo, M5.mo mo fun a ha => by rw [upd_ne fun z : a = D => nD5 (by rw [← z]; exact ha)], ?_⟩
                  · have := ra5.length
                    rw [List.length_append, List.length_cons] at hz
                    omega
                  · rw [q4]
                    refine ⟨?_, ?_⟩
                    · rw [List.append_assoc]; exact hz
                    · rw [List.append_assoc]; exact fin
theorem se_lc (hg : GW X.K g0 g vs) (h : PE X e (tLc (rdI (wX X c) W f) g0 (rdT (wX X c) (fun _ _ _ _ => False) t) (rdE (wX X c) (fun _ _ _ _ => False) fe) vs)) : SE X c W e (dLc f g t fe vs) := h.imp fun σ H Q q => lc_of hg q
/-- name = [..] -/
theorem ss_lc {i : Nat} {st : Stmt} (hg : GW X.K g0 g vs) (h : PS X st (tAsg (tLc (rdI (wX X c) W f) g0 (rdT (wX X c) (fun _ _ _ _ => False) t) (rdE (wX X c) (fun _ _ _ _ => False) fe) vs) (L2.gName i))) : SS X c W st (sAsg (dLc f g t fe vs) (gName i)) :=
  h.imp fun D σ H ⟨ρ, m, μ, E, M, p⟩ => lc_of (W := W) hg ⟨ρ, m, μ, E, M, (PostS.thenE E p).imp fun μ1 H1 m1 u s1 M1 p1 v r => by
    have p2 := PostS.thenO p1
    exact (p2 μ1 H1 .refl M1).nx M1 ((E.step s1).set r)⟩
def rdTs (w : W0) (W : WX) (f : XT) : TT := rdT w W f
theorem sts_nil : PTs X [] (rdT (wX X c) W tYesU) := ⟨fun p s σ H Q I ⟨ρ, m, μ, E, M, q⟩ => pts_nil.run p s σ H Q I (q.ok_at M)⟩
theorem sts_one {d : Expr} (h : ST X c W d t) : PTs X [d] (rdT (wX X c) W t) := pts_one h
end
end Ev

set_option Elab.async false
set_option linter.all false
set_option maxRecDepth 100000
set_option maxHeartbeats 2000000
/-! Ev: defs, their calls, raise; calls of built-ins. -/
namespace Ev
open PySem PySem.Spec L2

/-! ### a def -/
def finS : RS → R U
  | .ok (.rt u) _ m => .ok u m
  | .ok .nx _ m => .ok .non m
  | .err x _ m => .err x m
  | _ => .bad
/-- a body with l names, called with us -/
def runB (l n : Nat) (b : SD) (us : List U) (m : Mem) : R U := if us.length = n then finS (b (us.map some ++ List.replicate (l - us.length) none) m) else .bad
def spF (K : PySem.W.Frag) (c : Nat → Addr) (n : Nat) (F : List U → Mem → R U) : Sp := fun vs H Q E => vs.length = n ∧ ∃ us m μ, RUs K H μ us vs ∧ MOk K H μ m ∧ Post ⟨K, c⟩ (fun cls d _ H' => E cls d H') [] μ H (F us m) fun μ' H' _ u => ∀ v, RU K H' μ' u v → Q v H'
theorem start_ok {K : PySem.W.Frag} {H : Hp} {μ : List Addr} {us : List U} {vs : List V} {N : List Str} (r : RUs K H μ us vs) : EOk K H μ (us.map some ++ List.replicate (N.length - us.length) none) (L2.start N vs) := by
  unfold L2.start
  refine ⟨by simp [r.length], fun i u h => ?_⟩
  by_cases hi : i < us.length
  · rw [List.getElem?_append_left (by simpa using hi), List.getElem?_map] at h
    cases e : us[i]? with
    | none => rw [e] at h; cases h
    | some x =>
      rw [e] at h
      cases h
      obtain ⟨v, h1, h2⟩ := r.get e
      refine ⟨v, ?_, h2⟩
      rw [List.getElem?_append_left (by rw [List.length_map, ← r.length]; exact hi), List.getElem?_map, h1]
      rfl
  · rw [List.getElem?_append_right (by simpa using Nat.le_of_not_lt hi)] at h
    have := List.mem_of_getElem? h
    rw [List.mem_replicate] at this
    cases this.2
section
variable {P : Program} {w : World} {K : PySem.W.Frag} {mg : Str → Option Value} {base : Heap} {c : Nat → Addr}
theorem fn_ev {x qual : Str} {st : Stmt} {f : Addr} {fd : FuncData} {N ps : List Str} {k : Nat} {b : SD} (F : Fun K x qual st f fd) (S : FnScope N ps (defScope st))
    (hbody : ∀ (cdv : Value) (A : Around) (outer : List PySem.Env) (s : Shared) (H : Hp) (E : XK), Room k (A.deeper (PyProof.Rows.envOfC qual (defScope st) s.heap.objs.size f cdv)) →
      SB (cxOf (L2.CX P w) P w K mg base N qual (defScope st) f cdv A outer s H E) c (fun cls d _ H' => E cls d H') (defBody st) b) : FnOk P w K mg base (L2.CX P w) (k + 1) f fd ps (spF K c ps.length (runB N.length ps.length b)) :=
  F.okX S (fun vs H Q E h => h.1) fun cdv A outer s H vs Q E hr h => ⟨_, hbody cdv A outer s H E hr, by
    obtain ⟨hl, us, m, μ, r, M, p⟩ := h
    have hu : us.length = ps.length := r.length.trans hl
    unfold runB at p
    rw [if_pos hu] at p
    refine ⟨_, m, μ, start_ok r, M, ?_⟩
    cases e : b (us.map some ++ List.replicate (N.length - us.length) none) m with
    | bad => rw [e] at p; exact False.elim p
    | err x ρ' m' => rw [e] at p; exact fun μ' H' σ' d s' M' _ ex => p μ' H' d s' M' ex
    | ok fl ρ' m' =>
      rw [e] at p
      cases fl with
      | nx => exact fun μ' H' σ' s' M' _ => p μ' H' s' M' _ .non
      | rt u => exact fun μ' H' σ' s' M' _ => p μ' H' s' M'
      | bk => exact False.elim p
      | ct => exact False.elim p⟩
theorem fn_ev2 {x qual : Str} {st : Stmt} {f : Addr} {fd : FuncData} {N ps : List Str} {k l n : Nat} {b : SD} {F0 : List U → Mem → R U} (F : Fun K x qual st f fd) (S : FnScope N ps (defScope st)) (hl : N.length = l) (hn : ps.length = n) (hF : F0 = runB l n b)
    (hbody : ∀ (cdv : Value) (A : Around) (outer : List PySem.Env) (s : Shared) (H : Hp) (E : XK), Room k (A.deeper (PyProof.Rows.envOfC qual (defScope st) s.heap.objs.size f cdv)) →
      SB (cxOf (L2.CX P w) P w K mg base N qual (defScope st) f cdv A outer s H E) c (fun cls d _ H' => E cls d H') (defBody st) b) : FnOk P w K mg base (L2.CX P w) (k + 1) f fd ps (spF K c n F0) := by
  subst hl hn hF
  exact fn_ev F S hbody
end
section
variable {X : Cx} {c : Nat → Addr} {W : WX} {e : Expr} {f : XD} {fr : XL} {es : List Expr}
theorem se_call {st : Expr} {n : Nat} {F : List U → Mem → R U} (h : PE X st (tCallS (spF X.K c n F) (WE W) (rdL (wX X c) W fr))) (hn : ∀ us m, us.length ≠ n → F us m = .bad) : SE X c W st (dCall F fr) :=
  h.imp fun σ H Q ⟨ρ, m, μ, E, M, p⟩ => ⟨ρ, m, μ, E, M, p.bind.imp fun μ1 H1 m1 us s1 M1 p1 vs rs => by
    have hu : us.length = n := by
      by_cases h : us.length = n
      · exact h
      · rw [hn us m1 h] at p1; exact False.elim p1
    refine ⟨rs.length.symm.trans hu, us, m1, μ1, rs, M1, ?_⟩
    cases q : F us m1 with
    | ok u m2 => rw [q] at p1; exact p1
    | err x m2 => rw [q] at p1; exact p1
    | bad => rw [q] at p1; exact p1⟩
theorem runB_bad {l n : Nat} {b : SD} : ∀ us m, us.length ≠ n → runB l n b us m = .bad := fun us m h => by unfold runB; rw [if_neg h]
/-! raise X('..') of a class without an own __init__ -/
def sRaise (k : Nat) : SD := fun ρ m => .err ⟨k, none⟩ ρ m
def sBad : SD := fun _ _ => .bad
theorem ss_raise {k : Nat} {st : Stmt} (h : PS X st (fun _ σ H => W (.ref (c k)) none σ H)) : SS X c W st (sRaise k) :=
  h.imp fun D σ H ⟨ρ, m, μ, E, M, p⟩ => p μ H σ none .refl M E rfl
theorem ss_never {st : Stmt} : SS X c W st sBad := ps_never.imp fun D σ H ⟨ρ, m, μ, E, M, p⟩ => p
/-! ### built-ins -/
theorem se_b {st : Expr} {F : List U → Mem → O U} (h : PE X st (tCB (rdC X.K F) (rdL (wX X c) W fr))) : SE X c W st (dB F fr) :=
  h.imp fun σ H Q ⟨ρ, m, μ, E, M, p⟩ => ⟨ρ, m, μ, E, M, p.bind.imp fun μ1 H1 m1 us s1 M1 p1 vs rs => ⟨us, m1, μ1, rs, M1, p1.o⟩⟩
end

def oLen : List U → Mem → O U
  | [.str z], m => if z.length ≤ sizeLine then some (.int z.length, m) else none
  | [.ref n], m => match m[n]? with
    | some (.lst us) => some (.int us.length, m)
    | some (.dK kvs) => some (.int kvs.length, m)
    | _ => none
  | [.tup us], m => some (.int us.length, m)
  | [.rol us], m => some (.int us.length, m)
  | _, _ => none
def oAbs : List U → Mem → O U
  | [.int i], m => some (.int (if i < 0 then -i else i), m)
  | _, _ => none
def oInt : List U → Mem → O U
  | [.int i], m => some (.int i, m)
  | [.bl b], m => some (.int (if b then 1 else 0), m)
  | _, _ => none
def oMax2 : List U → Mem → O U
  | [.int i, .int j], m => some (.int (if j > i then j else i), m)
  | _, _ => none
def oMin2 : List U → Mem → O U
  | [.int i, .int j], m => some (.int (if j < i then j else i), m)
  | _, _ => none
def oToTup : List U → Mem → O U
  | [u], m => (itemsOf m u).map fun us => (.tup us, m)
  | _, _ => none
def oToLst : List U → Mem → O U
  | [u], m => (itemsOf m u).map fun us => (.ref m.length, m ++ [.lst us])
  | _, _ => none
def bools : List U → Option (List Bool)
  | [] => some []
  | .bl b :: r => (bools r).map (b :: ·)
  | _ :: _ => none
def nums : List U → Option (List Int)
  | [] => some []
  | .int b :: r => (nums r).map (b :: ·)
  | _ :: _ => none
def oAll : List U → Mem → O U
  | [.ref n], m => match m[n]? with
    | some (.lst us) => (bools us).map fun bs => (.bl (bs.all id), m)
    | _ => none
  | _, _ => none
def oAny : List U → Mem → O U
  | [.ref n], m => match m[n]? with
    | some (.lst us) => (bools us).map fun bs => (.bl (bs.any id), m)
    | _ => none
  | _, _ => none
theorem bools_ok {K : PySem.W.Frag} {H : Hp} {μ : List Addr} : ∀ {us : List U} {vs : List V} {bs : List Bool}, RUs K H μ us vs → bools us = some bs → vs = bs.map V.bl
  | _, _, _, .nil, h => by cases h; rfl
  | _, _, _, .cons r t, h => by
    cases r with
    | bl b =>
      rw [bools] at h
      cases q : bools _ with
      | none => rw [q] at h; cases h
      | some bs => rw [q] at h; cases h; rw [bools_ok t q]; rfl
    | _ => cases h
theorem nums_ok {K : PySem.W.Frag} {H : Hp} {μ : List Addr} : ∀ {us : List U} {vs : List V} {bs : List Int}, RUs K H μ us vs → nums us = some bs → vs = bs.map V.int
  | _, _, _, .nil, h => by cases h; rfl
  | _, _, _, .cons r t, h => by
    cases r with
    | int b =>
      rw [nums] at h
      cases q : nums _ with
      | none => rw [q] at h; cases h
      | some bs => rw [q] at h; cases h; rw [nums_ok t q]; rfl
    | _ => cases h
theorem RUs.one {K : PySem.W.Frag} {H : Hp} {μ : List Addr} {u : U} {vs : List V} (r : RUs K H μ [u] vs) : ∃ v, vs = [v] ∧ RU K H μ u v := by
  cases r with | cons r t => cases t; exact ⟨_, rfl, r⟩
theorem RUs.two {K : PySem.W.Frag} {H : Hp} {μ : List Addr} {u z : U} {vs : List V} (r : RUs K H μ [u, z] vs) : ∃ v y, vs = [v, y] ∧ RU K H μ u v ∧ RU K H μ z y := by
  cases r with | cons r t => cases t with | cons r2 t => cases t; exact ⟨_, _, rfl, r, r2⟩
theorem RU.i {K : PySem.W.Frag} {H : Hp} {μ : List Addr} {i : Int} {v : V} (r : RU K H μ (.int i) v) : v = .int i := by cases r; rfl
theorem RU.s {K : PySem.W.Frag} {H : Hp} {μ : List Addr} {i : Str} {v : V} (r : RU K H μ (.str i) v) : v = .str i := by cases r; rfl
theorem RU.b {K : PySem.W.Frag} {H : Hp} {μ : List Addr} {i : Bool} {v : V} (r : RU K H μ (.bl i) v) : v = .bl i := by cases r; rfl
theorem RU.cl {K : PySem.W.Frag} {H : Hp} {μ : List Addr} {m : Mem} (M : MOk K H μ m) {n : Nat} {v : V} {us : List U} (r : RU K H μ (.ref n) v) (e : m[n]? = some (.lst us)) : ∃ a vs, v = .ref a ∧ μ[n]? = some a ∧ H a = some (.lst vs) ∧ RUs K H μ us vs := by
  cases r with
  | ref h =>
    obtain ⟨vs, q, t⟩ := M.cell _ _ _ h e
    exact ⟨_, vs, rfl, h, q, t⟩
section
variable {X : Cx}
theorem b_len : CallR X (.builtin "len") (rdC X.K oLen) := by
  intro pins s σ H xs us Q I rx h
  obtain ⟨vs, m, μ, r, M, p⟩ := h
  unfold oLen at p
  split at p
  · obtain ⟨v, rfl, r1⟩ := r.one
    cases r1.s
    split at p
    · rename_i hz
      exact call_len pins s σ H _ us Q I rx ⟨_, _, rfl, ⟨hz, rfl⟩, p.val M (.int _)⟩
    · exact no_op p
  · obtain ⟨v, rfl, r1⟩ := r.one
    split at p
    · rename_i e1
      obtain ⟨a, ws, rfl, _, hq, t⟩ := r1.cl M e1
      refine call_len_seq pins s σ H _ us Q I rx ⟨a, ws, rfl, .inl (SqL.of hq), ?_⟩
      rw [← t.length]
      exact p.val M (.int _)
    · rename_i e1
      cases r1 with
      | ref h =>
        obtain ⟨ws, hq, t⟩ := M.cell _ _ _ h e1
        refine call_lenD pins s σ H _ us Q I rx ⟨_, ws, rfl, hq, ?_⟩
        have : ws.length = _ := (Paired.length t).symm
        rw [this]
        exact p.val M (.int _)
    · exact no_op p
  · obtain ⟨v, rfl, r1⟩ := r.one
    cases r1 with
    | tup hq t =>
      refine call_len_seq pins s σ H _ us Q I rx ⟨_, _, rfl, .inr hq, ?_⟩
      rw [← t.length]
      exact p.val M (.int _)
  · obtain ⟨v, rfl, r1⟩ := r.one
    cases r1 with
    | rol hq t =>
      refine call_len_seq pins s σ H _ us Q I rx ⟨_, _, rfl, .inl (rol_sq hq), ?_⟩
      rw [← t.length]
      exact p.val M (.int _)
  · exact no_op p
theorem b_abs : CallR X (.builtin "abs") (rdC X.K oAbs) := by
  intro pins s σ H xs us Q I rx h
  obtain ⟨vs, m, μ, r, M, p⟩ := h
  unfold oAbs at p
  split at p
  · obtain ⟨v, rfl, r1⟩ := r.one
    cases r1.i
    exact call_abs pins s σ H _ us Q I rx ⟨_, rfl, p.val M (.int _)⟩
  · exact no_op p
theorem b_int : CallR X (.type "int") (rdC X.K oInt) := by
  intro pins s σ H xs us Q I rx h
  obtain ⟨vs, m, μ, r, M, p⟩ := h
  unfold oInt at p
  split at p
  · obtain ⟨v, rfl, r1⟩ := r.one
    cases r1.i
    exact call_int1 pins s σ H _ us Q I rx (.inl ⟨_, rfl, p.val M (.int _)⟩)
  · obtain ⟨v, rfl, r1⟩ := r.one
    cases r1.b
    exact call_int1 pins s σ H _ us Q I rx (.inr ⟨_, rfl, p.val M (.int _)⟩)
  · exact no_op p
theorem b_max2 (hc : X.calm = true) : CallR X (.builtin "max") (rdC X.K oMax2) := by
  intro pins s σ H xs us Q I rx h
  obtain ⟨vs, m, μ, r, M, p⟩ := h
  unfold oMax2 at p
  split at p
  · obtain ⟨v, y, rfl, r1, r2⟩ := r.two
    cases r1.i; cases r2.i
    exact call_max2 hc pins s σ H _ us Q I rx ⟨_, _, rfl, p.val M (.int _)⟩
  · exact no_op p
theorem b_min2 (hc : X.calm = true) : CallR X (.builtin "min") (rdC X.K oMin2) := by
  intro pins s σ H xs us Q I rx h
  obtain ⟨vs, m, μ, r, M, p⟩ := h
  unfold oMin2 at p
  split at p
  · obtain ⟨v, y, rfl, r1, r2⟩ := r.two
    cases r1.i; cases r2.i
    exact call_min2 hc pins s σ H _ us Q I rx ⟨_, _, rfl, p.val M (.int _)⟩
  · exact no_op p
theorem b_tuple : CallR X (.type "tuple") (rdC X.K oToTup) := by
  intro pins s σ H xs us Q I rx h
  obtain ⟨vs, m, μ, r, M, p⟩ := h
  unfold oToTup at p
  split at p
  · obtain ⟨v, rfl, r1⟩ := r.one
    cases e : itemsOf m _ with
    | none => rw [e] at p; exact no_op p
    | some ws =>
      rw [e] at p
      obtain ⟨a, zs, rfl, hq, t, h1, h2⟩ := items_ok M r1 e
      cases hT : isT _ with
      | true => exact call_tuple_of pins s σ H _ us Q I rx ⟨a, zs, rfl, .inr ⟨h1 hT, p.val M (.tup (h1 hT) t)⟩⟩
      | false => exact call_tuple_of pins s σ H _ us Q I rx ⟨a, zs, rfl, .inl ⟨h2 hT, fun l hl => p.tup M t hl⟩⟩
  · exact no_op p
theorem b_list : CallR X (.type "list") (rdC X.K oToLst) := by
  intro pins s σ H xs us Q I rx h
  obtain ⟨vs, m, μ, r, M, p⟩ := h
  unfold oToLst at p
  split at p
  · obtain ⟨v, rfl, r1⟩ := r.one
    cases e : itemsOf m _ with
    | none => rw [e] at p; exact no_op p
    | some ws =>
      rw [e] at p
      obtain ⟨a, zs, rfl, hq, t, h1, h2⟩ := items_ok M r1 e
      exact call_list_of pins s σ H _ us Q I rx ⟨a, zs, rfl, hq, fun l hl => p.lst M t hl⟩
  · exact no_op p
theorem b_all (hc : X.calm = true) : CallR X (.builtin "all") (rdC X.K oAll) := by
  intro pins s σ H xs us Q I rx h
  obtain ⟨vs, m, μ, r, M, p⟩ := h
  unfold oAll at p
  split at p
  · obtain ⟨v, rfl, r1⟩ := r.one
    split at p
    · rename_i e1
      obtain ⟨a, ws, rfl, _, hq, t⟩ := r1.cl M e1
      cases e2 : bools _ with
      | none => rw [e2] at p; exact no_op p
      | some bs =>
        rw [e2] at p
        have := bools_ok t e2
        subst this
        exact cr_all hc pins s σ H _ us Q I rx ⟨a, bs, rfl, SqL.of hq, p.val M (.bl _)⟩
    · exact no_op p
  · exact no_op p
theorem b_any (hc : X.calm = true) : CallR X (.builtin "any") (rdC X.K oAny) := by
  intro pins s σ H xs us Q I rx h
  obtain ⟨vs, m, μ, r, M, p⟩ := h
  unfold oAny at p
  split at p
  · obtain ⟨v, rfl, r1⟩ := r.one
    split at p
    · rename_i e1
      obtain ⟨a, ws, rfl, _, hq, t⟩ := r1.cl M e1
      cases e2 : bools _ with
      | none => rw [e2] at p; exact no_op p
      | some bs =>
        rw [e2] at p
        have := bools_ok t e2
        subst this
        exact cr_any hc pins s σ H _ us Q I rx ⟨a, bs, rfl, SqL.of hq, p.val M (.bl _)⟩
    · exact no_op p
  · exact no_op p
end

/-! ### isinstance -/
inductive Ty where
  | int | str | tuple | list | dict | bool
def Ty.nm : Ty → String
  | .int => "int" | .str => "str" | .tuple => "tuple" | .list => "list" | .dict => "dict" | .bool => "bool"
def Ty.isL : Ty → Bool
  | .list => true
  | _ => false
def Ty.isD : Ty → Bool
  | .dict => true
  | _ => false
def isTy (m : Mem) : Ty → U → Option Bool
  | t, .non => some false
  | .int, .bl _ => some true
  | .bool, .bl _ => some true
  | _, .bl _ => some false
  | .int, .int _ => some true
  | _, .int _ => some false
  | .str, .str _ => some true
  | _, .str _ => some false
  | .tuple, .tup _ => some true
  | _, .tup _ => some false
  | .list, .rol _ => some true
  | _, .rol _ => some false
  | t, .ref n => match m[n]? with
    | some (.lst _) => some t.isL
    | some (.dF _) => none
    | some _ => some t.isD
    | none => none
  | _, .ob _ => none
def dIsi (T : Ty) (f : XD) : XD := fun ρ m => (f ρ m).bind fun u m1 => match isTy m1 T u with
  | some b => .ok (.bl b) m1
  | none => .bad
theorem tyX_tup {K : PySem.W.Frag} {H : Hp} {a : Addr} {xs : List V} (h : SqT K H a xs) : TyX K H (.ref a) (.type "tuple") := by
  rcases h with (h | ⟨o, h⟩) | ⟨o, its, n, h, hc, _⟩
  · exact .base (.tup h)
  · exact .fTuple h
  · exact .kTuple h hc
theorem tyX_lst {K : PySem.W.Frag} {H : Hp} {a : Addr} {xs : List V} (h : SqL K H a xs) : TyX K H (.ref a) (.type "list") := by
  rcases h with (h | ⟨o, h⟩) | ⟨o, its, n, h, hc, _⟩
  · exact .base (.lst h)
  · exact .base (.frz h)
  · exact .kList h hc
section
variable {X : Cx} {c : Nat → Addr} {W : WX} {f : XD}
theorem se_isi {T : Ty} {st : Expr} (h : PE X st (tCB (rIsi X.K) (tCons (rdE (wX X c) W f) (tCons (tC (.ty T.nm)) tNil)))) : SE X c W st (dIsi T f) :=
  h.imp fun σ H Q ⟨ρ, m, μ, E, M, p⟩ => ⟨ρ, m, μ, E, M, p.bind.imp fun μ1 H1 m1 u s1 M1 p1 v r => by
    have fin : ∀ {b : Bool} {n : String}, isTy m1 T u = some b → TyX X.K H1 v (.type n) → kitB n T.nm = some b → rIsi X.K [v, .ty T.nm] H1 Q := fun {b n} e ty k => by
      rw [e] at p1
      exact ⟨v, _, _, _, b, rfl, .ty _, ty, kit_ty k, p1.ok_at M1 _ (.bl b)⟩
    show rIsi X.K [v, .ty T.nm] H1 Q
    cases r with
    | non => cases T <;> exact fin rfl (.base .non) (by decide +kernel)
    | bl b => cases T <;> exact fin rfl (.base (.bl b)) (by decide +kernel)
    | int i => cases T <;> exact fin rfl (.base (.int i)) (by decide +kernel)
    | str i => cases T <;> exact fin rfl (.base (.str i)) (by decide +kernel)
    | tup hq t => cases T <;> exact fin rfl (tyX_tup hq) (by decide +kernel)
    | rol hq t => cases T <;> exact fin rfl (tyX_lst (rol_sq hq)) (by decide +kernel)
    | @ref n a hn =>
      have M1' := M1.cell n a
      cases e : m1[n]? with
      | none => cases T <;> (simp only [isTy, e] at p1; exact False.elim p1)
      | some k =>
        cases k with
        | lst us =>
          obtain ⟨vs, hq, t⟩ := M1' _ hn e
          have e' : isTy m1 T (.ref n) = some T.isL := by cases T <;> simp [isTy, e]
          cases T <;> exact fin e' (tyX_lst (SqL.of hq)) (by decide +kernel)
        | dK us =>
          obtain ⟨vs, hq, t⟩ := M1' _ hn e
          have e' : isTy m1 T (.ref n) = some T.isD := by cases T <;> simp [isTy, e]
          cases T <;> exact fin e' (.base (.dK hq)) (by decide +kernel)
        | dT us =>
          obtain ⟨vs, hq, t⟩ := M1' _ hn e
          have e' : isTy m1 T (.ref n) = some T.isD := by cases T <;> simp [isTy, e]
          cases T <;> exact fin e' (.base (.dT hq)) (by decide +kernel)
        | dF us => cases T <;> (simp only [isTy, e] at p1; exact False.elim p1)
    | ob w => cases T <;> (simp only [isTy] at p1; exact False.elim p1)⟩
end
end Ev

set_option Elab.async false
set_option linter.all false
set_option maxRecDepth 100000
set_option maxHeartbeats 2000000
/-! Ev: methods of built-in types; sums, orders, walks of several things. -/
namespace Ev
open PySem PySem.Spec L2

def rdM (K : PySem.W.Frag) (F : U → List U → Mem → O U) : V → List V → Hp → VK → Prop := fun x xs H Q => ∃ u us m μ, RU K H μ u x ∧ RUs K H μ us xs ∧ MOk K H μ m ∧ PostO K μ H (F u us m) fun μ' H' _ z => ∀ v, RU K H' μ' z v → Q v H'
inductive MTy where
  | list | str | dict
def MTy.nm : MTy → String
  | .list => "list" | .str => "str" | .dict => "dict"
def isMT (m : Mem) : MTy → U → Bool
  | .list, .rol _ => true
  | .list, .ref n => match m[n]? with
    | some (.lst _) => true
    | _ => false
  | .dict, .ref n => match m[n]? with
    | some (.dK _) => true
    | some (.dT _) => true
    | _ => false
  | .str, .str _ => true
  | _, _ => false
theorem isMT_ok {K : PySem.W.Frag} {H : Hp} {μ : List Addr} {m : Mem} (M : MOk K H μ m) {T : MTy} {u : U} {v : V} (r : RU K H μ u v) (h : isMT m T u = true) : tyV K T.nm v H := by
  unfold isMT at h
  split at h
  · cases r with | rol hq t => exact .inl ⟨rfl, _, rol_sq hq⟩
  · split at h
    · rename_i e
      obtain ⟨a, vs, rfl, _, hq, _⟩ := r.cl M e
      exact .inl ⟨rfl, _, SqL.of hq⟩
    · cases h
  · cases r with
    | ref hn =>
      split at h
      · rename_i e
        obtain ⟨vs, hq, _⟩ := M.cell _ _ _ hn e
        exact .inr (.inr (.inl ⟨rfl, .inl ⟨_, hq⟩⟩))
      · rename_i e
        obtain ⟨vs, hq, _⟩ := M.cell _ _ _ hn e
        exact .inr (.inr (.inl ⟨rfl, .inr ⟨_, hq⟩⟩))
      · cases h
  · cases r; rfl
  · cases h
def dM (T : MTy) (F : U → List U → Mem → O U) (fo : XD) (fr : XL) : XD := fun ρ m => (fo ρ m).bind fun o m1 => if isMT m1 T o then (fr ρ m1).bind fun us m2 => ofO (F o us m2) else .bad
def dM0 (T : MTy) (F : U → List U → Mem → O U) (fo : XD) : XD := fun ρ m => (fo ρ m).bind fun o m1 => if isMT m1 T o then ofO (F o [] m1) else .bad
section
variable {X : Cx} {c : Nat → Addr} {W : WX} {fo : XD} {fr : XL}
theorem se_m {T : MTy} {F : U → List U → Mem → O U} {st : Expr} (h : PE X st (tBM X.K T.nm (rdM X.K F) (rdE (wX X c) W fo) (rdL (wX X c) W fr))) : SE X c W st (dM T F fo fr) :=
  h.imp fun σ H Q ⟨ρ, m, μ, E, M, p⟩ => ⟨ρ, m, μ, E, M, p.bind.imp fun μ1 H1 m1 u s1 M1 p1 v r => by
    split at p1
    · rename_i hT
      exact ⟨isMT_ok M1 r hT, ρ, m1, μ1, E.step s1, M1, p1.bind.imp fun μ2 H2 m2 us s2 M2 p2 vs rs => ⟨u, us, m2, μ2, r.step s2, rs, M2, p2.o⟩⟩
    · exact False.elim p1⟩
theorem se_m0 {T : MTy} {F : U → List U → Mem → O U} {st : Expr} (h : PE X st (tBM0 X.K T.nm (rdM X.K F) (rdE (wX X c) W fo))) : SE X c W st (dM0 T F fo) :=
  h.imp fun σ H Q ⟨ρ, m, μ, E, M, p⟩ => ⟨ρ, m, μ, E, M, p.bind.imp fun μ1 H1 m1 u s1 M1 p1 v r => by
    split at p1
    · rename_i hT
      exact ⟨isMT_ok M1 r hT, u, [], m1, μ1, r, .nil, M1, p1.o⟩
    · exact False.elim p1⟩
end
/-! ### of lists -/
def oAppend : U → List U → Mem → O U
  | .ref n, [u], m => match m[n]? with
    | some (.lst us) => if us.length < sizeLine then some (.non, m.set n (.lst (us ++ [u]))) else none
    | _ => none
  | _, _, _ => none
def oExtend : U → List U → Mem → O U
  | .ref n, [.ref k], m => match m[n]?, m[k]? with
    | some (.lst us), some (.lst ws) => if us.length + ws.length ≤ sizeLine then some (.non, m.set n (.lst (us ++ ws))) else none
    | _, _ => none
  | _, _, _ => none
def oPop : U → List U → Mem → O U
  | .ref n, [], m => match m[n]? with
    | some (.lst us) => (us[us.length - 1]?).map fun u => (u, m.set n (.lst us.dropLast))
    | _ => none
  | .ref n, [.int i], m => match m[n]? with
    | some (.lst us) => if -(2 ^ 63) ≤ i ∧ i < 2 ^ 63 then (match seqIndex? i us.length with
      | some k => (us[k]?).map fun u => (u, m.set n (.lst (us.eraseIdx k)))
      | none => none) else none
    | _ => none
  | _, _, _ => none
def oCountI : U → List U → Mem → O U
  | u, [.int k], m => match itemsOf m u with
    | some us => if isT u then none else (nums us).map fun ns => (.int (ns.count k : Nat), m)
    | none => none
  | _, _, _ => none
theorem RUs.dropLast {K : PySem.W.Frag} {H : Hp} {μ : List Addr} {us : List U} {vs : List V} (r : RUs K H μ us vs) : RUs K H μ us.dropLast vs.dropLast := by
  rw [List.dropLast_eq_take, List.dropLast_eq_take, r.length]
  exact r.take _
theorem RUs.erase {K : PySem.W.Frag} {H : Hp} {μ : List Addr} : ∀ {us : List U} {vs : List V} (k : Nat), RUs K H μ us vs → RUs K H μ (us.eraseIdx k) (vs.eraseIdx k)
  | _, _, _, .nil => .nil
  | _, _, 0, .cons _ t => t
  | _, _, k + 1, .cons r t => .cons r (RUs.erase k t)
section
variable {X : Cx}
/-- a cell's list becomes another one -/
theorem PostO.setL {K : PySem.W.Frag} {μ : List Addr} {H : Hp} {m : Mem} {n : Nat} {a : Addr} {vs vs' : List V} {us' : List U} {z : U} {v : V} {Q : VK} (p : PostO K μ H (some (z, m.set n (.lst us'))) fun μ' H' _ z => ∀ v, RU K H' μ' z v → Q v H') (M : MOk K H μ m) (hn : μ[n]? = some a) (hq : H a = some (.lst vs)) (t : RUs K H μ us' vs')
    (r : RU K H μ z v) : Q v (upd H a (.lst vs')) :=
  p μ _ (.set (List.mem_of_getElem? hn) hq rfl) (M.set hn hq rfl ⟨vs', upd_same, t.step (.set (List.mem_of_getElem? hn) hq rfl)⟩) v (r.step (.set (List.mem_of_getElem? hn) hq rfl))
theorem m_append : MtR X "list.append" (rdM X.K oAppend) := by
  intro pins s σ H x xs v us Q I rx rxs h
  obtain ⟨u, ws, m, μ, r, rs, M, p⟩ := h
  unfold oAppend at p
  split at p
  · split at p
    · rename_i e
      split at p
      · rename_i hz
        obtain ⟨y, rfl, ry⟩ := rs.one
        obtain ⟨a, vs, rfl, hn, hq, t⟩ := r.cl M e
        exact mt_append pins s σ H _ _ v us Q I rx rxs ⟨a, vs, y, rfl, rfl, hq, by rw [← t.length]; exact hz, p.setL M hn hq (t.append (.cons ry .nil)) .non⟩
      · exact no_op p
    · exact no_op p
  · exact no_op p
theorem m_extend : MtR X "list.extend" (rdM X.K oExtend) := by
  intro pins s σ H x xs v us Q I rx rxs h
  obtain ⟨u, ws, m, μ, r, rs, M, p⟩ := h
  unfold oExtend at p
  split at p
  · split at p
    · rename_i e e2
      split at p
      · rename_i hz
        obtain ⟨y, rfl, ry⟩ := rs.one
        obtain ⟨a, vs, rfl, hn, hq, t⟩ := r.cl M e
        obtain ⟨b, zs, rfl, hn2, hq2, t2⟩ := ry.cl M e2
        exact mt_extend pins s σ H _ _ v us Q I rx rxs ⟨a, b, vs, zs, rfl, rfl, hq, hq2, by rw [← t.length, ← t2.length]; exact hz, p.setL M hn hq (t.append t2) .non⟩
      · exact no_op p
    · exact no_op p
  · exact no_op p
theorem m_pop : MtR X "list.pop" (rdM X.K oPop) := by
  intro pins s σ H x xs v us Q I rx rxs h
  obtain ⟨u, ws, m, μ, r, rs, M, p⟩ := h
  unfold oPop at p
  split at p
  · split at p
    · rename_i us1 e
      cases e3 : us1[us1.length - 1]? with
      | none => rw [e3] at p; exact no_op p
      | some z =>
        rw [e3] at p
        obtain ⟨a, vs, rfl, hn, hq, t⟩ := r.cl M e
        obtain ⟨y, h1, ry⟩ := t.get e3
        cases rs
        exact mt_pop pins s σ H _ _ v us Q I rx rxs ⟨a, vs, y, rfl, rfl, hq, by rw [← t.length]; exact h1, p.setL M hn hq t.dropLast ry⟩
    · exact no_op p
  · split at p
    · rename_i us1 e
      split at p
      · rename_i hz
        split at p
        · rename_i k ek
          cases e3 : us1[k]? with
          | none => rw [e3] at p; exact no_op p
          | some z =>
            rw [e3] at p
            obtain ⟨a, vs, rfl, hn, hq, t⟩ := r.cl M e
            obtain ⟨y, h1, ry⟩ := t.get e3
            obtain ⟨y2, rfl, r2⟩ := rs.one
            cases r2.i
            exact mt_popAt pins s σ H _ _ v us Q I rx rxs ⟨a, vs, _, k, y, rfl, rfl, hq, hz.1, hz.2, by rw [← t.length]; exact ek, h1, p.setL M hn hq (t.erase k) ry⟩
        · exact no_op p
      · exact no_op p
    · exact no_op p
  · exact no_op p
theorem m_countI : MtR X "list.count" (rdM X.K oCountI) := by
  intro pins s σ H x xs v us Q I rx rxs h
  obtain ⟨u, ws, m, μ, r, rs, M, p⟩ := h
  unfold oCountI at p
  split at p
  · split at p
    · rename_i us1 e
      split at p
      · exact no_op p
      · rename_i hT
        cases e2 : nums us1 with
        | none => rw [e2] at p; exact no_op p
        | some ns =>
          rw [e2] at p
          obtain ⟨y, rfl, ry⟩ := rs.one
          cases ry.i
          obtain ⟨a, vs, rfl, hq, t, h1, h2⟩ := items_ok M r e
          have hl := h2 (by simpa using hT)
          rw [nums_ok t e2] at hl
          exact mt_lcount pins s σ H _ _ v us Q I rx rxs ⟨a, ns, _, rfl, rfl, hl, p.val M (.int _)⟩
    · exact no_op p
  · exact no_op p
end
/-! ### of texts -/
def txts : List U → Option (List Str)
  | [] => some []
  | .str b :: r => (txts r).map (b :: ·)
  | _ :: _ => none
theorem txts_ok {K : PySem.W.Frag} {H : Hp} {μ : List Addr} : ∀ {us : List U} {vs : List V} {bs : List Str}, RUs K H μ us vs → txts us = some bs → vs = bs.map V.str
  | _, _, _, .nil, h => by cases h; rfl
  | _, _, _, .cons r t, h => by
    cases r with
    | str b =>
      rw [txts] at h
      cases q : txts _ with
      | none => rw [q] at h; cases h
      | some bs => rw [q] at h; cases h; rw [txts_ok t q]; rfl
    | _ => cases h
/-- a text's method without arguments -/
def oS0 (ok : Str → Bool) (f : Str → U) : U → List U → Mem → O U
  | .str z, [], m => if ok z then some (f z, m) else none
  | _, _, _ => none
def oS1 (ok : Str → Str → Bool) (f : Str → Str → U) : U → List U → Mem → O U
  | .str z, [.str y], m => if ok z y then some (f z y, m) else none
  | _, _, _ => none
def oSI (f : Str → Str → Int → U) : U → List U → Mem → O U
  | .str z, [.str y, .int i], m => some (f z y i, m)
  | _, _, _ => none
def lenOk (z : Str) : Bool := decide (z.length ≤ sizeLine)
def oStrip := oS0 lenOk fun z => .str (Txt.strip z)
def oRstrip := oS0 lenOk fun z => .str (Txt.rstrip z)
def oLower := oS0 (fun z => decide (z.length ≤ 5592405)) fun z => .str (Txt.lower z)
def oIsdigit := oS0 (fun _ => true) fun z => .bl (Txt.isdigit z)
def oIsalpha := oS0 (fun _ => true) fun z => .bl (Txt.isalpha z)
def oIsascii := oS0 (fun _ => true) fun z => .bl (Txt.isascii z)
def oIsprintable := oS0 (fun _ => true) fun z => .bl (Txt.isprintable z)
def oFind := oS1 (fun _ _ => true) fun z y => .int (Txt.find z y)
def oFind3 := oSI fun z y i => .int (Txt.find3 z y i)
section
variable {X : Cx}
theorem m_s0 {id : String} {ok : Str → Bool} {f : Str → U} {C : Str → Prop} {g : Str → V} (h : MtR X id (fun x xs H Q => ∃ a, x = .str a ∧ xs = [] ∧ C a ∧ Q (g a) H)) (hc : ∀ z, ok z = true → C z) (hr : ∀ (K : PySem.W.Frag) H μ z, RU K H μ (f z) (g z)) : MtR X id (rdM X.K (oS0 ok f)) := by
  intro pins s σ H x xs v us Q I rx rxs q
  obtain ⟨u, ws, m, μ, r, rs, M, p⟩ := q
  unfold oS0 at p
  split at p
  · split at p
    · rename_i hz
      cases r.s; cases rs
      exact h pins s σ H _ _ v us Q I rx rxs ⟨_, rfl, rfl, hc _ hz, p.val M (hr _ _ _ _)⟩
    · exact no_op p
  · exact no_op p
theorem m_s1 {id : String} {ok : Str → Str → Bool} {f : Str → Str → U} {g : Str → Str → V} (h : MtR X id (fun x xs H Q => ∃ a b, x = .str a ∧ xs = [.str b] ∧ Q (g a b) H)) (hr : ∀ (K : PySem.W.Frag) H μ z y, RU K H μ (f z y) (g z y)) : MtR X id (rdM X.K (oS1 ok f)) := by
  intro pins s σ H x xs v us Q I rx rxs q
  obtain ⟨u, ws, m, μ, r, rs, M, p⟩ := q
  unfold oS1 at p
  split at p
  · split at p
    · obtain ⟨y, rfl, ry⟩ := rs.one
      cases r.s; cases ry.s
      exact h pins s σ H _ _ v us Q I rx rxs ⟨_, _, rfl, rfl, p.val M (hr _ _ _ _ _)⟩
    · exact no_op p
  · exact no_op p
theorem m_strip : MtR X "str.strip" (rdM X.K oStrip) := m_s0 (C := fun a => a.length ≤ sizeLine) (g := fun a => .str (Txt.strip a)) mt_strip (fun z h => of_decide_eq_true h) fun _ _ _ _ => .str _
theorem m_rstrip : MtR X "str.rstrip" (rdM X.K oRstrip) := m_s0 (C := fun a => a.length ≤ sizeLine) (g := fun a => .str (Txt.rstrip a)) mt_rstrip (fun z h => of_decide_eq_true h) fun _ _ _ _ => .str _
theorem m_lower : MtR X "str.lower" (rdM X.K oLower) := m_s0 (C := fun a => a.length ≤ 5592405) (g := fun a => .str (Txt.lower a)) mt_lower (fun z h => of_decide_eq_true h) fun _ _ _ _ => .str _
theorem m_isdigit : MtR X "str.isdigit" (rdM X.K oIsdigit) := m_s0 (C := fun _ => True) (g := fun a => .bl (Txt.isdigit a)) mt_isdigit (fun z h => trivial) fun _ _ _ _ => .bl _
theorem m_isalpha : MtR X "str.isalpha" (rdM X.K oIsalpha) := m_s0 (C := fun _ => True) (g := fun a => .bl (Txt.isalpha a)) mt_isalpha (fun z h => trivial) fun _ _ _ _ => .bl _
theorem m_isascii : MtR X "str.isascii" (rdM X.K oIsascii) := m_s0 (C := fun _ => True) (g := fun a => .bl (Txt.isascii a)) mt_isascii (fun z h => trivial) fun _ _ _ _ => .bl _
theorem m_isprintable : MtR X "str.isprintable" (rdM X.K oIsprintable) := m_s0 (C := fun _ => True) (g := fun a => .bl (Txt.isprintable a)) mt_isprintable (fun z h => trivial) fun _ _ _ _ => .bl _
theorem m_find : MtR X "str.find" (rdM X.K oFind) := m_s1 (g := fun a b => .int (Txt.find a b)) mt_find fun _ _ _ _ _ => .int _
theorem m_find3 : MtR X "str.find" (rdM X.K oFind3) := by
  intro pins s σ H x xs v us Q I rx rxs q
  obtain ⟨u, ws, m, μ, r, rs, M, p⟩ := q
  unfold oFind3 oSI at p
  split at p
  · obtain ⟨y, y2, rfl, ry, r2⟩ := rs.two
    cases r.s; cases ry.s; cases r2.i
    exact mt_find3 pins s σ H _ _ v us Q I rx rxs ⟨_, _, _, rfl, rfl, p.val M (.int _)⟩
  · exact no_op p
end
/-! ### sum, max, min of ints -/
def oSum : List U → Mem → O U
  | [u], m => match itemsOf m u with
    | some us => if isT u then none else (nums us).map fun ns => (.int ns.sum, m)
    | none => none
  | _, _ => none
def maxL : Int → List Int → Int
  | x, [] => x
  | x, y :: r => maxL (if y > x then y else x) r
def minL : Int → List Int → Int
  | x, [] => x
  | x, y :: r => minL (if y < x then y else x) r
def oMaxL : List U → Mem → O U
  | [u], m => match itemsOf m u with
    | some us => if isT u then none else match nums us with
      | some (n :: ns) => some (.int (maxL n ns), m)
      | _ => none
    | none => none
  | _, _ => none
def oMinL : List U → Mem → O U
  | [u], m => match itemsOf m u with
    | some us => if isT u then none else match nums us with
      | some (n :: ns) => some (.int (minL n ns), m)
      | _ => none
    | none => none
  | _, _ => none
theorem maxL_ok : ∀ (l : List Int) (x : Int), maxL x l ∈ x :: l ∧ ∀ y ∈ x :: l, y ≤ maxL x l
  | [], x => by simp [maxL]
  | y :: r, x => by
    obtain ⟨h1, h2⟩ := maxL_ok r (if y > x then y else x)
    rw [maxL]
    refine ⟨?_, fun z hz => ?_⟩
    · rcases List.mem_cons.mp h1 with e | e
      · rw [e]; split <;> simp
      · exact List.mem_cons_of_mem _ (List.mem_cons_of_mem _ e)
    · have h3 := h2 (if y > x then y else x) (by simp)
      have h4 : x ≤ (if y > x then y else x) ∧ y ≤ (if y > x then y else x) := by split <;> omega
      rcases List.mem_cons.mp hz with e | hz
      · subst e; exact Int.le_trans h4.1 h3
      · rcases List.mem_cons.mp hz with e | hz
        · subst e; exact Int.le_trans h4.2 h3
        · exact h2 z (List.mem_cons_of_mem _ hz)
theorem minL_ok : ∀ (l : List Int) (x : Int), minL x l ∈ x :: l ∧ ∀ y ∈ x :: l, minL x l ≤ y
  | [], x => by simp [minL]
  | y :: r, x => by
    obtain ⟨h1, h2⟩ := minL_ok r (if y < x then y else x)
    rw [minL]
    refine ⟨?_, fun z hz => ?_⟩
    · rcases List.mem_cons.mp h1 with e | e
      · rw [e]; split <;> simp
      · exact List.mem_cons_of_mem _ (List.mem_cons_of_mem _ e)
    · have h3 := h2 (if y < x then y else x) (by simp)
      have h4 : x ≥ (if y < x then y else x) ∧ y ≥ (if y < x then y else x) := by split <;> omega
      rcases List.mem_cons.mp hz with e | hz
      · subst e; exact Int.le_trans h3 h4.1
      · rcases List.mem_cons.mp hz with e | hz
        · subst e; exact Int.le_trans h3 h4.2
        · exact h2 z (List.mem_cons_of_mem _ hz)
section
variable {X : Cx}
theorem b_sum (hc : X.calm = true) : CallR X (.builtin "sum") (rdC X.K oSum) := by
  intro pins s σ H xs us Q I rx h
  obtain ⟨vs, m, μ, r, M, p⟩ := h
  unfold oSum at p
  split at p
  · obtain ⟨v, rfl, r1⟩ := r.one
    split at p
    · rename_i us1 e
      split at p
      · exact no_op p
      · rename_i hT
        cases e2 : nums us1 with
        | none => rw [e2] at p; exact no_op p
        | some ns =>
          rw [e2] at p
          obtain ⟨a, vs, rfl, hq, t, h1, h2⟩ := items_ok M r1 e
          have hl := h2 (by simpa using hT)
          rw [nums_ok t e2] at hl
          exact cr_sum hc pins s σ H _ us Q I rx ⟨a, ns, rfl, hl, p.val M (.int _)⟩
    · exact no_op p
  · exact no_op p
theorem b_maxL (hc : X.calm = true) : CallR X (.builtin "max") (rdC X.K oMaxL) := by
  intro pins s σ H xs us Q I rx h
  obtain ⟨vs, m, μ, r, M, p⟩ := h
  unfold oMaxL at p
  split at p
  · obtain ⟨v, rfl, r1⟩ := r.one
    split at p
    · rename_i us1 e
      split at p
      · exact no_op p
      · rename_i hT
        split at p
        · rename_i n ns e2
          obtain ⟨a, vs, rfl, hq, t, h1, h2⟩ := items_ok M r1 e
          have hl := h2 (by simpa using hT)
          rw [nums_ok t e2] at hl
          refine cr_max hc pins s σ H _ us Q I rx ⟨a, n :: ns, rfl, hl, Nat.succ_pos _, fun k hk hy => ?_⟩
          obtain ⟨g1, g2⟩ := maxL_ok ns n
          have : k = maxL n ns := Int.le_antisymm (g2 k hk) (hy _ g1)
          rw [this]
          exact p.val M (.int _)
        · exact no_op p
    · exact no_op p
  · exact no_op p
theorem b_minL (hc : X.calm = true) : CallR X (.builtin "min") (rdC X.K oMinL) := by
  intro pins s σ H xs us Q I rx h
  obtain ⟨vs, m, μ, r, M, p⟩ := h
  unfold oMinL at p
  split at p
  · obtain ⟨v, rfl, r1⟩ := r.one
    split at p
    · rename_i us1 e
      split at p
      · exact no_op p
      · rename_i hT
        split at p
        · rename_i n ns e2
          obtain ⟨a, vs, rfl, hq, t, h1, h2⟩ := items_ok M r1 e
          have hl := h2 (by simpa using hT)
          rw [nums_ok t e2] at hl
          refine cr_min hc pins s σ H _ us Q I rx ⟨a, n :: ns, rfl, hl, Nat.succ_pos _, fun k hk hy => ?_⟩
          obtain ⟨g1, g2⟩ := minL_ok ns n
          have : k = minL n ns := Int.le_antisymm (hy _ g1) (g2 k hk)
          rw [this]
          exact p.val M (.int _)
        · exact no_op p
    · exact no_op p
  · exact no_op p
def oDivmod : List U → Mem → O U
  | [.int i, .int j], m => if 0 < j ∧ j < 1073741824 then some (.tup [.int (i / j), .int (i % j)], m) else none
  | _, _ => none
theorem b_divmod : CallR X (.builtin "divmod") (rdC X.K oDivmod) := by
  intro pins s σ H xs us Q I rx h
  obtain ⟨vs, m, μ, r, M, p⟩ := h
  unfold oDivmod at p
  split at p
  · obtain ⟨v, y, rfl, r1, r2⟩ := r.two
    cases r1.i; cases r2.i
    split at p
    · rename_i hz
      exact call_divmod pins s σ H _ us Q I rx ⟨_, _, rfl, hz, fun a ha => p.tup M (.cons (.int _) (.cons (.int _) .nil)) ha⟩
    · exact no_op p
  · exact no_op p
end
end Ev

set_option Elab.async false
set_option linter.all false
set_option maxRecDepth 100000
set_option maxHeartbeats 4000000
namespace EvF
open PySem L2 PyProof.Rows
/-! ### walks over lists, tuples and texts alike -/
def signsV (z : Str) : List V := z.cps.toList.map fun c => .str ⟨#[c]⟩
/-- what an iterator over such a value stands on -/
inductive IK | lst (a : Addr) | tup (a : Addr) | str (z : Str) (t : Tok)
def IK.At (it : Addr) (i : Nat) (h : Heap) : IK → Prop
  | .lst a => h.IsListIter it a i
  | .tup a => h.IsTupleIter it a i
  | .str z t => h.IsStrIter it (strIterType z) z t i
def IK.obj : IK → Obj
  | .lst a => { cls := .type "list_iterator", data := .fields #[.ref a, .int 0 0] }
  | .tup a => { cls := .type "tuple_iterator", data := .fields #[.ref a, .int 0 0] }
  | .str z t => { cls := .type (strIterType z), data := .fields #[.str z t, .int 0 0] }
def IK.val : IK → Value
  | .lst a => .ref a
  | .tup a => .ref a
  | .str z t => .str z t
/-- the kind fits what the value is -/
inductive IK.Fits (K : PySem.W.Frag) (H : Hp) (xs : List V) : IK → Prop
  | lst {a : Addr} (h : SqL K H a xs) : Fits K H xs (.lst a)
  | tup {a : Addr} (h : SqT K H a xs) : Fits K H xs (.tup a)
  | str (z : Str) (t : Tok) (e : xs = signsV z) : Fits K H xs (.str z t)
theorem strIter_ne (z : Str) : strIterType z ≠ "list" ∧ strIterType z ≠ "tuple" ∧ strIterType z ≠ "enumerate" ∧ strIterType z ≠ "zip" := by
  unfold strIterType
  split <;> decide
theorem IK.has {k : IK} {it : Addr} {i : Nat} {h : Heap} (a : k.At it i h) : ∃ (o : Obj) (n : String), h.get? it = some o ∧ o.cls = .type n ∧ n ≠ "list" ∧ n ≠ "tuple" ∧ n ≠ "enumerate" ∧ n ≠ "zip" ∧ ∀ v, o.data ≠ .cell v := by
  cases k with
  | lst l => obtain ⟨o, ho, hc, hd⟩ := a; exact ⟨o, _, ho, hc, by decide, by decide, by decide, by decide, fun v q => by rw [hd] at q; cases q⟩
  | tup l => obtain ⟨o, ho, hc, hd⟩ := a; exact ⟨o, _, ho, hc, by decide, by decide, by decide, by decide, fun v q => by rw [hd] at q; cases q⟩
  | str z t => obtain ⟨o, ho, hc, hd⟩ := a; have s := strIter_ne z; exact ⟨o, _, ho, hc, s.1, s.2.1, s.2.2.1, s.2.2.2, fun v q => by rw [hd] at q; cases q⟩
theorem IK.keep {k : IK} {it : Addr} {i : Nat} {h h' : Heap} (a : k.At it i h) (q : ∀ o, h.get? it = some o → h'.get? it = some o) : k.At it i h' := by
  cases k <;> (obtain ⟨o, ho, r⟩ := a; exact ⟨o, q o ho, r⟩)
theorem IK.first {k : IK} {it : Addr} {h : Heap} (e : h.get? it = some k.obj) : k.At it 0 h := by
  cases k <;> exact ⟨_, e, rfl, rfl⟩
theorem cls_ne {h : Heap} {a b : Addr} {o p : Obj} {m n : String} (ho : h.get? a = some o) (hc : o.cls = .type m) (hp : h.get? b = some p) (hd : p.cls = .type n) (hmn : m ≠ n) : a ≠ b := by
  rintro rfl
  rw [ho] at hp
  obtain rfl := Option.some.inj hp
  rw [hc] at hd
  exact hmn (by injection hd)
section
variable {X : Cx} {pins : List (Addr × Obj)} {σ : L2.St} {H : Hp} {s : Shared}
/-- the iterator's own law -/
theorem IK.draws {k : IK} {xs : List V} {it : Addr} {i : Nat} (I : Inv X pins σ H s) (hA : X.A.handled = none) (f : k.Fits X.K H xs) (st : k.At it i s.heap) :
    ∃ (fp : List Addr) (P : Nat → Value → Prop) (Sn : Nat → Heap → Prop), Draws X.prog X.w X.A.in1 it fp xs.length P Sn ∧ Sn i s.heap ∧ it ∈ fp ∧ (∀ b ∈ fp, ∃ (o : Obj) (n : String), s.heap.get? b = some o ∧ o.cls = .type n ∧ n ≠ "enumerate" ∧ n ≠ "zip") ∧
      (∀ j u, P j u → ∃ x, xs[j]? = some x ∧ RelV x u) ∧ (∀ j h, Sn j h → k.At it j h) := by
  obtain ⟨oi, ni, hi1, hi2, h1, h2, h3, h4, _⟩ := IK.has st
  cases f with
  | @lst a h =>
    obtain ⟨its, r, p, z⟩ := I.list h
    obtain ⟨ol, hl1, hl2⟩ := p.isList
    have ne : a ≠ it := cls_ne hl1 hl2.1 hi1 hi2 (Ne.symm h1)
    have D := Draws.list (prog := X.prog) (w := X.w) (A := X.A.in1) hA it a ne its.toArray
    rw [List.size_toArray, ← r.length] at D
    refine ⟨_, _, _, D, ⟨st, p.isList⟩, by simp, fun b hb => ?_, fun j u hu => ?_, fun j h st => st.1⟩
    · rcases List.mem_cons.mp hb with rfl | hb
      · exact ⟨oi, ni, hi1, hi2, h3, h4⟩
      · obtain rfl := List.mem_singleton.mp hb
        exact ⟨ol, _, hl1, hl2.1, by decide, by decide⟩
    · have hu' : its[j]? = some u := by simpa using hu
      have hj : j < xs.length := by rw [r.length]; exact (List.getElem?_eq_some_iff.mp hu').1
      obtain ⟨u', e', r'⟩ := r.get (List.getElem?_eq_getElem hj)
      rw [hu'] at e'
      obtain rfl := Option.some.inj e'
      exact ⟨_, List.getElem?_eq_getElem hj, r'⟩
  | @tup a h =>
    obtain ⟨its, r, p, z⟩ := I.tuple h
    obtain ⟨ol, hl1, hl2⟩ := id p
    have ne : a ≠ it := cls_ne hl1 hl2.1 hi1 hi2 (Ne.symm h2)
    have D := Draws.tuple (prog := X.prog) (w := X.w) (A := X.A.in1) hA it a ne its.toArray
    rw [List.size_toArray, ← r.length] at D
    refine ⟨_, _, _, D, ⟨st, p⟩, by simp, fun b hb => ?_, fun j u hu => ?_, fun j h st => st.1⟩
    · rcases List.mem_cons.mp hb with rfl | hb
      · exact ⟨oi, ni, hi1, hi2, h3, h4⟩
      · obtain rfl := List.mem_singleton.mp hb
        exact ⟨ol, _, hl1, hl2.1, by decide, by decide⟩
    · have hu' : its[j]? = some u := by simpa using hu
      have hj : j < xs.length := by rw [r.length]; exact (List.getElem?_eq_some_iff.mp hu').1
      obtain ⟨u', e', r'⟩ := r.get (List.getElem?_eq_getElem hj)
      rw [hu'] at e'
      obtain rfl := Option.some.inj e'
      exact ⟨_, List.getElem?_eq_getElem hj, r'⟩
  | str z t e =>
    subst e
    have D := Draws.text (prog := X.prog) (w := X.w) (A := X.A.in1) hA it z t
    rw [show z.cps.size = (signsV z).length by unfold signsV; simp] at D
    refine ⟨_, _, _, D, st, by simp, fun b hb => ?_, fun j u hu => ?_, fun j h st => st⟩
    · obtain rfl := List.mem_singleton.mp hb
      exact ⟨oi, ni, hi1, hi2, h3, h4⟩
    · obtain ⟨c, tk, hc, rfl⟩ := hu
      refine ⟨.str ⟨#[c]⟩, ?_, ⟨_, rfl⟩⟩
      unfold signsV
      rw [List.getElem?_map, Array.getElem?_toList, hc]
      rfl
end
end EvF
namespace EvF
open PySem L2 PyProof.Rows
open PySem.Sem (wp)
/-- the heap behind enumerate(v): its iterator o, and itself -/
abbrev enH (h : Heap) (o : Obj) : Heap := (h.push o).push { cls := .type "enumerate", data := .fields #[.none, .bool false, .ref h.objs.size, rawInt 0, .none, .none] }
theorem meets_enum1 {v : Value} {o : Obj} {G : Heap → Prop} (B : Begins v o G) :
    Meets (Builtin.«enumerate.__new__» ⟨[.type "enumerate", v], []⟩) (fun _ R s => G s.heap ∧ R (.ok (.ret (.ref (s.heap.push o).objs.size))) { s with heap := enH s.heap o }) :=
  .of_wp fun prog w A R s h => by
    obtain ⟨hp, gs, dr, tk, os⟩ := s; obtain ⟨hg, h⟩ := h
    have sub1 := sub_enumerate
    have it1 : ∀ {A' : Around} {E' : Value → Shared → Prop} {Q' : Value → Shared → Prop}, Q' (.ref hp.objs.size) ⟨hp.push o, gs, dr, tk, os⟩ → wpAny (model prog w) A' (pyIter v) Q' E' ⟨hp, gs, dr, tk, os⟩ :=
      fun q => B.iter prog w _ _ _ _ hg q
    wp_walk using it1
    refine wpAny_stack_any fun st => wpAny_pure ?_; split
    · rename_i c _ _ _ _ _; cases (c == Value.type "enumerate") <;> (wp_walk using it1; exact ⟨_, rfl, h⟩)
    · wp_walk using it1
      exact ⟨_, rfl, h⟩
theorem call_enum1 {prog : Program} {w : World} {A : Around} {E : Value → Shared → Prop} {s : Shared} {v : Value} {o : Obj} {G : Heap → Prop} {Q : Value → Shared → Prop} (B : Begins v o G) (hg : G s.heap)
    (h : ∀ h', IsEnum h' (s.heap.objs.size + 1) s.heap.objs.size 0 .none → h'.get? s.heap.objs.size = some o → (∀ b u, s.heap.get? b = some u → h'.get? b = some u) → Q (.ref (s.heap.objs.size + 1)) { s with heap := h' }) :
    wpAny (model prog w) A (call (.type "enumerate") [v]) Q E s := by
  refine callType_new F.called_enumerate (by decide) (F.typeCall_enumerate_1 _) (F.newCall_enumerate_1 _) (fun obj => F.args_object_init_2 obj _) F.entry_enumerate_new (meets_enum1 B) ⟨hg, ?_⟩
  have z1 : (s.heap.push o).objs.size = s.heap.objs.size + 1 := Heap.size_push ..
  show _ ∧ _
  rw [z1]
  have en : IsEnum (enH s.heap o) (s.heap.objs.size + 1) s.heap.objs.size 0 .none := by
    rw [← z1]
    exact Heap.get?_push_size _ rfl
  exact ⟨⟨_, en, rfl⟩, h _ en (Heap.get?_push_of_some _ (Heap.get?_push_size _ B.free)) fun b u x => Heap.get?_push_of_some _ (Heap.get?_push_of_some _ x)⟩
/-- enumerate over v, which stands for xs: at turn i a new pair of i and the item -/
def Iqe (K : PySem.W.Frag) (k : IK) (xs : List V) : It :=
  ⟨fun i H => i < xs.length ∧ k.Fits K H xs, fun i H v H' => ∃ T x, v = .ref T ∧ H T = none ∧ xs[i]? = some x ∧ H' = upd H T (.tup [.int (i : Nat), x]), fun i H => i = xs.length ∧ k.Fits K H xs⟩
theorem enum_ne {fp : List Addr} {e it : Addr} {i : Int} {old : Value} {s : Shared} (he : IsEnum s.heap e it i old) (h : ∀ b ∈ fp, ∃ (o : Obj) (n : String), s.heap.get? b = some o ∧ o.cls = .type n ∧ n ≠ "enumerate" ∧ n ≠ "zip") : e ∉ fp := fun hm => by
  obtain ⟨o, n, h1, h2, h3, _⟩ := h e hm
  rw [he] at h1
  obtain rfl := Option.some.inj h1
  injection h2 with h2
  exact h3 h2.symm
theorem turn_enumA {P : Program} {w : World} {K : PySem.W.Frag} {elts : List Expr} {kk : Nat} {tpos : Pos} (k : IK) (xs : List V) (e it : Addr) :
    Turn P w K (.Tuple elts kk tpos) (Iqe K k xs) [e, it] e (fun i h => (∃ old, IsEnum h e it ((i : Nat) : Int) old) ∧ k.At it i h ∧ e ≠ it) := by
  refine ⟨by simp, fun i h st b hb => ?_, fun i h h' st q => ?_, ?_, ?_, fun A i s Q E st h => wpAny_pyIter_enum st.1.choose_spec h⟩
  · obtain ⟨⟨old, he⟩, hi, _⟩ := st
    rcases List.mem_cons.mp hb with rfl | hb
    · exact ⟨_, he, fun v q => by cases q⟩
    · obtain rfl := List.mem_singleton.mp hb
      obtain ⟨o, n, h1, h2, _, _, _, _, h3⟩ := IK.has hi
      exact ⟨o, h1, h3⟩
  · obtain ⟨⟨old, he⟩, hi, ne⟩ := st
    exact ⟨⟨old, q e (by simp) _ he⟩, IK.keep hi fun o ho => q it (by simp) o ho, ne⟩
  · intro X hP hw hK hc i pins s σ H E I hf st hg
    subst hP hw hK
    obtain ⟨⟨old, he⟩, hi, ne⟩ := st
    obtain ⟨fp, Pr, Sn, D, st1, m1, m2, m3, m4⟩ := IK.draws I (I.ok.hd hc) hg.2 hi
    refine wpAny_pyNext_enum_itemD D he st1 hg.1 ne (enum_ne he m2) fun u h1 tk hu ho st2 hT hz hk => ?_
    obtain ⟨x, hx, rx⟩ := m3 i u hu
    have el : e < s.heap.objs.size := Heap.lt_size he
    have il : it < s.heap.objs.size := by obtain ⟨o, n, q, _⟩ := IK.has hi; exact Heap.lt_size q
    refine ⟨_, rfl, wpAny_letOwnedTupleGo_enum (s := { s with heap := h1, toks := tk + 1 }) ho fun h2 he2 sb => ?_⟩
    have hT2 := (sb.2 _ (Nat.ne_of_gt el)).trans hT
    have new : ObjOk X.prog X.w (upd H s.heap.objs.size (.tup [.int (i : Nat), x])) h2 s.heap.objs.size (.tup [.int (i : Nat), x]) :=
      ⟨by show 2 ≤ sizeLine; decide, [.int i tk, u], .cons ⟨_, rfl⟩ (.cons rx .nil), ⟨_, hT2, rfl, _, rfl⟩⟩
    have I1 : Inv X pins σ (upd H s.heap.objs.size (.tup [.int (i : Nat), x])) { s with heap := h2, toks := tk + 1 } :=
      I.turnedNew (ch := [e, it]) (fun b ob hb q => (sb.2 b fun z => hb (by simp [z])).trans (hk b ob (fun z => hb (by simp [z])) (fun z => hb (by simp [z])) q)) hf (Nat.le_refl _) new
    refine ⟨.ref s.heap.objs.size, _, I1, rfl, ⟨_, x, rfl, I.hok.fresh (Nat.le_refl _), hx, rfl⟩, ⟨⟨u, ?_⟩, IK.keep (m4 _ _ st2) fun o q => (sb.2 it (Ne.symm ne)).trans q, ne⟩, fun b hb => ?_⟩
    · rw [show ((i + 1 : Nat) : Int) = (i : Int) + 1 by omega]
      exact he2
    · have bl : b < s.heap.objs.size := by
        rcases List.mem_cons.mp hb with rfl | hb
        · exact el
        · rw [List.mem_singleton.mp hb]; exact il
      rw [upd_ne (Nat.ne_of_lt bl)]
      exact (hf b hb).1
  · intro X hP hw hK hc i pins s σ H E I hf st hg
    subst hP hw hK
    obtain ⟨⟨old, he⟩, hi, ne⟩ := st
    obtain ⟨fp, Pr, Sn, D, st1, m1, m2, m3, m4⟩ := IK.draws I (I.ok.hd hc) hg.2 hi
    obtain ⟨f0, f1, f2, f3, f4, f5⟩ := hf it (by simp)
    rw [hg.1] at st1
    exact wpAny_pyNext_enum_endD D he st1 fun h1 eb => ⟨rfl, I.turned (t' := s.toks) (fun b o hb q => eb b o hb q) f0 f1 f3 f4 f5⟩
/-- the ways of v to be walked: a list, a tuple, a text -/
def wayV (K : PySem.W.Frag) (v : V) (H : Hp) (R : IK → List V → Prop) : Prop :=
  (∃ a xs, v = .ref a ∧ SqL K H a xs ∧ R (.lst a) xs) ∨ (∃ a xs, v = .ref a ∧ SqT K H a xs ∧ R (.tup a) xs) ∨ ∃ z, v = .str z ∧ ∀ t, R (.str z t) (signsV z)
theorem wayV.kind {X : Cx} {pins : List (Addr × Obj)} {σ : L2.St} {H : Hp} {s : Shared} {v : V} {R : IK → List V → Prop} {u : Value} (I : Inv X pins σ H s) (h : wayV X.K v H R) (r : RelV v u) :
    ∃ (k : IK) (xs : List V) (G : Heap → Prop), u = k.val ∧ Begins u k.obj G ∧ G s.heap ∧ R k xs := by
  rcases h with ⟨a, xs, rfl, h, q⟩ | ⟨a, xs, rfl, h, q⟩ | ⟨z, rfl, q⟩
  · cases r
    obtain ⟨its, r, p, z⟩ := I.list h
    exact ⟨.lst a, xs, _, rfl, begins_list a its.toArray, p.isList, q⟩
  · cases r
    obtain ⟨its, r, p, z⟩ := I.tuple h
    exact ⟨.tup a, xs, _, rfl, begins_tuple a its.toArray, p, q⟩
  · obtain ⟨t, rfl⟩ := r
    exact ⟨.str z t, _, _, rfl, begins_text z t, trivial, q t⟩
def iEnumA (K : PySem.W.Frag) (ta : TA) : TI := fun σ H R => ta σ H fun vs H1 => ∃ v, vs = [v] ∧ wayV K v H1 fun k xs => R (Iqe K k xs) H1
theorem pi_enumA {X : Cx} {e : Expr} {ta : TA} {p pos tpos : Pos} {elts : List Expr} {kk : Nat} (hg : Gl X "enumerate") (hm : X.mg "enumerate" = none) (ha : PA X [e] ta) (hs : starEach [e] X.env = [(false, eval e X.env)] := by rfl) :
    PI X (.Tuple elts kk tpos) (.Call (.Name "enumerate" p) [e] [] pos) (iEnumA X.K ta) := by
  refine ⟨fun pins s σ H R I h => Call_ (ld_blt I hg hm boot_enumerate (PyProof.Rows.callWith_type1 (thn (ha.run pos pins s σ H _ I h) fun us s1 hv => ?_) hs rfl))⟩
  obtain ⟨vs, H1, I1, r1, v, rfl, q⟩ := hv
  cases r1 with
  | cons r rr =>
    cases rr
    obtain ⟨k, xs, G, rfl, B, g, q⟩ := q.kind I1 r
    refine call_enum1 B g fun h2 he hit hk => wpAny_pyIter_enum he ?_
    have I2 : Inv X pins σ H1 { s1 with heap := h2 } := I1.kept (t' := s1.toks) hk
    refine ⟨s1.heap.objs.size + 1, [s1.heap.objs.size + 1, s1.heap.objs.size], _, _, H1, rfl, I2, turn_enumA k xs (s1.heap.objs.size + 1) s1.heap.objs.size, ⟨⟨.none, he⟩, IK.first hit, Nat.succ_ne_self _⟩, fun b hb => ?_, q⟩
    have le : s1.heap.objs.size ≤ b := by
      rcases List.mem_cons.mp hb with rfl | hb
      · exact Nat.le_add_right _ _
      · rw [List.mem_singleton.mp hb]; exact Nat.le_refl _
    exact I1.fpOk le (I1.hok.fresh le)
/-- a new pair of the turn and the item -/
def YEn (xs : List V) : Nat → Hp → V → Hp → Prop := fun i H w H' => ∃ T x, w = .ref T ∧ H T = none ∧ xs[i]? = some x ∧ H' = upd H T (.tup [.int (i : Nat), x])
theorem walk_enumL {K : PySem.W.Frag} {a : Addr} {xs : List V} : Walk (Iqe K (.lst a) xs) xs.length (fun H => SqL K H a xs) (YEn xs) := ⟨fun _ _ hi q => ⟨hi, .lst q⟩, fun _ q => ⟨rfl, .lst q⟩, fun _ _ _ _ _ _ y => y⟩
theorem walk_enumT {K : PySem.W.Frag} {a : Addr} {xs : List V} : Walk (Iqe K (.tup a) xs) xs.length (fun H => SqT K H a xs) (YEn xs) := ⟨fun _ _ hi q => ⟨hi, .tup q⟩, fun _ q => ⟨rfl, .tup q⟩, fun _ _ _ _ _ _ y => y⟩
theorem walk_enumS {K : PySem.W.Frag} {z : Str} {t : Tok} : Walk (Iqe K (.str z t) (signsV z)) (signsV z).length (fun _ => True) (YEn (signsV z)) := ⟨fun _ _ hi _ => ⟨hi, .str z t rfl⟩, fun _ _ => ⟨rfl, .str z t rfl⟩, fun _ _ _ _ _ _ y => y⟩
end EvF

set_option Elab.async false
set_option linter.all false
set_option maxRecDepth 100000
set_option maxHeartbeats 4000000
/-! Ev: walks. -/
namespace Ev
open PySem PySem.Spec L2 RZ RT

theorem _root_.L2.PI.or {X : Cx} {tg e : Expr} {t t' : TI} (h : PI X tg e t) (h' : PI X tg e t') : PI X tg e (fun σ H R => t σ H R ∨ t' σ H R) := ⟨fun p s σ H R I q => q.elim (h.run p s σ H R I) (h'.run p s σ H R I)⟩
section
variable {X : Cx} {c : Nat → Addr} {W : WX} {tg e : Expr} {f : XD} {fl : XL}
/-- what follows, told of the result that stands -/
theorem Post.byOk {w : W0} {σ : L2.St} {μ : List Addr} {H : Hp} {α : Type} {r : R α} {P P' : List Addr → Hp → Mem → α → Prop} (p : Post w W σ μ H r P) (h : ∀ a m, r = .ok a m → ∀ μ1 H1, Step w.K μ H μ1 H1 → MOk w.K H1 μ1 m → P μ1 H1 m a → P' μ1 H1 m a) : Post w W σ μ H r P' := by
  cases r with
  | ok a m => exact fun μ1 H1 s1 M1 => h a m rfl μ1 H1 s1 M1 (p μ1 H1 s1 M1)
  | err x m => exact p
  | bad => exact p
/-- for .. in e: a list, a tuple, a text -/
def srcA (m : Mem) (u : U) : Option Src := match u with
  | .str z => some (.fix (signs z))
  | u => srcOf m u
def iAny (f : XD) : ID := fun ρ m => (f ρ m).bind fun u m1 => ofB (srcA m1 u) m1
theorem wk_s {K : PySem.W.Frag} {H : Hp} {μ : List Addr} {z : Str} : WkOk K (Its z) μ H (Src.fix (signs z)).next := wk_fix fun i μ1 H1 m mo M _ => by
  unfold signs
  rw [List.getElem?_map, Array.getElem?_toList]
  cases e : z.cps[i]? with
  | none => exact Array.getElem?_eq_none_iff.mp e
  | some k =>
    refine ⟨(Array.getElem?_eq_some_iff.mp e).1, fun x H' y => ?_⟩
    obtain ⟨e1, k2, e2, e3⟩ := y
    subst e1 e3
    rw [e] at e2
    cases e2
    exact ⟨.refl, M, .str _⟩
theorem si_any (h : SE X c W e f) : SI X c W tg e (iAny f) :=
  (L2.PI.or (pi_list h) (L2.PI.or (pi_tup h) (pi_str h))).imp fun σ H R ⟨ρ, m, μ, E, M, p⟩ => by
    have p := p.bind
    -- by what e gives
    cases q : f ρ m with
    | bad => rw [q] at p; exact False.elim p
    | err x m1 =>
      refine .inl ⟨ρ, m, μ, E, M, ?_⟩
      rw [q] at p ⊢
      exact p
    | ok u m1 =>
      rw [q] at p
      have at_ : ∀ {P : List Addr → Hp → Mem → U → Prop}, (∀ μ1 H1, Step X.K μ H μ1 H1 → MOk X.K H1 μ1 m1 → P μ1 H1 m1 u) → Post (wX X c) W σ μ H (f ρ m) P := fun h => by rw [q]; exact h
      by_cases hs : ∃ z, u = .str z
      · obtain ⟨z, rfl⟩ := hs
        refine .inr (.inr ⟨ρ, m, μ, E, M, at_ fun μ1 H1 s1 M1 v r => ?_⟩)
        cases r.s
        exact ⟨z, rfl, (p μ1 H1 s1 M1).ok_at M1 _ wk_s⟩
      · have es : srcA m1 u = srcOf m1 u := by
          cases u with
          | str z => exact absurd ⟨z, rfl⟩ hs
          | _ => rfl
        cases q2 : srcOf m1 u with
        | none => 
          refine .inl ⟨ρ, m, μ, E, M, at_ fun μ1 H1 s1 M1 v r => ?_⟩
          have p1 : Post (wX X c) W σ μ1 H1 (ofB (srcA m1 u) m1) _ := p μ1 H1 s1 M1
          rw [es, q2] at p1
          exact False.elim p1
        | some s =>
          cases hT : isT u with
          | true =>
            refine .inr (.inl ⟨ρ, m, μ, E, M, at_ fun μ1 H1 s1 M1 v r => ?_⟩)
            have p1 : Post (wX X c) W σ μ1 H1 (ofB (srcA m1 u) m1) _ := p μ1 H1 s1 M1
            rw [es, q2] at p1
            obtain ⟨a, e1, h1⟩ := wk_of M1 r q2
            rcases h1 with ⟨_, h2, h3⟩ | ⟨h2, _⟩
            · exact ⟨a, e1, h2, p1.ok_at M1 _ h3⟩
            · rw [hT] at h2; cases h2
          | false =>
            refine .inl ⟨ρ, m, μ, E, M, at_ fun μ1 H1 s1 M1 v r => ?_⟩
            have p1 : Post (wX X c) W σ μ1 H1 (ofB (srcA m1 u) m1) _ := p μ1 H1 s1 M1
            rw [es, q2] at p1
            obtain ⟨a, e1, h1⟩ := wk_of M1 r q2
            rcases h1 with ⟨h2, _⟩ | ⟨_, h2, h3⟩
            · rw [hT] at h2; cases h2
            · exact ⟨a, e1, h2, p1.ok_at M1 _ h3⟩
/-! enumerate -/
def enumU : Nat → List U → List U
  | _, [] => []
  | k, u :: us => .tup [.int (k : Nat), u] :: enumU (k + 1) us
theorem enumU_get : ∀ (us : List U) (k i : Nat), (enumU k us)[i]? = us[i]?.map fun u => .tup [.int ((k + i : Nat) : Int), u]
  | [], k, i => by simp [enumU]
  | u :: us, k, 0 => by simp [enumU]
  | u :: us, k, i + 1 => by
    rw [enumU, List.getElem?_cons_succ, List.getElem?_cons_succ, enumU_get us (k + 1) i]
    rw [show k + 1 + i = k + (i + 1) by omega]
def srcE (m : Mem) (u : U) : Option Src := match u with
  | .str z => some (.fix (enumU 0 (signs z)))
  | .tup us => some (.fix (enumU 0 us))
  | .ref n => match m[n]? with
    | some (.lst us) => some (.dyn (us.length + 1) fun i m => match m[n]? with
      | some (.lst us) => some (us[i]?.map fun u => .tup [.int (i : Nat), u])
      | _ => none)
    | _ => none
  | _ => none
def iEnum (f : XL) : ID := fun ρ m => (f ρ m).bind fun us m1 => match us with
  | [u] => ofB (srcE m1 u) m1
  | _ => .bad
/-- a new pair -/
theorem pair_new {K : PySem.W.Frag} {H : Hp} {μ : List Addr} {m : Mem} (M : MOk K H μ m) {T : Addr} (hT : H T = none) {a b : U} {x y : V} (ra : RU K H μ a x) (rb : RU K H μ b y) : Step K μ H μ (upd H T (.tup [x, y])) ∧ MOk K (upd H T (.tup [x, y])) μ m ∧ RU K (upd H T (.tup [x, y])) μ (.tup [a, b]) (.ref T) :=
  ⟨.newT hT, M.newT hT, .tup (SqT.of upd_same) (.cons (ra.step (.newT hT)) (.cons (rb.step (.newT hT)) .nil))⟩
theorem wk_eT {K : PySem.W.Frag} {H : Hp} {μ : List Addr} {us : List U} {vs : List V} {k : EvF.IK} (hq : ∀ μ1 H1, Mono K μ H μ1 H1 → k.Fits K H1 vs) (t : RUs K H μ us vs) : WkOk K (EvF.Iqe K k vs) μ H (Src.fix (enumU 0 us)).next := wk_fix fun i μ1 H1 m mo M hi => by
  rw [enumU_get]
  have t1 := t.mo mo
  cases e : us[i]? with
  | none =>
    have hl : (enumU 0 us).length = us.length := by
      have : ∀ (l : List U) (k : Nat), (enumU k l).length = l.length := by
        intro l
        induction l with
        | nil => intro k; rfl
        | cons u l ih => intro k; rw [enumU, List.length_cons, ih, List.length_cons]
      exact this us 0
    have := List.getElem?_eq_none_iff.mp e
    have := t.length
    exact ⟨by omega, hq _ _ mo⟩
  | some u =>
    obtain ⟨v, h1, h2⟩ := t1.get e
    refine ⟨⟨(List.getElem?_eq_some_iff.mp h1).1, hq _ _ mo⟩, fun x H' y => ?_⟩
    obtain ⟨T, z, rfl, hT, hz, rfl⟩ := y
    rw [h1] at hz
    cases hz
    rw [show ((0 + i : Nat) : Int) = ((i : Nat) : Int) by rw [Nat.zero_add]]
    exact pair_new M hT (.int _) h2
theorem wk_eC {K : PySem.W.Frag} {H : Hp} {μ : List Addr} {n : Nat} {a : Addr} (hn : μ[n]? = some a) : WkOk K (Ite K a) μ H (fun i m => match m[n]? with | some (.lst us) => some (us[i]?.map fun u => .tup [.int (i : Nat), u]) | _ => none) := fun i μ1 H1 m mo M => by
  have hn1 := mo.at hn
  simp only []
  cases e0 : m[n]? with
  | none => trivial
  | some k =>
    cases k with
    | lst us =>
      simp only []
      obtain ⟨vs, hq, t⟩ := M.cell _ _ _ hn1 e0
      cases e : us[i]? with
      | none => exact ⟨vs, SqL.of hq, by rw [← t.length]; exact List.getElem?_eq_none_iff.mp e⟩
      | some u =>
        obtain ⟨v, h1, h2⟩ := t.get e
        refine ⟨⟨vs, v, SqL.of hq, h1⟩, fun x H' y => ?_⟩
        obtain ⟨T, z, rfl, hT, rfl, y⟩ := y
        have := y vs (SqL.of hq)
        rw [h1] at this; cases this
        exact pair_new M hT (.int _) h2
    | dK _ => trivial
    | dT _ => trivial
    | dF _ => trivial
/-- what is chosen by the result -/
theorem pick {α : Type} {w : W0} {σ : L2.St} {μ : List Addr} {H : Hp} {r : R α} {P : List Addr → Hp → Mem → α → Prop} {Z : Prop} (p : Post w W σ μ H r P)
    (he : (∀ P', Post w W σ μ H r P') → Z) (ho : ∀ a m, r = .ok a m → (∀ μ1 H1, Step w.K μ H μ1 H1 → MOk w.K H1 μ1 m → P μ1 H1 m a) → (∀ P' : List Addr → Hp → Mem → α → Prop, (∀ μ1 H1, Step w.K μ H μ1 H1 → MOk w.K H1 μ1 m → P' μ1 H1 m a) → Post w W σ μ H r P') → Z) : Z := by
  cases r with
  | bad => exact False.elim p
  | err x m => exact he fun P' => p
  | ok a m => exact ho a m rfl p fun P' h => h
theorem si_enum {p pos tpos : Pos} {elts : List Expr} {kk : Nat} {a : Expr} (h1 : PI X (.Tuple elts kk tpos) (.Call (.Name "enumerate" p) [a] [] pos) (L2.iEnum X.K (rdL (wX X c) W fl))) (h2 : PI X (.Tuple elts kk tpos) (.Call (.Name "enumerate" p) [a] [] pos) (EvF.iEnumA X.K (rdL (wX X c) W fl))) :
    SI X c W (.Tuple elts kk tpos) (.Call (.Name "enumerate" p) [a] [] pos) (iEnum fl) :=
  (L2.PI.or h1 h2).imp fun σ H R ⟨ρ, m, μ, E, M, p⟩ => pick p.bind (fun z => .inl ⟨ρ, m, μ, E, M, z _⟩) fun us m1 _ p at_ => by
    cases us with
    | nil => exact .inl ⟨ρ, m, μ, E, M, at_ _ fun μ1 H1 s1 M1 => False.elim (p μ1 H1 s1 M1)⟩
    | cons u us =>
      cases us with
      | cons _ _ => exact .inl ⟨ρ, m, μ, E, M, at_ _ fun μ1 H1 s1 M1 => False.elim (p μ1 H1 s1 M1)⟩
      | nil =>
        have p' : ∀ μ1 H1, Step X.K μ H μ1 H1 → MOk X.K H1 μ1 m1 → Post (wX X c) W σ μ1 H1 (ofB (srcE m1 u) m1) fun μ' H' _ s => ∀ J, WkOk X.K J μ' H' s.next → R J H' := p
        cases u with
        | str z =>
          refine .inr ⟨ρ, m, μ, E, M, at_ _ fun μ1 H1 s1 M1 vs rs => ?_⟩
          obtain ⟨v, rfl, r⟩ := rs.one
          cases r.s
          refine ⟨_, rfl, .inr (.inr ⟨z, rfl, fun t => (p' μ1 H1 s1 M1).ok_at M1 _ (wk_eT (vs := EvF.signsV z) (fun _ _ _ => .str z t rfl) ?_)⟩)⟩
          have : ∀ l : List Nat, RUs X.K H1 μ1 (l.map fun c => .str ⟨#[c]⟩) (l.map fun c => .str ⟨#[c]⟩) := by
            intro l
            induction l with
            | nil => exact .nil
            | cons c l ih => exact .cons (.str _) ih
          exact this _
        | tup us =>
          refine .inr ⟨ρ, m, μ, E, M, at_ _ fun μ1 H1 s1 M1 vs rs => ?_⟩
          obtain ⟨v, rfl, r⟩ := rs.one
          cases r with
          | tup hq t => exact ⟨_, rfl, .inr (.inl ⟨_, _, rfl, hq, (p' μ1 H1 s1 M1).ok_at M1 _ (wk_eT (fun μ2 H2 mo => .tup (mo.kt _ _ hq)) t)⟩)⟩
        | ref n =>
          refine .inl ⟨ρ, m, μ, E, M, at_ _ fun μ1 H1 s1 M1 vs rs => ?_⟩
          obtain ⟨v, rfl, r⟩ := rs.one
          have p1 := p' μ1 H1 s1 M1
          cases e : m1[n]? with
          | none => simp only [srcE, e] at p1; exact False.elim p1
          | some k =>
            cases k with
            | lst us =>
              simp only [srcE, e] at p1
              cases r with
              | ref hn =>
                obtain ⟨ws, hq, t⟩ := M1.cell _ _ _ hn e
                exact ⟨_, ws, rfl, SqL.of hq, p1.ok_at M1 _ (wk_eC hn)⟩
            | dK _ => simp only [srcE, e] at p1; exact False.elim p1
            | dT _ => simp only [srcE, e] at p1; exact False.elim p1
            | dF _ => simp only [srcE, e] at p1; exact False.elim p1
        | _ => exact .inl ⟨ρ, m, μ, E, M, at_ _ fun μ1 H1 s1 M1 => False.elim (p' μ1 H1 s1 M1)⟩
/-! zip of two lists, of two tuples -/
def zipU : List U → List U → List U
  | a :: as, b :: bs => .tup [a, b] :: zipU as bs
  | _, _ => []
theorem zipU_get : ∀ (as bs : List U) (i : Nat), (zipU as bs)[i]? = match as[i]?, bs[i]? with
    | some a, some b => some (.tup [a, b])
    | _, _ => none
  | [], bs, i => by simp [zipU]
  | a :: as, [], i => by simp only [zipU, List.getElem?_nil]; split <;> first | rfl | (rename_i h; cases h)
  | a :: as, b :: bs, 0 => rfl
  | a :: as, b :: bs, i + 1 => by rw [zipU, List.getElem?_cons_succ, List.getElem?_cons_succ, List.getElem?_cons_succ, zipU_get as bs i]
/-- an item of a cell's list -/
def cellAt (m : Mem) (n : Nat) : Option (List U) := match m[n]? with
  | some (.lst us) => some us
  | _ => none
def srcZ (m : Mem) (u v : U) : Option Src := match u, v with
  | .tup us, .tup ws => some (.fix (zipU us ws))
  | .ref n, .ref k => match cellAt m n, cellAt m k with
    | some us, some ws => some (.dyn (us.length + 1) fun i m => match cellAt m n, cellAt m k with
      | some us, some ws => some (match us[i]?, ws[i]? with
        | some a, some b => some (.tup [a, b])
        | _, _ => none)
      | _, _ => none)
    | _, _ => none
  | _, _ => none
def iZip (f : XL) : ID := fun ρ m => (f ρ m).bind fun us m1 => match us with
  | [u, v] => ofB (srcZ m1 u v) m1
  | _ => .bad
theorem cellAt_of {m : Mem} {n : Nat} {us : List U} (h : cellAt m n = some us) : m[n]? = some (.lst us) := by
  unfold cellAt at h
  split at h
  · rename_i e; cases h; exact e
  · cases h
theorem si_zip {p pos tpos : Pos} {elts : List Expr} {kk : Nat} {a b : Expr} (h : PI X (.Tuple elts kk tpos) (.Call (.Name "zip" p) [a, b] [] pos) (iZipA X.K (rdL (wX X c) W fl))) : SI X c W (.Tuple elts kk tpos) (.Call (.Name "zip" p) [a, b] [] pos) (iZip fl) :=
  h.imp fun σ H R ⟨ρ, m, μ, E, M, p⟩ => ⟨ρ, m, μ, E, M, p.bind.imp fun μ1 H1 m1 us s1 M1 p1 vs rs => by
    split at p1
    · rename_i u v
      obtain ⟨x, y, rfl, r1, r2⟩ := rs.two
      cases q : srcZ m1 u v with
      | none => rw [q] at p1; exact False.elim p1
      | some s =>
        rw [q] at p1
        have fin := p1.ok_at M1
        unfold srcZ at q
        split at q
        · rename_i us ws
          cases q
          cases r1 with
          | tup hq1 t1 =>
            cases r2 with
            | tup hq2 t2 =>
              refine ⟨_, _, _, _, rfl, .inr ⟨hq1, hq2, fin _ (wk_fix fun i μ2 H2 m2 mo M2 hi => ?_)⟩⟩
              rw [zipU_get]
              have u1 := t1.mo mo
              have u2 := t2.mo mo
              have g1 := mo.kt _ _ hq1
              have g2 := mo.kt _ _ hq2
              cases e1 : us[i]? with
              | none => exact ⟨_, _, g1, g2, .inl (by rw [← t1.length]; exact List.getElem?_eq_none_iff.mp e1)⟩
              | some x1 =>
                cases e2 : ws[i]? with
                | none => exact ⟨_, _, g1, g2, .inr (by rw [← t2.length]; exact List.getElem?_eq_none_iff.mp e2)⟩
                | some x2 =>
                  obtain ⟨v1, k1, w1⟩ := u1.get e1
                  obtain ⟨v2, k2, w2⟩ := u2.get e2
                  refine ⟨⟨_, _, v1, v2, g1, g2, k1, k2⟩, fun x H' y => ?_⟩
                  obtain ⟨T, z1, z2, rfl, hT, rfl, y1, y2⟩ := y
                  have a1 := y1 _ g1
                  have a2 := y2 _ g2
                  rw [k1] at a1; cases a1
                  rw [k2] at a2; cases a2
                  exact pair_new M2 hT w1 w2
        · rename_i n k
          split at q
          · rename_i us ws c1 c2
            cases q
            cases r1 with
            | @ref _ a1 hn1 =>
              cases r2 with
              | @ref _ a2 hn2 =>
                obtain ⟨vs1, hq1, t1⟩ := M1.cell _ _ _ hn1 (cellAt_of c1)
                obtain ⟨vs2, hq2, t2⟩ := M1.cell _ _ _ hn2 (cellAt_of c2)
                refine ⟨_, _, _, _, rfl, .inl ⟨SqL.of hq1, SqL.of hq2, fin _ fun i μ2 H2 m2 mo M2 => ?_⟩⟩
                show match (match cellAt m2 n, cellAt m2 k with | some us, some ws => some (match us[i]?, ws[i]? with | some a, some b => some (U.tup [a, b]) | _, _ => none) | _, _ => none) with | none => True | some none => _ | some (some u) => _
                cases d1 : cellAt m2 n with
                | none => trivial
                | some us2 =>
                  cases d2 : cellAt m2 k with
                  | none => trivial
                  | some ws2 =>
                    obtain ⟨zs1, gq1, u1⟩ := M2.cell _ _ _ (mo.at hn1) (cellAt_of d1)
                    obtain ⟨zs2, gq2, u2⟩ := M2.cell _ _ _ (mo.at hn2) (cellAt_of d2)
                    have g1 : SqL X.K H2 a1 zs1 := SqL.of gq1
                    have g2 : SqL X.K H2 a2 zs2 := SqL.of gq2
                    simp only []
                    cases e1 : us2[i]? with
                    | none => exact ⟨_, _, g1, g2, .inl (by rw [← u1.length]; exact List.getElem?_eq_none_iff.mp e1)⟩
                    | some x1 =>
                      cases e2 : ws2[i]? with
                      | none => exact ⟨_, _, g1, g2, .inr (by rw [← u2.length]; exact List.getElem?_eq_none_iff.mp e2)⟩
                      | some x2 =>
                        obtain ⟨v1, k1, w1⟩ := u1.get e1
                        obtain ⟨v2, k2, w2⟩ := u2.get e2
                        refine ⟨⟨_, _, v1, v2, g1, g2, k1, k2⟩, fun x H' y => ?_⟩
                        obtain ⟨T, z1, z2, rfl, hT, rfl, y1, y2⟩ := y
                        have a1 := y1 _ g1
                        have a2 := y2 _ g2
                        rw [k1] at a1; cases a1
                        rw [k2] at a2; cases a2
                        exact pair_new M2 hT w1 w2
          · cases q
        · cases q
    · exact False.elim p1⟩
/-! reversed of a list, of a tuple -/
def srcR (m : Mem) (u : U) : Option Src := match u with
  | .tup us => some (.fix us.reverse)
  | .ref n => match cellAt m n with
    | some us => some (.dyn (us.length + 1) fun i m => if i < us.length then (match cellAt m n with
      | some ws => (ws[us.length - 1 - i]?).map some
      | none => none) else some none)
    | none => none
  | _ => none
def iRev (f : XD) : ID := fun ρ m => (f ρ m).bind fun u m1 => ofB (srcR m1 u) m1
theorem si_rev {st : Expr} (h : PI X tg st (iRevA X.K (rdE (wX X c) W f))) : SI X c W tg st (iRev f) :=
  h.imp fun σ H R ⟨ρ, m, μ, E, M, p⟩ => ⟨ρ, m, μ, E, M, p.bind.imp fun μ1 H1 m1 u s1 M1 p1 v r => by
    cases q : srcR m1 u with
    | none => rw [q] at p1; exact False.elim p1
    | some s =>
      rw [q] at p1
      have fin := p1.ok_at M1
      unfold srcR at q
      split at q
      · rename_i us
        cases q
        cases r with
        | @tup a vs _ hq t =>
          refine ⟨a, vs, rfl, .inr ⟨hq, fin _ (wk_fix fun i μ2 H2 m2 mo M2 hi => ?_)⟩⟩
          have u1 := t.mo mo
          have g1 := mo.kt _ _ hq
          rw [List.length_reverse] at hi
          by_cases h : i < us.length
          · have e : us.reverse[i]? = us[us.length - 1 - i]? := List.getElem?_reverse h
            rw [e]
            have hl : us.length - 1 - i < us.length := by omega
            rw [List.getElem?_eq_getElem hl]
            obtain ⟨v1, k1, w1⟩ := u1.get (List.getElem?_eq_getElem hl)
            rw [t.length] at k1
            refine ⟨⟨by rw [← t.length]; exact h, vs, v1, g1, k1⟩, fun x H' y => ?_⟩
            obtain ⟨eH, y⟩ := y
            subst eH
            have := y vs g1
            rw [k1] at this; cases this
            exact ⟨.refl, M2, w1⟩
          · rw [List.getElem?_eq_none (by rw [List.length_reverse]; omega)]
            show vs.length ≤ i
            rw [← t.length]; omega
      · rename_i n
        split at q
        · rename_i us c1
          cases q
          cases r with
          | @ref _ a hn =>
            obtain ⟨vs, hq, t⟩ := M1.cell _ _ _ hn (cellAt_of c1)
            refine ⟨a, vs, rfl, .inl ⟨SqL.of hq, fin _ fun i μ2 H2 m2 mo M2 => ?_⟩⟩
            show match (if i < us.length then (match cellAt m2 n with | some ws => (ws[us.length - 1 - i]?).map some | none => none) else some none) with | none => True | some none => _ | some (some u) => _
            by_cases h : i < us.length
            · rw [if_pos h]
              cases d1 : cellAt m2 n with
              | none => trivial
              | some ws =>
                obtain ⟨zs, gq, u1⟩ := M2.cell _ _ _ (mo.at hn) (cellAt_of d1)
                simp only []
                cases e1 : ws[us.length - 1 - i]? with
                | none => trivial
                | some x1 =>
                  obtain ⟨v1, k1, w1⟩ := u1.get e1
                  rw [t.length] at k1
                  refine ⟨⟨by rw [← t.length]; exact h, zs, v1, SqL.of gq, k1⟩, fun x H' y => ?_⟩
                  obtain ⟨eH, y⟩ := y
                  subst eH
                  have := y zs (SqL.of gq)
                  rw [k1] at this; cases this
                  exact ⟨.refl, M2, w1⟩
            · rw [if_neg h]
              show vs.length ≤ i
              rw [← t.length]; omega
        · cases q
      · cases q⟩
end
end Ev

set_option Elab.async false
set_option linter.all false
set_option maxRecDepth 100000
set_option maxHeartbeats 4000000
/-! Ev: tuple * int for any int; pow of three; a list's item for an operator's store. -/
namespace EvG
open PySem PySem.Spec L2 PyProof.Rows
theorem tuple_mul_same (l : Addr) (items : Array Value) (n : Nat) (dd : Option Addr) (sl : Array (Option Value)) (x : Int) (u : Tok) (c0 : (decide (x < -(2 ^ 63)) || decide (x ≥ 2 ^ 63)) = false) (c1 : (items.isEmpty || x == 1) = true) :
    Meets (Builtin.«tuple.__mul__» ⟨[.ref l, .int x u], []⟩) (fun _ R s => s.heap.get? l = some { cls := .type "tuple", dict := dd, data := .seq items n, slots := sl } ∧
      R (.ok (.ret (Value.ref l))) s) :=
  .of_wp fun prog w A R s h => by
    obtain ⟨hp, g, d, tk, os⟩ := s
    obtain ⟨hl, h⟩ := h
    have f1 := AutoSeq1.idx_int
    wp_walk using wpAny_loadPart' hl
    repeat (first
      | (refine wpAny_ite_false (decide_eq_false (by rw [c0]; exact Bool.false_ne_true)) ?_; wp_walk using wpAny_loadPart' hl)
      | (refine wpAny_ite_true (decide_eq_true (by rw [c1])) ?_; wp_walk using wpAny_loadPart' hl))
    exact ⟨_, rfl, h⟩
theorem tuple_mul_none (l : Addr) (items : Array Value) (n : Nat) (dd : Option Addr) (sl : Array (Option Value)) (x : Int) (u : Tok) (c0 : (decide (x < -(2 ^ 63)) || decide (x ≥ 2 ^ 63)) = false) (c1 : (items.isEmpty || x == 1) = false) (c2 : (decide (x ≤ 0) || items.isEmpty) = true) :
    Meets (Builtin.«tuple.__mul__» ⟨[.ref l, .int x u], []⟩) (fun _ R s => s.heap.get? l = some { cls := .type "tuple", dict := dd, data := .seq items n, slots := sl } ∧
      R (.ok (.ret (Value.ref s.heap.objs.size))) { s with heap := s.heap.push { cls := Value.type "tuple", data := Data.seq #[] }, toks := s.toks }) :=
  .of_wp fun prog w A R s h => by
    obtain ⟨hp, g, d, tk, os⟩ := s
    obtain ⟨hl, h⟩ := h
    have f1 := AutoSeq1.idx_int
    wp_walk using wpAny_loadPart' hl
    repeat (first
      | (refine wpAny_ite_false (decide_eq_false (by rw [c0]; exact Bool.false_ne_true)) ?_; wp_walk using wpAny_loadPart' hl)
      | (refine wpAny_ite_false (decide_eq_false (by rw [c1]; exact Bool.false_ne_true)) ?_; wp_walk using wpAny_loadPart' hl)
      | (refine wpAny_ite_true (decide_eq_true (by rw [c2])) ?_; wp_walk using wpAny_loadPart' hl))
    exact ⟨_, rfl, h⟩
end EvG
namespace EvG
open PySem PySem.Spec L2 PyProof.Rows
theorem int_pow3 (a : Int) (t : Tok) (b : Int) (u : Tok) (c : Int) (v : Tok) (h0 : 0 ≤ b) (h1 : 1 < c) :
    Meets (Builtin.«int.__pow__» ⟨[.int a t, .int b u, .int c v], []⟩) (fun _ R s => R (.ok (.ret (Value.int ((Builtin.powMod (a % (c.natAbs : Int)).toNat b.natAbs c.natAbs : Nat) : Int) s.toks))) { s with toks := s.toks + 1 }) :=
  .of_wp fun prog w A R s h => by
    obtain ⟨hp, g, d, tk, os⟩ := s
    have hc0 : ¬ (c == 0) = true := by simp; omega
    have hc1 : ¬ (c.natAbs == 1) = true := by simp; omega
    have hb : ¬ b < 0 := by omega
    have hm : ¬ (decide (c < 0) && (((Builtin.powMod (a % (c.natAbs : Int)).toNat b.natAbs c.natAbs : Nat) : Int) != 0)) = true := by
      rw [decide_eq_false (by omega)]; simp
    wp_walk
    repeat (first
      | (refine wpAny_ite_false (decide_eq_false hc0) ?_; wp_walk)
      | (refine wpAny_ite_false (decide_eq_false hc1) ?_; wp_walk)
      | (refine wpAny_ite_false (decide_eq_false hb) ?_; wp_walk))
    exact ⟨_, by rw [if_neg hm], h⟩
theorem kind_pow : builtinKind "pow" = none := by decide +kernel
theorem plain_pow : plainId "pow" = true := by decide +kernel
theorem entry_pow : entryFor table "pow" = some Builtin.«pow» := entryFor_of_fast (by kernel_rfl)
theorem args_pow3 (a b c : Value) : argsOk "pow" ⟨[a, b, c], []⟩ := by unfold argsOk; kernel_rfl
theorem args_int_pow3 (a b c : Value) : argsOk "int.__pow__" ⟨[a, b, c], []⟩ := by unfold argsOk; kernel_rfl
theorem look_int_pow : typeLookup (.type "int") (Str.ofString "__pow__") = pure (some (.builtin "int.__pow__")) := PySem.F.slot_int_pow.lookup
section
variable {prog : Program} {w : World} {A : Around} {E : Value → Shared → Prop} {s : Shared} {a b c : Int} {t u v : Tok}
theorem call_pow3 {Q : Value → Shared → Prop} (h0 : 0 ≤ b) (h1 : 1 < c) (h : Q (Value.int ((Builtin.powMod (a % (c.natAbs : Int)).toNat b.natAbs c.natAbs : Nat) : Int) s.toks) { s with toks := s.toks + 1 }) :
    wpAny (model prog w) A (call (.builtin "pow") [.int a t, .int b u, .int c v]) Q E s := by
  obtain ⟨hp, g, d, tk, os⟩ := s
  refine PySem.Calls.call_function_entry kind_pow plain_pow entry_pow (args_pow3 _ _ _) ?_
  unfold Builtin.«pow»
  wp_walk
  rw [look_int_pow]
  refine wpAny_pure ?_
  refine wpAny_bind ?_
  refine wpAny_callSpecial?_slot (name := Str.ofString "__pow__") (typeIs_int _ a t) PySem.F.slot_int_pow ?_
  refine call_meets PySem.F.slot_int_pow (typeIs_int _ a t) PySem.F.entry_int_pow (args_int_pow3 _ _ _) (int_pow3 a t b u c v h0 h1) ?_
  show wpAny _ _ (if (Value.int ((Builtin.powMod (a % (c.natAbs : Int)).toNat b.natAbs c.natAbs : Nat) : Int) tk != Value.notImplemented) = true then ret _ else _) _ _ _
  rw [if_pos (show (Value.int ((Builtin.powMod (a % (c.natAbs : Int)).toNat b.natAbs c.natAbs : Nat) : Int) tk != Value.notImplemented) = true from rfl)]
  exact wpAny_pure ⟨_, rfl, h⟩
end
section
variable {X : Cx}
def rPow3 : List V → Hp → VK → Prop := fun xs H Q => ∃ a b c : Int, xs = [.int a, .int b, .int c] ∧ 0 ≤ b ∧ 1 < c ∧ Q (.int ((Builtin.powMod (a % (c.natAbs : Int)).toNat b.natAbs c.natAbs : Nat) : Int)) H
theorem cr_pow3 : CallR X (.builtin "pow") rPow3 := by
  intro pins s σ H xs us Q I rx h
  obtain ⟨a, b, c, rfl, h0, h1, q⟩ := h
  cases rx with
  | cons r1 rx =>
    cases rx with
    | cons r2 rx =>
      cases rx with
      | cons r3 rx =>
        cases rx
        obtain ⟨t, rfl⟩ := r1
        obtain ⟨t2, rfl⟩ := r2
        obtain ⟨t3, rfl⟩ := r3
        exact call_pow3 h0 h1 ⟨.int _, H, I.tok _, ⟨_, rfl⟩, q⟩
/-- tuple * int, whatever the int -/
def rRepG (K : PySem.W.Frag) : R2 := fun x y H Q => ∃ l k xs, x = .ref l ∧ y = .int k ∧ SqT K H l xs ∧ -1000 ≤ k ∧ k ≤ 1000 ∧ xs.length ≤ 1000 ∧
  (xs = [] ∨ k = 1 → Q (.ref l) H) ∧ (xs ≠ [] → k ≤ 0 → ∀ p, H p = none → Q (.ref p) (upd H p (.tup []))) ∧ (xs ≠ [] → 2 ≤ k → ∀ p, H p = none → Q (.ref p) (upd H p (.tup (List.replicate k.toNat xs).flatten)))
theorem op_repG : OpR X (binaryOp .Mult) (rRepG X.K) := by
  intro pins s σ H x y v u Q I rx ry h
  obtain ⟨l, k, xs, rfl, rfl, hT, hk0, hk1, hz, q1, q2, q3⟩ := h
  by_cases hbig : xs ≠ [] ∧ 2 ≤ k
  · exact op_repT pins s σ H _ _ v u Q I rx ry ⟨l, k, xs, rfl, rfl, hT, hbig.1, hbig.2, hk1, hz, q3 hbig.1 hbig.2⟩
  cases rx
  obtain ⟨t, rfl⟩ := ry
  obtain ⟨its, r, ⟨⟨cls, dd, data, sl⟩, ho, hc, n, hd⟩, hs⟩ := I.tuple hT
  simp only at hc hd
  subst hc hd
  have hle : its.length = xs.length := r.length.symm
  have c0 : (decide (k < -(2 ^ 63)) || decide (k ≥ 2 ^ 63)) = false := by
    rw [decide_eq_false (by omega), decide_eq_false (by omega)] <;> rfl
  have hnil : its.toArray.isEmpty = xs.isEmpty := by
    cases its with
    | nil => cases xs with
      | nil => rfl
      | cons _ _ => simp at hle
    | cons _ _ => cases xs with
      | nil => simp at hle
      | cons _ _ => rfl
  by_cases h1 : xs = [] ∨ k = 1
  · have c1 : (its.toArray.isEmpty || k == 1) = true := by
      rw [hnil]
      rcases h1 with e | e
      · rw [e]; rfl
      · rw [e]; simp
    refine wpAny_binaryOp_repeat_ref (T := "tuple") (U := "int") (by decide) ⟨_, ho, rfl⟩ (fun s' => typeIs_int s' k t) noFill_tuple_mul F.fills_int_mul F.slot_int_rmul repeat_tuple F.slot_int_index.lookup
      (call_meets F.slot_int_rmul (typeIs_int s k t) F.entry_int_rmul (F.args_int_rmul_2 _ _) (int_rmul_tuple k t l its.toArray n dd sl)
        ⟨ho, rfl, ⟨_, ho, rfl⟩, call_meets F.slot_tuple_mul ⟨_, ho, rfl⟩ F.entry_tuple_mul (F.args_tuple_mul_2 _ _) (tuple_mul_same l its.toArray n dd sl k t c0 c1) ⟨ho, ?_⟩⟩)
    exact ⟨.ref l, H, I, rfl, q1 h1⟩
  · have hx : xs ≠ [] := fun e => h1 (.inl e)
    have hk : k ≤ 0 := by
      have a1 : k ≠ 1 := fun e => h1 (.inr e)
      have a2 : ¬ 2 ≤ k := fun z => hbig ⟨hx, z⟩
      omega
    have he : xs.isEmpty = false := by
      cases xs with
      | nil => exact absurd rfl hx
      | cons _ _ => rfl
    have c1 : (its.toArray.isEmpty || k == 1) = false := by
      rw [hnil, he]
      simp; omega
    have c2 : (decide (k ≤ 0) || its.toArray.isEmpty) = true := by rw [decide_eq_true hk]; rfl
    refine wpAny_binaryOp_repeat_ref (T := "tuple") (U := "int") (by decide) ⟨_, ho, rfl⟩ (fun s' => typeIs_int s' k t) noFill_tuple_mul F.fills_int_mul F.slot_int_rmul repeat_tuple F.slot_int_index.lookup
      (call_meets F.slot_int_rmul (typeIs_int s k t) F.entry_int_rmul (F.args_int_rmul_2 _ _) (int_rmul_tuple k t l its.toArray n dd sl)
        ⟨ho, rfl, ⟨_, ho, rfl⟩, call_meets F.slot_tuple_mul ⟨_, ho, rfl⟩ F.entry_tuple_mul (F.args_tuple_mul_2 _ _) (tuple_mul_none l its.toArray n dd sl k t c0 c1 c2) ⟨ho, ?_⟩⟩)
    refine ⟨.ref s.heap.objs.size, _, I.laid (t' := s.toks) (o := .tup []) (fun b ob q => Heap.get?_push_of_some _ q) (Nat.le_refl _) ?_, rfl, q2 hx hk _ (I.hok.fresh (Nat.le_refl _))⟩
    exact ⟨Nat.zero_le _, [], .nil, IsTup.new _ _⟩
/-- a list's item, for an operator's store -/
def rGetL (K : PySem.W.Frag) : V → V → Hp → VK → Prop := fun o i H Q => ∃ p xs k v, o = .ref p ∧ i = .int k ∧ SqL K H p xs ∧ atI xs k = some v ∧ Q v H
theorem get_list : PGet X (rGetL X.K) := by
  intro pins s σ H o i ov iv Q I ro ri h
  obtain ⟨p, xs, k, z, rfl, rfl, hq, he, q⟩ := h
  cases ro
  obtain ⟨t, rfl⟩ := ri
  obtain ⟨its, r, pl, hz⟩ := I.list hq
  obtain ⟨j, h1, h2, h3, h4, h5⟩ := atI_get he
  obtain ⟨w, ew, rw'⟩ := r.get h2
  have hl := r.length
  have hn := line63
  have fin : EP X pins σ Q w s := ⟨z, H, I, rw', q⟩
  by_cases h0 : 0 ≤ k
  · have hj : k.toNat = j := by
      rw [seqIndex_of h0 h5] at h1
      exact Option.some.inj h1
    exact wpAny_getItem_list pl.isList h0 (by omega) (by rw [hj]; simpa using ew) fin
  · have hj : (k + (its.toArray.size : Int)).toNat = j := by
      rw [seqIndex_neg (by omega) h4] at h1
      rw [List.size_toArray, ← hl]
      exact Option.some.inj h1
    exact wpAny_getItem_list_neg pl.isList (by omega) (by rw [List.size_toArray] <;> omega) (by omega) (by rw [hj]; simpa using ew) fin
end
end EvG

set_option Elab.async false
set_option linter.all false
set_option maxRecDepth 100000
set_option maxHeartbeats 4000000
/-! Ev: in, tuples times ints, pow, stores by an operator. -/
namespace Ev
open PySem PySem.Spec L2 EvG

/-! ### in -/
def datsOf (m : Mem) (y : U) : Option (List PyData) := match itemsOf m y with
  | some us => datRL (resM m 5) us
  | none => none
def inU (m : Mem) (x y : U) : Option Bool := match y with
  | .str z => match x with
    | .str w => match w.cps.toList with
      | [k] => some (decide (k ∈ z.cps.toList))
      | _ => none
    | _ => none
  | y => match dat m x, datsOf m y with
    | some d, some ds => if SeqAt.shaped d && SeqAt.shaped (.list ds) then some (ds.any fun z => PyData.eqv z d) else none
    | _, _ => none
def oIn : U → U → Mem → O U := fun x y m => (inU m x y).map fun b => (.bl b, m)
def oNotIn : U → U → Mem → O U := fun x y m => (inU m x y).map fun b => (.bl (!b), m)
theorem dats_ok {K : PySem.W.Frag} {H : Hp} {μ : List Addr} {m : Mem} (M : MOk K H μ m) {y : U} {v : V} {ds : List PyData} (r : RU K H μ y v) (h : datsOf m y = some ds) : Dp K H v (.list ds) ∨ Dp K H v (.tuple ds) := by
  unfold datsOf at h
  split at h
  · rename_i us e
    obtain ⟨a, vs, rfl, hq, t, h1, h2⟩ := items_ok M r e
    have hd := datRL_ok (resM_ok M 5) t h
    rcases hq with hq | hq
    · exact .inl (.lst hq hd)
    · exact .inr (.tup hq hd)
  · cases h
theorem str1 {w : Str} {k : Nat} (h : w.cps.toList = [k]) : w = ⟨#[k]⟩ := by
  obtain ⟨c⟩ := w
  have h2 : c.toList = [k] := h
  have : c = #[k] := by
    have := congrArg List.toArray h2
    simpa using this
  rw [this]
theorem inU_ok {X : Cx} {H : Hp} {μ : List Addr} {m : Mem} (M : MOk X.K H μ m) {x y : U} {v w : V} {b : Bool} (rx : RU X.K H μ x v) (ry : RU X.K H μ y w) (h : inU m x y = some b) :
    (∃ (k : Nat) (z : Str), v = .str ⟨#[k]⟩ ∧ w = .str z ∧ b = decide (k ∈ z.cps.toList)) ∨
    ∃ d ds, Dp X.K H v d ∧ (Dp X.K H w (.list ds) ∨ Dp X.K H w (.tuple ds)) ∧ SeqAt.shaped d = true ∧ SeqAt.shaped (.list ds) = true ∧ b = ds.any fun z => PyData.eqv z d := by
  unfold inU at h
  split at h
  · split at h
    · split at h
      · rename_i e
        cases h
        cases ry.s; cases rx.s
        exact .inl ⟨_, _, by rw [str1 e], rfl, rfl⟩
      · cases h
    · cases h
  · split at h
    · rename_i d ds h1 h2
      split at h
      · rename_i hs
        rw [Bool.and_eq_true] at hs
        cases h
        exact .inr ⟨d, ds, dat_ok M rx h1, dats_ok M ry h2, hs.1, hs.2, rfl⟩
      · cases h
    · cases h
section
variable {X : Cx}
theorem room_in_shapedT {ds : List PyData} {d : PyData} {A : Around} (sd : SeqAt.shaped d = true) (hu : A.units + 65 < cLine) : A.units + 1 + min (PyData.depthAll ds) d.depth < cLine := by
  have : d.depth ≤ 64 := by
    unfold SeqAt.shaped at sd
    rw [Bool.and_eq_true] at sd
    exact of_decide_eq_true sd.2
  omega
theorem x_in (hu : X.A.units + 65 < cLine) : OpR X (compareOp .In) (rd2 X.K oIn) := by
  intro pins s σ H x y v u Q I rx ry h
  obtain ⟨u1, u2, m, μ, r1, r2, M, p⟩ := h
  unfold oIn at p
  cases e : inU m u1 u2 with
  | none => rw [e] at p; exact no_op p
  | some b =>
    rw [e] at p
    rcases inU_ok M r1 r2 e with ⟨k, z, rfl, rfl, rfl⟩ | ⟨d, ds, hd, he, sd, se, rfl⟩
    · exact op_in_sign pins s σ H _ _ v u Q I rx ry ⟨k, z, rfl, rfl, p.val M (.bl _)⟩
    · rcases he with he | he
      · exact op_inD hu pins s σ H _ _ v u Q I rx ry ⟨d, ds, hd, he, sd, se, p.val M (.bl _)⟩
      · obtain ⟨as, q1⟩ := Dp.reads I d x v hd rx
        obtain ⟨bs, q2⟩ := Dp.reads I (.tuple ds) y u he ry
        exact SeqAt.in_tuple_reads q2 q1 (SeqAt.canLay_of_shaped (d := .list ds) se) (SeqAt.canLay_of_shaped sd) (room_in_shapedT sd hu) ⟨.bl _, H, I, rfl, p.val M (.bl _)⟩
theorem x_notIn (hu : X.A.units + 65 < cLine) : OpR X (compareOp .NotIn) (rd2 X.K oNotIn) := by
  intro pins s σ H x y v u Q I rx ry h
  obtain ⟨u1, u2, m, μ, r1, r2, M, p⟩ := h
  unfold oNotIn at p
  cases e : inU m u1 u2 with
  | none => rw [e] at p; exact no_op p
  | some b =>
    rw [e] at p
    rcases inU_ok M r1 r2 e with ⟨k, z, rfl, rfl, rfl⟩ | ⟨d, ds, hd, he, sd, se, rfl⟩
    · exact op_notIn_sign pins s σ H _ _ v u Q I rx ry ⟨k, z, rfl, rfl, p.val M (.bl _)⟩
    · rcases he with he | he
      · exact op_notInD hu pins s σ H _ _ v u Q I rx ry ⟨d, ds, hd, he, sd, se, p.val M (.bl _)⟩
      · obtain ⟨as, q1⟩ := Dp.reads I d x v hd rx
        obtain ⟨bs, q2⟩ := Dp.reads I (.tuple ds) y u he ry
        exact SeqAt.notIn_tuple_reads q2 q1 (SeqAt.canLay_of_shaped (d := .list ds) se) (SeqAt.canLay_of_shaped sd) (room_in_shapedT sd hu) ⟨.bl _, H, I, rfl, p.val M (.bl _)⟩
/-! ### times -/
def oMulG : U → U → Mem → O U
  | .tup xs, .int k, m => if -1000 ≤ k ∧ k ≤ 1000 ∧ xs.length ≤ 1000 then some (.tup (List.replicate k.toNat xs).flatten, m) else none
  | u, v, m => oMul u v m
theorem x_mulG : OpR X (binaryOp .Mult) (rd2 X.K oMulG) := by
  intro pins s σ H x y v u Q I rx ry h
  obtain ⟨u1, u2, m, μ, r1, r2, M, p⟩ := h
  unfold oMulG at p
  split at p
  · rename_i xs k
    cases r1 with
    | @tup a vs _ hq t =>
      cases r2
      split at p
      · rename_i hz
        have hl := t.length
        refine op_repG pins s σ H _ _ v u Q I rx ry ⟨a, k, vs, rfl, rfl, hq, hz.1, hz.2.1, by rw [← hl]; exact hz.2.2, fun e => p.val M (.tup hq ?_), fun hx hk p' hp => ?_, fun hx hk p' hp => p.tup M (t.rep _) hp⟩
        · rcases e with e | e
          · subst e
            cases t
            rw [show (List.replicate k.toNat ([] : List U)).flatten = [] by simp]
            exact .nil
          · subst e
            show RUs _ _ _ (List.replicate 1 xs).flatten vs
            rw [List.replicate_one, List.flatten_cons, List.flatten_nil, List.append_nil]
            exact t
        · have : k.toNat = 0 := by omega
          rw [this] at p
          exact p.tup M .nil hp
      · exact no_op p
  · exact x_mul pins s σ H x y v u Q I rx ry ⟨u1, u2, m, μ, r1, r2, M, p⟩
/-! ### pow of three -/
def oPow3 : List U → Mem → O U
  | [.int a, .int b, .int c], m => if 0 ≤ b ∧ 1 < c then some (.int ((Builtin.powMod (a % (c.natAbs : Int)).toNat b.natAbs c.natAbs : Nat) : Int), m) else none
  | _, _ => none
theorem b_pow3 : CallR X (.builtin "pow") (rdC X.K oPow3) := by
  intro pins s σ H xs us Q I rx h
  obtain ⟨vs, m, μ, r, M, p⟩ := h
  unfold oPow3 at p
  split at p
  · split at p
    · rename_i hz
      cases r with
      | cons r1 r =>
        cases r with
        | cons r2 r =>
          cases r with
          | cons r3 r =>
            cases r
            cases r1.i; cases r2.i; cases r3.i
            exact cr_pow3 pins s σ H _ us Q I rx ⟨_, _, _, rfl, hz.1, hz.2, p.val M (.int _)⟩
    · exact no_op p
  · exact no_op p
/-! ### o[i] op= e of a list -/
def oGetL (o i : U) (m : Mem) : O U := match o, i with
  | .ref n, .int k => match cellAt m n with
    | some us => (atI us k).map fun u => (u, m)
    | none => none
  | _, _ => none
def sAugS (G : U → U → Mem → O U) (F : U → U → Mem → O U) (S : U → U → U → Mem → O Unit) (fo fi fe : XD) : SD := fun ρ m => thenE (fo ρ m) ρ fun o m1 => thenE (fi ρ m1) ρ fun i m2 => thenO (G o i m2) fun x m3 => thenE (fe ρ m3) ρ fun y m4 => thenO (F x y m4) fun z m5 => thenO (S o i z m5) fun _ m6 => .ok .nx ρ m6
theorem x_getL : PGet X (rd2 X.K oGetL) := by
  intro pins s σ H x y v u Q I rx ry h
  obtain ⟨u1, u2, m, μ, r1, r2, M, p⟩ := h
  unfold oGetL at p
  split at p
  · cases r2
    split at p
    · rename_i us e
      cases q : atI us _ with
      | none => rw [q] at p; exact no_op p
      | some z =>
        rw [q] at p
        obtain ⟨a, vs, rfl, hn, hq, t⟩ := r1.cl M (cellAt_of e)
        obtain ⟨z', h1, h2⟩ := atI_u t q
        exact get_list pins s σ H _ _ v u Q I rx ry ⟨a, vs, _, z', rfl, rfl, SqL.of hq, h1, p.val M h2⟩
    · exact no_op p
  · exact no_op p
theorem ss_augS {c : Nat → Addr} {W : WX} {st : Stmt} {fo fi fe : XD} {G F : U → U → Mem → O U} {S : U → U → U → Mem → O Unit}
    (h : PS X st (tAugS (rdE (wX X c) W fo) (rdE (wX X c) W fi) (rdE (wX X c) W fe) (rd2 X.K G) (rd2 X.K F) (rdSet X.K S))) : SS X c W st (sAugS G F S fo fi fe) :=
  h.imp fun D σ H ⟨ρ, m, μ, E, M, p⟩ => ⟨ρ, m, μ, E, M, (PostS.thenE E p).imp fun μ1 H1 m1 o s1 M1 p1 vo ro => ⟨ρ, m1, μ1, E.step s1, M1, (PostS.thenE (E.step s1) p1).imp fun μ2 H2 m2 i s2 M2 p2 vi ri => by
    refine ⟨o, i, m2, μ2, ro.step s2, ri, M2, ?_⟩
    have p2 := PostS.thenO p2
    cases q : G o i m2 with
    | none => rw [q] at p2; exact no_op p2
    | some z =>
      obtain ⟨x, m3⟩ := z
      rw [q] at p2
      exact fun μ3 H3 s3 M3 vx rx => ⟨ρ, m3, μ3, ((E.step s1).step s2).step s3, M3, (PostS.thenE (((E.step s1).step s2).step s3) (p2 μ3 H3 s3 M3)).imp fun μ4 H4 m4 y s4 M4 p4 vy ry => by
        refine ⟨x, y, m4, μ4, rx.step s4, ry, M4, ?_⟩
        have p4 := PostS.thenO p4
        cases q2 : F x y m4 with
        | none => rw [q2] at p4; exact no_op p4
        | some z =>
          obtain ⟨z, m5⟩ := z
          rw [q2] at p4
          exact fun μ5 H5 s5 M5 vz rz => by
            refine ⟨o, i, z, m5, μ5, (((ro.step s2).step s3).step s4).step s5, ((ri.step s3).step s4).step s5, rz, M5, ?_⟩
            have p5 := PostS.thenO (p4 μ5 H5 s5 M5)
            cases q3 : S o i z m5 with
            | none => rw [q3] at p5; exact no_op p5
            | some z =>
              obtain ⟨z', m6⟩ := z
              rw [q3] at p5
              exact fun μ6 H6 s6 M6 => (p5 μ6 H6 s6 M6).nx M6 (((((E.step s1).step s2).step s3).step s4).step s5 |>.step s6)⟩⟩⟩
/-! in place: ints, texts -/
def oIAdd : U → U → Mem → O U
  | .int i, .int j, m => some (.int (i + j), m)
  | .str x, .str y, m => if x.length + y.length ≤ sizeLine then some (.str (x ++ y), m) else none
  | _, _, _ => none
theorem x_iadd : PIp X .Add (rd2 X.K oIAdd) := by
  intro pins s σ H x y v u Q I rx ry h
  obtain ⟨u1, u2, m, μ, r1, r2, M, p⟩ := h
  unfold oIAdd at p
  split at p
  · cases r1; cases r2
    exact iop_add pins s σ H _ _ v u Q I rx ry ⟨_, _, rfl, rfl, p.val M (.int _)⟩
  · cases r1; cases r2
    split at p
    · rename_i hz
      exact iop_add_str pins s σ H _ _ v u Q I rx ry ⟨_, _, rfl, rfl, hz, p.val M (.str _)⟩
    · exact no_op p
  · exact no_op p
theorem x_isub : PIp X .Sub (rd2 X.K oSub) := by
  intro pins s σ H x y v u Q I rx ry h
  obtain ⟨u1, u2, m, μ, r1, r2, M, p⟩ := h
  unfold oSub at p
  split at p
  · cases r1; cases r2
    exact iop_sub pins s σ H _ _ v u Q I rx ry ⟨_, _, rfl, rfl, p.val M (.int _)⟩
  · exact no_op p
end
/-! ### reversed(range(..)) -/
def iRevR1 (f : XD) : ID := fun ρ m => (f ρ m).bind fun u m1 => match u with
  | .int j => if -(2 ^ 62) ≤ j ∧ j < 2 ^ 62 then .ok (.fix (runI 0 (j - 0).toNat).reverse) m1 else .bad
  | _ => .bad
theorem runI_len : ∀ (n : Nat) (lo : Int), (runI lo n).length = n
  | 0, _ => rfl
  | n + 1, lo => by rw [runI, List.length_cons, runI_len n]
theorem wk_rr {K : PySem.W.Frag} {H : Hp} {μ : List Addr} {lo : Int} {n : Nat} : WkOk K (Itc (lo + ((n : Nat) : Int) - 1) (-1) n) μ H (Src.fix (runI lo n).reverse).next := wk_fix fun i μ1 H1 m mo M _ => by
  by_cases h : i < n
  · have e : (runI lo n).reverse[i]? = some (.int (lo + ((n - 1 - i : Nat) : Int))) := by
      rw [List.getElem?_reverse (by rw [runI_len]; exact h), runI_len, runI_get, if_pos (by omega)]
    rw [e]
    refine ⟨h, fun x H' y => ?_⟩
    obtain ⟨e1, e2⟩ := y
    subst e1 e2
    refine ⟨.refl, M, ?_⟩
    have : lo + ((n : Nat) : Int) - 1 + (i : Int) * (-1) = lo + ((n - 1 - i : Nat) : Int) := by omega
    rw [this]
    exact .int _
  · rw [List.getElem?_eq_none (by rw [List.length_reverse, runI_len]; omega)]
    exact Nat.le_of_not_lt h
section
variable {X : Cx} {c : Nat → Addr} {W : WX} {tg : Expr} {f : XD}
theorem si_revR1 {st : Expr} (hp : PI X tg st (iRevR (tRg1 (rdE (wX X c) W f)))) : SI X c W tg st (iRevR1 f) :=
  hp.imp fun σ H R ⟨ρ, m, μ, E, M, p⟩ => ⟨ρ, m, μ, E, M, p.bind.imp fun μ1 H1 m1 u s1 M1 p1 v r => by
    split at p1
    · split at p1
      · rename_i hz
        cases r.i
        exact ⟨_, rfl, by omega, by omega, hz.1, hz.2, p1.ok_at M1 _ wk_rr⟩
      · exact False.elim p1
    · exact False.elim p1⟩
end
end Ev

set_option Elab.async false
set_option linter.all false
set_option maxRecDepth 100000
set_option maxHeartbeats 4000000
/-! Ev: short words for printed texts; the ends. -/
namespace Ev
open PySem PySem.Spec L2
def st (l : List Nat) : Str := ⟨l.toArray⟩
section
variable {X : Cx} {c : Nat → Addr} {W : WX}
theorem se_sl (i : Nat) {x : Str} {pos : Pos} (hN : X.N[i]? = some x := by rfl) (hv : Vis X.env.scope x := by first | exact Or.inl rfl | exact Or.inr (Or.inl rfl) | exact Or.inr (Or.inr rfl)) (hd : (x == ("__debug__" : Str)) = false := by decide) (hcd : (x == ("__classdict__" : Str)) = false := by decide) : SE X c W (.Name x pos) (dSlot i) :=
  se_slot hN hv hd hcd
end
theorem law_sp {K : PySem.W.Frag} {c : Nat → Addr} {F : List U → Mem → R U} (hF : ∀ ns : List Int, ns.length ≤ 63 → ∃ m, F [.rol (ns.map .int)] [] = .ok (.bl true) m) {vs : List V} {H : Hp} {Q : VK} {E : XK}
    (h : ∃ (ad : Addr) (ns : List Int), vs = [.ref ad] ∧ ((∃ o, H ad = some (.frz o (.lst (ns.map V.int)))) ∨ SqL K (fun _ => none) ad (ns.map V.int)) ∧ ns.length ≤ 63 ∧ ∀ H', Q (.bl true) H') : spF K c 1 F vs H Q E := by
  obtain ⟨ad, ns, rfl, hq, hl, hQ⟩ := h
  obtain ⟨m, e⟩ := hF ns hl
  refine ⟨rfl, [.rol (ns.map .int)], [], [], .cons (.rol hq (RUs.ints ns)) .nil, ⟨rfl, List.nodup_nil, fun n a c h _ => by simp at h⟩, ?_⟩
  rw [e]
  exact fun μ' H' s M v r => by
    cases r.b
    exact hQ H'
theorem only_rol {K : PySem.W.Frag} {H : Hp} {a : Addr} {vs : List V} (hO : Only H) (hS : SqL K H a vs) : (∃ o, H a = some (.frz o (.lst vs))) ∨ SqL K (fun _ => none) a vs := by
  rcases hS with (h | ⟨o, h⟩) | h
  · rcases hO a with e | ⟨o, xs, e⟩
    · rw [h] at e; cases e
    · rw [h] at e; cases e
  · exact .inl ⟨o, h⟩
  · exact .inr (.inr h)
theorem cx_false {P : Program} {w : World} {l : List PySem.Env} {H : Hp} {s : Shared} {e : Value} {s' : Shared} (z : L2.CX P w l H s (fun _ _ _ => False) e s') : False := by
  obtain ⟨_, _, _, _, _, _, _, _, _, _, _, _, z⟩ := z
  exact z
end Ev

set_option Elab.async false
set_option linter.all false
set_option maxRecDepth 100000
set_option maxHeartbeats 2000000
/-! Ev: len(set(..)), list(range(..)). -/
namespace Ev
open PySem PySem.Spec PyProof.Rows L2 RZ
/-- how many unlike ones -/
def dcount : List Int → Nat
  | [] => 0
  | a :: r => if a ∈ r then dcount r else dcount r + 1
theorem dcount_of : ∀ (ns out : List Int), out.Nodup → (∀ k, k ∈ out ↔ k ∈ ns) → out.length = dcount ns
  | [], out, _, h => by
    cases out with
    | nil => rfl
    | cons a r => exact absurd ((h a).mp (List.mem_cons_self ..)) (by simp)
  | a :: r, out, nd, h => by
    rw [dcount]
    by_cases ha : a ∈ r
    · rw [if_pos ha]
      exact dcount_of r out nd fun k => (h k).trans ⟨fun z => by
        rcases List.mem_cons.mp z with e | z
        · exact e ▸ ha
        · exact z, fun z => List.mem_cons_of_mem _ z⟩
    · rw [if_neg ha]
      have hao : a ∈ out := (h a).mpr (List.mem_cons_self ..)
      have ih := dcount_of r (out.erase a) (nd.erase a) fun k => by
        rw [nd.mem_erase_iff, h k, List.mem_cons]
        exact ⟨fun ⟨h1, h2⟩ => h2.resolve_left h1, fun z => ⟨fun e => ha (e ▸ z), .inr z⟩⟩
      rw [List.length_erase_of_mem hao] at ih
      have := List.length_pos_of_mem hao
      omega
theorem dcount_nodup : ∀ ns : List Int, ns.Nodup → dcount ns = ns.length
  | [], _ => rfl
  | a :: r, h => by
    have h' := List.nodup_cons.mp h
    rw [dcount, if_neg h'.1, dcount_nodup r h'.2, List.length_cons]
theorem dcount_le : ∀ ns : List Int, dcount ns ≤ ns.length
  | [] => Nat.le_refl _
  | a :: r => by
    have := dcount_le r
    rw [dcount, List.length_cons]; split <;> omega
theorem nodup_dcount : ∀ ns : List Int, dcount ns = ns.length → ns.Nodup
  | [], _ => List.nodup_nil
  | a :: r, h => by
    have hl := dcount_le r
    rw [dcount, List.length_cons] at h
    by_cases ha : a ∈ r
    · rw [if_pos ha] at h; omega
    · rw [if_neg ha] at h
      exact List.nodup_cons.mpr ⟨ha, nodup_dcount r (by omega)⟩
def tLenSetT (K : PySem.W.Frag) (ta : TE) : TE := fun σ H Q => ta σ H fun x H1 => ∃ (l : Addr) (ns : List Int), x = .ref l ∧ SqT K H1 l (ns.map V.int) ∧ ns.length ≤ 1000 ∧ Q (.int (dcount ns : Nat)) H1
theorem pe_lenSetT {X : Cx} {a : Expr} {ta : TE} {p p2 q pos : Pos} (hg : Gl X "len") (hm : X.mg "len" = none) (hg2 : Gl X "set") (hm2 : X.mg "set" = none) (ha : PE X a ta) (hc : X.calm = true := by rfl)
    (na : starEach [a] X.env = (false, eval a X.env) :: starEach [] X.env := by rfl) : PE X (.Call (.Name "len" p) [.Call (.Name "set" p2) [a] [] q] [] pos) (tLenSetT X.K ta) := by
  refine ⟨fun pins s σ H Q I h => ?_⟩
  refine Call_ (ld_blt I hg hm boot_len ?_)
  refine PyProof.Rows.callWith_builtin1 (PyProof.Rows.args_cons ?_ rfl) rfl rfl
  refine Call_ (ld_blt I hg2 hm2 boot_set ?_)
  refine PyProof.Rows.callWith_type1 (PyProof.Rows.args_cons (thn (ha.run pins s σ H _ I h) fun v s1 ⟨x, H1, I1, r1, q1⟩ => PyProof.Rows.args_nil ?_) na) na rfl
  obtain ⟨l, ns, rfl, hq, hl, q1⟩ := q1
  cases r1
  obtain ⟨its, rv, pt, hz⟩ := I1.tuple hq
  have hi : PyProof.Rows.IntsAre its.toArray.toList ns := ints_of_vals rv
  refine call_set_tupI ns (I1.ok.hd hc) (show s1.heap.IsTuple l its.toArray from pt) hi (by unfold scanBound; omega) fun h' tk c R1 hcn k => ?_
  obtain ⟨o, es, ep, t, ho, hex, hdt, g, nd, hm2, hb, hf, hn, hr, hl2⟩ := R1
  refine PyProof.Rows.args_nil ?_
  have I2 : Inv X pins σ H1 { s1 with heap := h', toks := tk } := I1.kept fun b o e => k b o e
  have hsz : es.size = dcount ns := by
    have := dcount_of ns (es.toList.map keyOf) nd fun k => (hm2 k).symm.trans (by simp)
    rwa [List.length_map, Array.length_toList] at this
  exact call_len_set ho hex hdt hf (by unfold scanBound at hb; omega) ⟨.int (dcount ns : Nat), H1, I2.tok _, ⟨_, by rw [hsz]⟩, q1⟩
/-- len(set(e)) of a tuple of ints -/
def dLenSet (f : XD) : XD := fun ρ m => (f ρ m).bind fun u m1 => match u with
  | .tup us => match nums us with
    | some ns => if ns.length ≤ 1000 then .ok (.int (dcount ns : Nat)) m1 else .bad
    | none => .bad
  | _ => .bad
theorem nums_u : ∀ {us : List U} {ns : List Int}, nums us = some ns → us = ns.map U.int
  | [], _, h => by cases h; rfl
  | u :: us, ns, h => by
    cases u with
    | int i =>
      simp only [nums] at h
      cases e : nums us with
      | none => rw [e] at h; cases h
      | some ms => rw [e] at h; cases h; rw [nums_u e]; rfl
    | _ => cases h
section
variable {X : Cx} {c : Nat → Addr} {W : WX} {f : XD}
theorem se_lenSet {st : Expr} (h : PE X st (tLenSetT X.K (rdE (wX X c) W f))) : SE X c W st (dLenSet f) :=
  h.imp fun σ H Q ⟨ρ, m, μ, E, M, p⟩ => ⟨ρ, m, μ, E, M, p.bind.imp fun μ1 H1 m1 u s1 M1 p1 v r => by
    cases u with
    | tup us =>
      simp only at p1
      cases e : nums us with
      | none => rw [e] at p1; exact False.elim p1
      | some ns =>
        rw [e] at p1
        simp only at p1
        split at p1
        · rename_i hl
          have hu := nums_u e
          subst hu
          cases r with
          | tup hs t =>
            rw [t.vints] at hs
            exact ⟨_, ns, rfl, hs, hl, p1 μ1 H1 .refl M1 _ (.int _)⟩
        · exact False.elim p1
    | _ => exact False.elim p1⟩
/-! ### list(range(n)), list(range(a, b)) -/
def oLstRg (a b : Int) (m : Mem) : O U := if -(2 ^ 62) ≤ a ∧ a < 2 ^ 62 ∧ -(2 ^ 62) ≤ b ∧ b < 2 ^ 62 ∧ (b - a).toNat ≤ 2 ^ 24 then some (.ref m.length, m ++ [.lst (runI a (b - a).toNat)]) else none
def oTupRg (a b : Int) (m : Mem) : O U := if -(2 ^ 62) ≤ a ∧ a < 2 ^ 62 ∧ -(2 ^ 62) ≤ b ∧ b < 2 ^ 62 ∧ (b - a).toNat ≤ 2 ^ 24 then some (.tup (runI a (b - a).toNat), m) else none
theorem RUs_rg {K : PySem.W.Frag} {H : Hp} {μ : List Addr} : ∀ (n : Nat) (a : Int), RUs K H μ (runI a n) ((List.range n).map fun i : Nat => V.int (a + (i : Nat)))
  | 0, a => .nil
  | n + 1, a => by
    rw [List.range_succ_eq_map, List.map_cons, List.map_map]
    refine .cons ?_ ?_
    · have : a + ((0 : Nat) : Int) = a := by omega
      rw [this]; exact .int a
    · have ih := RUs_rg (K := K) (H := H) (μ := μ) n (a + 1)
      have e : ((fun i : Nat => V.int (a + (i : Nat))) ∘ Nat.succ) = fun i : Nat => V.int (a + 1 + (i : Nat)) := by
        funext i
        show V.int _ = V.int _
        congr 1
        show a + ((i + 1 : Nat) : Int) = _
        omega
      rw [e]; exact ih
def dLstRg (f : XD) : XD := fun ρ m => (f ρ m).bind fun u m1 => match u with
  | .int n => ofO (oLstRg 0 n m1)
  | _ => .bad
theorem se_lstRg {st : Expr} (h : PE X st (tLstRg (tRg1 (rdE (wX X c) W f)))) : SE X c W st (dLstRg f) :=
  h.imp fun σ H Q ⟨ρ, m, μ, E, M, p⟩ => ⟨ρ, m, μ, E, M, p.bind.imp fun μ1 H1 m1 u s1 M1 p1 v r => by
    cases u with
    | int n =>
      cases r
      refine ⟨n, rfl, ?_⟩
      simp only at p1
      unfold oLstRg at p1
      split at p1
      · rename_i hz
        refine ⟨hz, fun q hq => ?_⟩
        exact PostO.lst p1.o M1 (RUs_rg (n - 0).toNat 0) hq
      · exact False.elim p1
    | _ => exact False.elim p1⟩
def dTupRg (f : XD) : XD := fun ρ m => (f ρ m).bind fun u m1 => match u with
  | .int n => ofO (oTupRg 0 n m1)
  | _ => .bad
theorem se_tupRg {st : Expr} (h : PE X st (tTupRg (tRg1 (rdE (wX X c) W f)))) : SE X c W st (dTupRg f) :=
  h.imp fun σ H Q ⟨ρ, m, μ, E, M, p⟩ => ⟨ρ, m, μ, E, M, p.bind.imp fun μ1 H1 m1 u s1 M1 p1 v r => by
    cases u with
    | int n =>
      cases r
      refine ⟨n, rfl, ?_⟩
      simp only at p1
      unfold oTupRg at p1
      split at p1
      · rename_i hz
        refine ⟨hz, fun q hq => ?_⟩
        exact PostO.tup p1.o M1 (RUs_rg (n - 0).toNat 0) hq
      · exact False.elim p1
    | _ => exact False.elim p1⟩
/-- two ends -/
def dLstRg2 (f g : XD) : XD := fun ρ m => (f ρ m).bind fun u m1 => (g ρ m1).bind fun v m2 => match u, v with
  | .int i, .int j => ofO (oLstRg i j m2)
  | _, _ => .bad
def dTupRg2 (f g : XD) : XD := fun ρ m => (f ρ m).bind fun u m1 => (g ρ m1).bind fun v m2 => match u, v with
  | .int i, .int j => ofO (oTupRg i j m2)
  | _, _ => .bad
theorem se_lstRg2 {st : Expr} {g : XD} (h : PE X st (tLstRg (tRg2 (rdE (wX X c) W f) (rdE (wX X c) W g)))) : SE X c W st (dLstRg2 f g) :=
  h.imp fun σ H Q ⟨ρ, m, μ, E, M, p⟩ => ⟨ρ, m, μ, E, M, p.bind.imp fun μ1 H1 m1 u s1 M1 p1 x r => ⟨ρ, m1, μ1, E.step s1, M1, p1.bind.imp fun μ2 H2 m2 v s2 M2 p2 y r2 => by
    have r' := r.step s2
    split at p2
    · rename_i i j
      cases r'; cases r2
      refine ⟨i, j, rfl, rfl, ?_⟩
      unfold oLstRg at p2
      split at p2
      · rename_i hz
        exact ⟨hz, fun q hq => PostO.lst p2.o M2 (RUs_rg (j - i).toNat i) hq⟩
      · exact False.elim p2
    · exact False.elim p2⟩⟩
theorem se_tupRg2 {st : Expr} {g : XD} (h : PE X st (tTupRg (tRg2 (rdE (wX X c) W f) (rdE (wX X c) W g)))) : SE X c W st (dTupRg2 f g) :=
  h.imp fun σ H Q ⟨ρ, m, μ, E, M, p⟩ => ⟨ρ, m, μ, E, M, p.bind.imp fun μ1 H1 m1 u s1 M1 p1 x r => ⟨ρ, m1, μ1, E.step s1, M1, p1.bind.imp fun μ2 H2 m2 v s2 M2 p2 y r2 => by
    have r' := r.step s2
    split at p2
    · rename_i i j
      cases r'; cases r2
      refine ⟨i, j, rfl, rfl, ?_⟩
      unfold oTupRg at p2
      split at p2
      · rename_i hz
        exact ⟨hz, fun q hq => PostO.tup p2.o M2 (RUs_rg (j - i).toNat i) hq⟩
      · exact False.elim p2
    · exact False.elim p2⟩⟩
end
theorem u65 {k : Nat} {A : Around} (hr : Room k A) : A.units + 65 < cLine := by have := hr.un; omega
end Ev

set_option Elab.async false
set_option linter.all false
set_option maxRecDepth 100000
set_option maxHeartbeats 2000000
/-! Ev: a law's functions reckoned with, by rewriting. -/
namespace Ev
open PySem PySem.Spec L2

/-! ### memory -/
theorem mem_last (m : Mem) (c : Cell) : (m ++ [c])[m.length]? = some c := by simp
theorem mem_setl (m : Mem) (c d : Cell) : (m ++ [c]).set m.length d = m ++ [d] := by simp
theorem mem_old {m : Mem} {t : Mem} {n : Nat} {c : Cell} (h : m[n]? = some c) : (m ++ t)[n]? = some c := by
  rw [List.getElem?_append_left (List.getElem?_eq_some_iff.mp h).1]; exact h
theorem mulOk_l {i j : Int} (h : -18446744073709551616 < i) (h2 : i < 18446744073709551616) : mulOk i j = true := by
  unfold mulOk
  simp only [Bool.or_eq_true, decide_eq_true_eq]
  left; left; omega
theorem mulOk_r {i j : Int} (h : -18446744073709551616 < j) (h2 : j < 18446744073709551616) : mulOk i j = true := by
  unfold mulOk
  simp only [Bool.or_eq_true, decide_eq_true_eq]
  left; right; omega
theorem log2_lt {n k : Nat} (h : n < 2 ^ k) (hk : 0 < k) : n.log2 < k := by
  by_cases h0 : n = 0
  · subst h0; simpa using hk
  · exact (Nat.log2_lt h0).mpr h
abbrev tI (l : List Int) : U := .tup (l.map .int)
abbrev cI (l : List Int) : Cell := .lst (l.map .int)

/-! ### the rules -/
theorem runB_e {l n : Nat} {b : SD} {us : List U} {m : Mem} (h : us.length = n) : runB l n b us m = finS (b (us.map some ++ List.replicate (l - us.length) none) m) := if_pos h
theorem evB :
    (∀ {α β : Type} (a : α) (m : Mem) (k : α → Mem → R β), (R.ok a m).bind k = k a m) ∧
    (∀ {α β : Type} (x : Ex) (m : Mem) (k : α → Mem → R β), (R.err x m : R α).bind k = .err x m) ∧
    (∀ {α : Type} (a : α) (m : Mem) ρ k, thenE (R.ok a m) ρ k = k a m) ∧
    (∀ {α : Type} x (m : Mem) ρ k, thenE (R.err x m : R α) ρ k = .err x ρ m) ∧
    (∀ {α : Type} (a : α) (m : Mem) k, thenO (some (a, m) : O α) k = k a m) ∧
    (∀ ρ m k, thenS (.ok .nx ρ m) k = k ρ m) ∧
    (∀ u ρ m k, thenS (.ok (.rt u) ρ m) k = .ok (.rt u) ρ m) ∧
    (∀ x ρ m k, thenS (.err x ρ m) k = .err x ρ m) ∧
    (∀ ρ m k, thenS (.ok .bk ρ m) k = .ok .bk ρ m) ∧
    (∀ ρ m k, thenS (.ok .ct ρ m) k = .ok .ct ρ m) ∧
    (∀ ρ m k, loopS (.ok .nx ρ m) k = k ρ m) ∧
    (∀ ρ m k, loopS (.ok .ct ρ m) k = k ρ m) ∧
    (∀ ρ m k, loopS (.ok .bk ρ m) k = .ok .nx ρ m) ∧
    (∀ u ρ m k, loopS (.ok (.rt u) ρ m) k = .ok (.rt u) ρ m) ∧
    (∀ x ρ m k, loopS (.err x ρ m) k = .err x ρ m) ∧
    (∀ u ρ m, finS (.ok (.rt u) ρ m) = .ok u m) ∧
    (∀ ρ m, finS (.ok .nx ρ m) = .ok .non m) ∧
    (∀ x ρ m, finS (.err x ρ m) = .err x m) ∧
    (∀ {α : Type} (a : α) (m : Mem), ofO (some (a, m)) = .ok a m) ∧
    (∀ {α : Type} (a : α) (m : Mem), ofB (some a) m = .ok a m) ∧
    (∀ {α : Type} b (k : Bool → R α), asB (.bl b) k = k b) ∧
    (∀ {α : Type} (a : α) (m : Mem), toO (.ok a m) = some (a, m)) :=
  ⟨fun _ _ _ => rfl, fun _ _ _ => rfl, fun _ _ _ _ => rfl, fun _ _ _ _ => rfl, fun _ _ _ => rfl, fun _ _ _ => rfl, fun _ _ _ _ => rfl, fun _ _ _ _ => rfl, fun _ _ _ => rfl, fun _ _ _ => rfl, fun _ _ _ => rfl, fun _ _ _ => rfl, fun _ _ _ => rfl, fun _ _ _ _ => rfl, fun _ _ _ _ => rfl, fun _ _ _ => rfl, fun _ _ => rfl, fun _ _ _ => rfl, fun _ _ => rfl, fun _ _ => rfl, fun _ _ => rfl, fun _ _ => rfl⟩
theorem dSlot_e {i : Nat} {ρ : Env} {u : U} {m : Mem} (h : ρ[i]? = some (some u)) : dSlot i ρ m = .ok u m := by unfold dSlot; rw [h]
/-- expressions -/
theorem evX :
    (∀ u ρ m, dC u ρ m = .ok u m) ∧
    (∀ F fa fb ρ m, dOp F fa fb ρ m = (fa ρ m).bind fun u m1 => (fb ρ m1).bind fun v m2 => ofO (F u v m2)) ∧
    (∀ F fa ρ m, dUn F fa ρ m = (fa ρ m).bind fun u m1 => ofO (F u m1)) ∧
    (∀ fa fb ρ m, dAnd fa fb ρ m = (fa ρ m).bind fun z m1 => asB z fun b => if b then fb ρ m1 else .ok (.bl false) m1) ∧
    (∀ fa fb ρ m, dOr fa fb ρ m = (fa ρ m).bind fun z m1 => asB z fun b => if b then .ok (.bl true) m1 else fb ρ m1) ∧
    (∀ fa ρ m, dNot fa ρ m = (fa ρ m).bind fun z m1 => asB z fun b => .ok (.bl (!b)) m1) ∧
    (∀ t fa fb ρ m, dIf t fa fb ρ m = (t ρ m).bind fun b m1 => if b then fa ρ m1 else fb ρ m1) ∧
    (∀ ρ m, lNil ρ m = .ok [] m) ∧
    (∀ fa fr ρ m, lCons fa fr ρ m = (fa ρ m).bind fun u m1 => (fr ρ m1).bind fun us m2 => .ok (u :: us) m2) ∧
    (∀ fr ρ m, dTup fr ρ m = (fr ρ m).bind fun us m1 => ofO (oTup us m1)) ∧
    (∀ fr ρ m, dLst fr ρ m = (fr ρ m).bind fun us m1 => ofO (oLst us m1)) ∧
    (∀ F fr ρ m, dCall F fr ρ m = (fr ρ m).bind fun us m1 => F us m1) ∧
    (∀ F fr ρ m, dB F fr ρ m = (fr ρ m).bind fun us m1 => ofO (F us m1)) ∧
    (∀ fa ρ m, tTru fa ρ m = (fa ρ m).bind fun z m1 => ofB (truU m1 z) m1) ∧
    (∀ fa ρ m, tBl fa ρ m = (fa ρ m).bind fun z m1 => asB z fun b => .ok b m1) ∧
    (∀ t u ρ m, tAn t u ρ m = (t ρ m).bind fun b m1 => if b then u ρ m1 else .ok false m1) ∧
    (∀ t u ρ m, tO t u ρ m = (t ρ m).bind fun b m1 => if b then .ok true m1 else u ρ m1) ∧
    (∀ t ρ m, tN t ρ m = (t ρ m).bind fun b m1 => .ok (!b) m1) ∧
    (∀ ρ m, tYesU ρ m = .ok true m) ∧
    (∀ f g t e vs ρ m, dLc f g t e vs ρ m = (f ρ m).bind fun s m1 => ofO (oList (compR g t e (wipeU ρ vs) s m1))) ∧
    (∀ T f ρ m, dIsi T f ρ m = (f ρ m).bind fun u m1 => match isTy m1 T u with | some b => .ok (.bl b) m1 | none => .bad) ∧
    (∀ T F fo fr ρ m, dM T F fo fr ρ m = (fo ρ m).bind fun o m1 => if isMT m1 T o then (fr ρ m1).bind fun us m2 => ofO (F o us m2) else .bad) ∧
    (∀ T F fo ρ m, dM0 T F fo ρ m = (fo ρ m).bind fun o m1 => if isMT m1 T o then ofO (F o [] m1) else .bad) ∧
    (∀ fa lo hi ρ m, dSlice fa lo hi ρ m = (fa ρ m).bind fun u m1 => (lo ρ m1).bind fun l m2 => (hi ρ m2).bind fun h m3 => ofO (oSlice u l h m3)) ∧
    (∀ F F' fa fb fc ρ m, dChain F F' fa fb fc ρ m = (fa ρ m).bind fun u m1 => (fb ρ m1).bind fun v m2 => (ofO (F u v m2)).bind fun z m3 => asB z fun b => if b then (fc ρ m3).bind fun t m4 => ofO (F' v t m4) else .ok (.bl false) m3) ∧
    (∀ g t e ρ us m, compR g t e ρ (.fix us) m = compL g t e ρ us m) :=
  ⟨fun _ _ _ => rfl, fun _ _ _ _ _ => rfl, fun _ _ _ _ => rfl, fun _ _ _ _ => rfl, fun _ _ _ _ => rfl, fun _ _ _ => rfl, fun _ _ _ _ _ => rfl, fun _ _ => rfl, fun _ _ _ _ => rfl, fun _ _ _ => rfl, fun _ _ _ => rfl, fun _ _ _ _ => rfl, fun _ _ _ _ => rfl, fun _ _ _ => rfl, fun _ _ _ => rfl, fun _ _ _ _ => rfl, fun _ _ _ _ => rfl, fun _ _ _ => rfl, fun _ _ => rfl, fun _ _ _ _ _ _ _ => rfl, fun _ _ _ _ => rfl, fun _ _ _ _ _ _ => rfl, fun _ _ _ _ _ => rfl, fun _ _ _ _ _ => rfl, fun F F' fa fb fc ρ m => by
    unfold dChain
    congr 1; funext u m1
    congr 1; funext v m2
    congr 1; funext z m3
    cases z with
    | bl b => cases b <;> rfl
    | _ => rfl, fun _ _ _ _ _ _ => rfl⟩
/-- statements, targets -/
theorem evS :
    (∀ ρ m, sNext ρ m = .ok .nx ρ m) ∧ (∀ ρ m, sBreak ρ m = .ok .bk ρ m) ∧ (∀ ρ m, sCont ρ m = .ok .ct ρ m) ∧
    (∀ f ρ m, sExpr f ρ m = thenE (f ρ m) ρ fun _ m1 => .ok .nx ρ m1) ∧
    (∀ f ρ m, sRet f ρ m = thenE (f ρ m) ρ fun u m1 => .ok (.rt u) ρ m1) ∧
    (∀ ρ m, sRetN ρ m = .ok (.rt .non) ρ m) ∧
    (∀ a b ρ m, sSeq a b ρ m = thenS (a ρ m) b) ∧
    (∀ t a b ρ m, sIf t a b ρ m = thenE (t ρ m) ρ fun k m1 => if k then a ρ m1 else b ρ m1) ∧
    (∀ i u ρ m, gName i u ρ m = some (ρ.set i (some u), m)) ∧
    (∀ ρ m, gNil [] ρ m = some (ρ, m)) ∧
    (∀ i gs u r ρ m, gCons (gName i) gs (u :: r) ρ m = gs r (ρ.set i (some u)) m) ∧
    (∀ n gs us ρ m, gTup n gs (.tup us) ρ m = if us.length = n then gs us ρ m else none) ∧
    (∀ S fo fi u ρ m, gSub S fo fi u ρ m = match toO (fo ρ m) with | some (o, m1) => (match toO (fi ρ m1) with | some (i, m2) => (S o i u m2).map fun x => (ρ, x.2) | none => none) | none => none) ∧
    (∀ f g ρ m, sAsg f g ρ m = thenE (f ρ m) ρ fun u m1 => thenO (g u ρ m1) fun ρ1 m2 => .ok .nx ρ1 m2) ∧
    (∀ i j f ρ m, sPar i j f ρ m = thenE (f ρ m) ρ fun us m1 => match us with | [u, v] => .ok .nx ((ρ.set i (some u)).set j (some v)) m1 | _ => .bad) ∧
    (∀ G F S fo fi fe ρ m, sAugS G F S fo fi fe ρ m = thenE (fo ρ m) ρ fun o m1 => thenE (fi ρ m1) ρ fun i m2 => thenO (G o i m2) fun x m3 => thenE (fe ρ m3) ρ fun y m4 => thenO (F x y m4) fun z m5 => thenO (S o i z m5) fun _ m6 => .ok .nx ρ m6) ∧
    (∀ f g b ρ m, sFor f g b ρ m = thenE (f ρ m) ρ fun s m1 => forR g b s ρ m1) ∧
    (∀ g b us, forR g b (.fix us) = forL g b us) ∧
    (∀ g b, forL g b [] = sNext) ∧
    (∀ g b u us ρ m, forL g b (u :: us) ρ m = thenO (g u ρ m) fun ρ1 m1 => loopS (b ρ1 m1) (forL g b us)) ∧
    (∀ t b, sWhile t b = whileN t b 1000000) ∧
    (∀ k ρ m, sRaise k ρ m = .err ⟨k, none⟩ ρ m) :=
  ⟨fun _ _ => rfl, fun _ _ => rfl, fun _ _ => rfl, fun _ _ _ => rfl, fun _ _ _ => rfl, fun _ _ => rfl, fun _ _ _ _ => rfl, fun _ _ _ _ _ => rfl, fun _ _ _ _ => rfl, fun _ _ => rfl, fun _ _ _ _ _ _ => rfl, fun _ _ _ _ _ => rfl, fun _ _ _ _ _ _ => rfl, fun _ _ _ _ => rfl, fun _ _ _ _ _ => rfl, fun _ _ _ _ _ _ _ _ => rfl, fun _ _ _ _ _ => rfl, fun _ _ _ => rfl, fun _ _ => rfl, fun _ _ _ _ _ _ => rfl, fun _ _ => rfl, fun _ _ _ => rfl⟩
/-- operations without a bound -/
theorem evO :
    (∀ i j m, oAdd (.int i) (.int j) m = some (.int (i + j), m)) ∧
    (∀ i j m, oIAdd (.int i) (.int j) m = some (.int (i + j), m)) ∧
    (∀ i j m, oSub (.int i) (.int j) m = some (.int (i - j), m)) ∧
    (∀ i m, oNeg (.int i) m = some (.int (-i), m)) ∧
    (∀ fi fs i j m, oCmp fi fs (.int i) (.int j) m = some (.bl (fi i j), m)) ∧
    (∀ us m, oLen [.tup us] m = some (.int us.length, m)) ∧
    (∀ us m, oLen [.rol us] m = some (.int us.length, m)) ∧
    (∀ i m, oInt [.int i] m = some (.int i, m)) ∧
    (∀ b m, oInt [.bl b] m = some (.int (if b then 1 else 0), m)) ∧
    (∀ i m, oAbs [.int i] m = some (.int (if i < 0 then -i else i), m)) ∧
    (∀ i j m, oMax2 [.int i, .int j] m = some (.int (if j > i then j else i), m)) ∧
    (∀ i j m, oMin2 [.int i, .int j] m = some (.int (if j < i then j else i), m)) ∧
    (∀ us m, oToTup [.tup us] m = some (.tup us, m)) ∧
    (∀ us m, oToLst [.tup us] m = some (.ref m.length, m ++ [.lst us])) ∧
    (∀ m b, truU m (.bl b) = some b) ∧
    (∀ m i, truU m (.int i) = some (i != 0)) ∧
    (∀ m us, truU m (.tup us) = some (!us.isEmpty)) ∧
    (∀ m us, srcA m (.tup us) = some (.fix us)) ∧
    (∀ m us, srcE m (.tup us) = some (.fix (enumU 0 us))) ∧
    (∀ m us, srcR m (.tup us) = some (.fix us.reverse)) ∧
    (∀ m us T, isTy m T (.tup us) = some (match T with | .tuple => true | _ => false)) ∧
    (∀ m i T, isTy m T (.int i) = some (match T with | .int => true | _ => false)) :=
  ⟨fun _ _ _ => rfl, fun _ _ _ => rfl, fun _ _ _ => rfl, fun _ _ => rfl, fun _ _ _ _ _ => rfl, fun _ _ => rfl, fun _ _ => rfl, fun _ _ => rfl, fun _ _ => rfl, fun _ _ => rfl, fun _ _ _ => rfl, fun _ _ _ => rfl, fun _ _ => rfl, fun _ _ => rfl, fun _ _ => rfl, fun _ _ => rfl, fun _ _ => rfl, fun _ _ => rfl, fun _ _ => rfl, fun _ _ => rfl, fun _ _ T => by cases T <;> rfl, fun _ _ T => by cases T <;> rfl⟩
/-- operations with a bound -/
theorem oMulG_e {i j : Int} {m : Mem} (h : mulOk i j = true) : oMulG (.int i) (.int j) m = some (.int (i * j), m) := by
  show oMul (.int i) (.int j) m = _
  unfold oMul; exact if_pos h
theorem oMulG_a {i j : Int} {m : Mem} (h : -18446744073709551616 < i) (h2 : i < 18446744073709551616) : oMulG (.int i) (.int j) m = some (.int (i * j), m) := oMulG_e (mulOk_l h h2)
theorem oMulG_b {i j : Int} {m : Mem} (h : -18446744073709551616 < j) (h2 : j < 18446744073709551616) : oMulG (.int i) (.int j) m = some (.int (i * j), m) := oMulG_e (mulOk_r h h2)
theorem oMod_e {i j : Int} {m : Mem} (h : 0 < j) : oMod (.int i) (.int j) m = some (.int (i % j), m) := if_pos h
theorem oTup_e {us : List U} {m : Mem} (h : us.length ≤ 16777216) : oTup us m = some (.tup us, m) := if_pos h
theorem oLst_e {us : List U} {m : Mem} (h : us.length ≤ 16777216) : oLst us m = some (.ref m.length, m ++ [.lst us]) := if_pos h
theorem oList_e {us : List U} {m : Mem} (h : us.length ≤ 16777216) : oList (some (us, m)) = some (.ref m.length, m ++ [.lst us]) := if_pos h
theorem oLen_r {n : Nat} {us : List U} {m : Mem} (h : m[n]? = some (.lst us)) : oLen [.ref n] m = some (.int us.length, m) := by
  unfold oLen; simp only [h]
theorem oToTup_r {n : Nat} {us : List U} {m : Mem} (h : m[n]? = some (.lst us)) : oToTup [.ref n] m = some (.tup us, m) := by
  unfold oToTup itemsOf; simp only [h]; rfl
theorem oAll_r {n : Nat} {bs : List Bool} {m : Mem} (h : m[n]? = some (.lst (bs.map .bl))) : oAll [.ref n] m = some (.bl (bs.all id), m) := by
  unfold oAll; simp only [h]
  rw [show bools (bs.map U.bl) = some bs from by clear h; induction bs with | nil => rfl | cons b r ih => simp [bools, ih]]
  rfl
theorem truU_r {n : Nat} {us : List U} {m : Mem} (h : m[n]? = some (.lst us)) : truU m (.ref n) = some (!us.isEmpty) := by
  unfold truU; simp only [h]
theorem isMT_r {n : Nat} {us : List U} {m : Mem} (h : m[n]? = some (.lst us)) : isMT m .list (.ref n) = true := by
  unfold isMT; simp only [h]
theorem atI_at {α : Type} {us : List α} {i : Int} {x : α} (h0 : 0 ≤ i) (h : us[i.toNat]? = some x) : atI us i = some x := by
  have := atI_nat h
  rwa [Int.toNat_of_nonneg h0] at this
theorem oIx_t {us : List U} {i : Int} {x : U} {m : Mem} (h : atI us i = some x) : oIx (.tup us) (.int i) m = some (x, m) := by
  show (atI us i).map (fun x => (x, m)) = _
  rw [h]; rfl
theorem oIx_r {n : Nat} {us : List U} {i : Int} {x : U} {m : Mem} (hm : m[n]? = some (.lst us)) (h : atI us i = some x) : oIx (.ref n) (.int i) m = some (x, m) := by
  have : oIx (.ref n) (.int i) m = match itemsOf m (.ref n) with | some us => (atI us i).map fun x => (x, m) | none => none := rfl
  rw [this, itemsOf]; simp only [hm, h]; rfl
theorem oGetL_r {n : Nat} {us : List U} {i : Int} {x : U} {m : Mem} (hm : m[n]? = some (.lst us)) (h : atI us i = some x) : oGetL (.ref n) (.int i) m = some (x, m) := by
  show (match cellAt m n with | some us => (atI us i).map fun u => (u, m) | none => none) = _
  unfold cellAt; simp only [hm, h]; rfl
theorem ixN_at {n : Nat} {i : Int} (h0 : 0 ≤ i) (h : i < n) : ixN n i = some i.toNat := by unfold ixN; rw [if_pos h0, if_pos h]
theorem oSetL_r {n : Nat} {us : List U} {i : Int} {v : U} {m : Mem} (hm : m[n]? = some (.lst us)) (h0 : 0 ≤ i) (h : i < us.length) : oSetL (.ref n) (.int i) v m = some ((), m.set n (.lst (us.set i.toNat v))) := by
  show (match m[n]? with | some (.lst us) => (ixN us.length i).map fun j => ((), m.set n (.lst (us.set j v))) | _ => none) = _
  simp only [hm, ixN_at h0 h]; rfl
theorem oPop_r {n : Nat} {us : List U} {u : U} {m : Mem} (hm : m[n]? = some (.lst (us ++ [u]))) : oPop (.ref n) [] m = some (u, m.set n (.lst us)) := by
  show (match m[n]? with | some (.lst us) => (us[us.length - 1]?).map fun u => (u, m.set n (.lst us.dropLast)) | _ => none) = _
  simp only [hm]
  simp
theorem oAppend_r {n : Nat} {us : List U} {u : U} {m : Mem} (hm : m[n]? = some (.lst us)) (h : us.length < 16777216) : oAppend (.ref n) [u] m = some (U.non, m.set n (.lst (us ++ [u]))) := by
  show (match m[n]? with | some (.lst us) => if us.length < sizeLine then some (U.non, m.set n (.lst (us ++ [u]))) else none | _ => none) = _
  simp only [hm]
  exact if_pos h
theorem oAdd_t {xs ys : List U} {m : Mem} (h : xs.length + ys.length ≤ 16777216) : oAdd (.tup xs) (.tup ys) m = some (.tup (xs ++ ys), m) := if_pos h
theorem oAdd_r {l k : Nat} {xs ys : List U} {m : Mem} (hl : m[l]? = some (.lst xs)) (hk : m[k]? = some (.lst ys)) (h : xs.length + ys.length ≤ 16777216) : oAdd (.ref l) (.ref k) m = some (.ref m.length, m ++ [.lst (xs ++ ys)]) := by
  unfold oAdd; simp only [hl, hk]; exact if_pos h
theorem oMulG_t {xs : List U} {k : Int} {m : Mem} (h1 : -1000 ≤ k) (h2 : k ≤ 1000) (h3 : xs.length ≤ 1000) : oMulG (.tup xs) (.int k) m = some (.tup (List.replicate k.toNat xs).flatten, m) := if_pos ⟨h1, h2, h3⟩
theorem oMulG_r {l : Nat} {xs : List U} {k : Int} {m : Mem} (hl : m[l]? = some (.lst xs)) (h1 : -9223372036854775808 ≤ k) (h2 : k < 9223372036854775808) (h3 : xs.length * k.toNat ≤ 16777216) : oMulG (.ref l) (.int k) m = some (.ref m.length, m ++ [.lst (List.replicate k.toNat xs).flatten]) := by
  show oMul (.ref l) (.int k) m = _
  unfold oMul; simp only [hl]; exact if_pos ⟨h1, h2, h3⟩
theorem iRange1_e {f : XL} {ρ : Env} {m m1 : Mem} {j : Int} (h : f ρ m = .ok [.int j] m1) (h1 : -4611686018427387904 ≤ j) (h2 : j < 4611686018427387904) : iRange1 f ρ m = .ok (.fix (runI 0 j.toNat)) m1 := by
  unfold iRange1; rw [h]; exact if_pos ⟨h1, h2⟩
/-- what a cell's list gives -/
def nxL (n : Nat) : Nat → Mem → Option (Option U) := fun i m => match m[n]? with
  | some (.lst us) => some us[i]?
  | _ => none
theorem nxL_e {n : Nat} {us : List U} {m : Mem} (h : m[n]? = some (.lst us)) (i : Nat) : nxL n i m = some us[i]? := by unfold nxL; simp only [h]
/-- operations on cells, on places -/
theorem evR :
    (∀ n m, oLen [.ref n] m = match m[n]? with | some (.lst us) => some (.int us.length, m) | some (.dK kvs) => some (.int kvs.length, m) | _ => none) ∧
    (∀ n m, oToTup [.ref n] m = match m[n]? with | some (.lst us) => some (.tup us, m) | _ => none) ∧
    (∀ n m, oToLst [.ref n] m = match m[n]? with | some (.lst us) => some (.ref m.length, m ++ [.lst us]) | _ => none) ∧
    (∀ n m, truU m (.ref n) = match m[n]? with | some (.lst us) => some (!us.isEmpty) | some (.dK kvs) => some (!kvs.isEmpty) | _ => none) ∧
    (∀ n m, isMT m .list (.ref n) = match m[n]? with | some (.lst _) => true | _ => false) ∧
    (∀ us i m, oIx (.tup us) (.int i) m = match atI us i with | some x => some (x, m) | none => none) ∧
    (∀ us i m, oIx (.rol us) (.int i) m = match atI us i with | some x => some (x, m) | none => none) ∧
    (∀ n i m, oIx (.ref n) (.int i) m = match m[n]? with | some (.lst us) => (match atI us i with | some x => some (x, m) | none => none) | _ => none) ∧
    (∀ n i m, oGetL (.ref n) (.int i) m = match m[n]? with | some (.lst us) => (match atI us i with | some x => some (x, m) | none => none) | _ => none) ∧
    (∀ n i v m, oSetL (.ref n) (.int i) v m = match m[n]? with | some (.lst us) => (match ixN us.length i with | some j => some ((), m.set n (.lst (us.set j v))) | none => none) | _ => none) ∧
    (∀ n m, oPop (.ref n) [] m = match m[n]? with | some (.lst us) => (match us[us.length - 1]? with | some u => some (u, m.set n (.lst us.dropLast)) | none => none) | _ => none) ∧
    (∀ n u m, oAppend (.ref n) [u] m = match m[n]? with | some (.lst us) => if us.length < 16777216 then some (.non, m.set n (.lst (us ++ [u]))) else none | _ => none) ∧
    (∀ n m, srcA m (.ref n) = match m[n]? with | some (.lst us) => some (.dyn (us.length + 1) (nxL n)) | _ => none) ∧
    (∀ u v m, oEq u v m = match eqU m u v with | some b => some (.bl b, m) | none => none) ∧
    (∀ u v m, oNe u v m = match eqU m u v with | some b => some (.bl (!b), m) | none => none) := by
  have hc : ∀ (m : Mem) (n : Nat), itemsOf m (.ref n) = match m[n]? with | some (.lst us) => some us | _ => none := fun m n => rfl
  refine ⟨fun _ _ => rfl, fun n m => ?_, fun n m => ?_, fun _ _ => rfl, fun _ _ => rfl, fun us i m => ?_, fun us i m => ?_, fun n i m => ?_, fun n i m => ?_, fun n i v m => ?_, fun n m => ?_, fun _ _ _ => rfl, fun _ _ => rfl, fun u v m => ?_, fun u v m => ?_⟩
  · show (itemsOf m (.ref n)).map (fun us => (U.tup us, m)) = _
    rw [hc]
    cases m[n]? with
    | none => rfl
    | some c => cases c <;> rfl
  · show (itemsOf m (.ref n)).map (fun us => (U.ref m.length, m ++ [.lst us])) = _
    rw [hc]
    cases m[n]? with
    | none => rfl
    | some c => cases c <;> rfl
  · show (atI us i).map (fun x => (x, m)) = _
    cases atI us i <;> rfl
  · show (atI us i).map (fun x => (x, m)) = _
    cases atI us i <;> rfl
  · show (match itemsOf m (.ref n) with | some us => (atI us i).map fun x => (x, m) | none => none) = _
    rw [hc]
    cases m[n]? with
    | none => rfl
    | some c =>
      cases c with
      | lst us => show (atI us i).map (fun x => (x, m)) = (match atI us i with | some x => some (x, m) | none => none); cases atI us i <;> rfl
      | _ => rfl
  · show (match cellAt m n with | some us => (atI us i).map fun u => (u, m) | none => none) = _
    unfold cellAt
    cases m[n]? with
    | none => rfl
    | some c =>
      cases c with
      | lst us => show (atI us i).map (fun x => (x, m)) = (match atI us i with | some x => some (x, m) | none => none); cases atI us i <;> rfl
      | _ => rfl
  · show (match m[n]? with | some (.lst us) => (ixN us.length i).map fun j => ((), m.set n (.lst (us.set j v))) | _ => none) = _
    cases m[n]? with
    | none => rfl
    | some c =>
      cases c with
      | lst us => show (ixN us.length i).map (fun j => ((), m.set n (.lst (us.set j v)))) = (match ixN us.length i with | some j => some ((), m.set n (.lst (us.set j v))) | none => none); cases ixN us.length i <;> rfl
      | _ => rfl
  · show (match m[n]? with | some (.lst us) => (us[us.length - 1]?).map fun u => (u, m.set n (.lst us.dropLast)) | _ => none) = _
    cases m[n]? with
    | none => rfl
    | some c =>
      cases c with
      | lst us => show (us[us.length - 1]?).map (fun u => (u, m.set n (.lst us.dropLast))) = (match us[us.length - 1]? with | some u => some (u, m.set n (.lst us.dropLast)) | none => none); cases us[us.length - 1]? <;> rfl
      | _ => rfl
  · show (eqU m u v).map (fun b => (U.bl b, m)) = _
    cases eqU m u v <;> rfl
  · show (eqU m u v).map (fun b => (U.bl (!b), m)) = _
    cases eqU m u v <;> rfl
theorem evR2 :
    (∀ l k m, oAdd (.ref l) (.ref k) m = match m[l]?, m[k]? with | some (.lst xs), some (.lst ys) => if xs.length + ys.length ≤ 16777216 then some (.ref m.length, m ++ [.lst (xs ++ ys)]) else none | _, _ => none) ∧
    (∀ l k m, oMulG (.ref l) (.int k) m = match m[l]? with | some (.lst xs) => if -9223372036854775808 ≤ k ∧ k < 9223372036854775808 ∧ xs.length * k.toNat ≤ 16777216 then some (.ref m.length, m ++ [.lst (List.replicate k.toNat xs).flatten]) else none | _ => none) :=
  ⟨fun _ _ _ => rfl, fun _ _ _ => rfl⟩
theorem flat_rep {α : Type} (a : α) (n : Nat) : (List.replicate n [a]).flatten = List.replicate n a := by
  induction n with
  | zero => rfl
  | succ n ih => rw [List.replicate_succ, List.flatten_cons, ih, List.replicate_succ]; rfl
theorem zeros_int (n : Nat) (i : Int) : List.replicate n (U.int i) = (List.replicate n i).map U.int := by rw [List.map_replicate]
theorem app_int (a b : List Int) : a.map U.int ++ b.map U.int = (a ++ b).map U.int := by rw [List.map_append]
theorem one_int (i : Int) : [U.int i] = [i].map U.int := rfl
theorem dSlot_d (i : Nat) (ρ : Env) (m : Mem) : dSlot i ρ m = match ρ[i]? with | some (some u) => .ok u m | _ => .bad := rfl
/-! ### equality -/
theorem datRL_ints (res : Nat → Option PyData) : ∀ l : List Int, datRL res (l.map .int) = some (l.map .int)
  | [] => rfl
  | i :: r => by
    show (match datR res (.int i) with | none => none | some d => (datRL res (r.map .int)).map (d :: ·)) = _
    rw [datRL_ints res r]; rfl
theorem dat_tI (m : Mem) (l : List Int) : dat m (tI l) = some (.tuple (l.map .int)) := by
  show (datRL (resM m 6) (l.map .int)).map PyData.tuple = _
  rw [datRL_ints]; rfl
theorem canAll_ints : ∀ l : List Int, PyData.canLayAll0 (l.map .int) = true
  | [] => rfl
  | i :: r => by
    show (true && PyData.canLayAll0 (r.map .int)) = true
    rw [canAll_ints r]; rfl
theorem depth_ints : ∀ l : List Int, PyData.depthAll (l.map .int) = 0
  | [] => rfl
  | i :: r => by simp [PyData.depthAll, PyData.depth, depth_ints r]
theorem shaped_tI (l : List Int) : SeqAt.shaped (.tuple (l.map .int)) = true := by
  simp [SeqAt.shaped, PyData.canLay0, PyData.depth, canAll_ints, depth_ints]
theorem eqvAll_ints : ∀ a b : List Int, PyData.eqvAll (a.map .int) (b.map .int) = decide (a = b)
  | [], [] => rfl
  | [], _ :: _ => rfl
  | _ :: _, [] => rfl
  | x :: a, y :: b => by
    show (PyData.eqv (.int x) (.int y) && PyData.eqvAll (a.map .int) (b.map .int)) = _
    rw [eqvAll_ints a b]
    show ((x == y) && _) = _
    by_cases h : x = y
    · subst h; simp
    · simp [h]
theorem eqU_tI (m : Mem) (a b : List Int) : eqU m (tI a) (tI b) = some (decide (a = b)) := by
  unfold eqU
  simp only [dat_tI, shaped_tI, Bool.and_true, if_true]
  show some (PyData.eqvAll (a.map .int) (b.map .int)) = _
  rw [eqvAll_ints]
theorem eqU_nil (m : Mem) (l : List Int) : eqU m (tI l) (.tup []) = some (decide (l = [])) := eqU_tI m l []
theorem eqU_i (m : Mem) (a b : Int) : eqU m (.int a) (.int b) = some (decide (a = b)) := by
  show (if SeqAt.shaped (.int a) && SeqAt.shaped (.int b) then some (PyData.eqv (.int a) (.int b)) else none) = _
  rw [show SeqAt.shaped (.int a) = true from rfl, show SeqAt.shaped (.int b) = true from rfl]
  show some (a == b) = _
  by_cases h : a = b
  · subst h; simp
  · simp [h]
theorem oEq_e {u v : U} {b : Bool} {m : Mem} (h : eqU m u v = some b) : oEq u v m = some (.bl b, m) := by unfold oEq; rw [h]; rfl
theorem oNe_e {u v : U} {b : Bool} {m : Mem} (h : eqU m u v = some b) : oNe u v m = some (.bl (!b), m) := by unfold oNe; rw [h]; rfl
theorem dat_rI {m : Mem} {n : Nat} {l : List Int} (h : m[n]? = some (cI l)) : dat m (.ref n) = some (.list (l.map .int)) := by
  show resM m 6 n = _
  rw [resM]
  simp only [h]
  rw [datRL_ints]; rfl
theorem shaped_lI (l : List Int) : SeqAt.shaped (.list (l.map .int)) = true := by
  simp [SeqAt.shaped, PyData.canLay0, PyData.depth, canAll_ints, depth_ints]
theorem eqU_rr {m : Mem} {n k : Nat} {a b : List Int} (h : m[n]? = some (cI a)) (h2 : m[k]? = some (cI b)) : eqU m (.ref n) (.ref k) = some (decide (a = b)) := by
  unfold eqU
  simp only [dat_rI h, dat_rI h2, shaped_lI, Bool.and_true, if_true]
  show some (PyData.eqvAll (a.map .int) (b.map .int)) = _
  rw [eqvAll_ints]
theorem mem_mid (m g : Mem) (c : Cell) : (m ++ c :: g)[m.length]? = some c := by simp
theorem mem_setm (m g : Mem) (c d : Cell) : (m ++ c :: g).set m.length d = m ++ d :: g := by simp
/-! ### loops -/
/-- [e for x in us], the memory grows only -/
theorem compL_map {g : GD} {e : XD} {ρ : Env} {F : U → U} {P : Mem → Prop} (hP : ∀ m t, P m → P (m ++ t)) : ∀ (us : List U) (m : Mem), P m → (∀ u ∈ us, ∀ m, P m → ∃ ρ1 t, g u ρ m = some (ρ1, m) ∧ e ρ1 m = .ok (F u) (m ++ t)) → ∃ t, compL g tYesU e ρ us m = some (us.map F, m ++ t)
  | [], m, _, _ => ⟨[], by simp [compL]⟩
  | u :: us, m, hm, h => by
    obtain ⟨ρ1, t, e1, e2⟩ := h u (List.mem_cons_self ..) m hm
    obtain ⟨t2, e3⟩ := compL_map hP us (m ++ t) (hP _ _ hm) fun v hv => h v (List.mem_cons_of_mem _ hv)
    exact ⟨t ++ t2, by simp [compL, e1, tYesU, toO, e2, e3]⟩
/-- an invariant of a loop over written items, none of which leaves it -/
theorem forL_inv {g : GD} {b : SD} (I : List U → Env → Mem → Prop) (h : ∀ u us ρ m, I (u :: us) ρ m → ∃ ρ1 m1 ρ2 m2, g u ρ m = some (ρ1, m1) ∧ b ρ1 m1 = .ok .nx ρ2 m2 ∧ I us ρ2 m2) : ∀ us ρ m, I us ρ m → ∃ ρ' m', forL g b us ρ m = .ok .nx ρ' m' ∧ I [] ρ' m'
  | [], ρ, m, hi => ⟨ρ, m, rfl, hi⟩
  | u :: us, ρ, m, hi => by
    obtain ⟨ρ1, m1, ρ2, m2, e1, e2, h2⟩ := h u us ρ m hi
    obtain ⟨ρ', m', e3, h3⟩ := forL_inv I h us ρ2 m2 h2
    exact ⟨ρ', m', by simp only [forL, e1, thenO, e2, loopS, e3], h3⟩
theorem whileN_step {t : XT} {b : SD} {k : Nat} {ρ : Env} {m m1 : Mem} {c : Bool} (h : t ρ m = .ok c m1) : whileN t b (k + 1) ρ m = if c then loopS (b ρ m1) (whileN t b k) else .ok .nx ρ m1 := by
  show thenE (t ρ m) ρ _ = _
  rw [h]; rfl
/-- the same over ints, over a cell's list -/
theorem compL_ints {k : Nat} {e : XD} {ρ : Env} {f : Int → U} {P : Mem → Prop} (hP : ∀ m t, P m → P (m ++ t)) : ∀ (l : List Int) (m : Mem), P m → (∀ i ∈ l, ∀ m, P m → ∃ t, e (ρ.set k (some (.int i))) m = .ok (f i) (m ++ t)) → ∃ t, compL (gName k) tYesU e ρ (l.map .int) m = some (l.map f, m ++ t)
  | [], m, _, _ => ⟨[], by simp [compL]⟩
  | i :: us, m, hm, h => by
    obtain ⟨t, e2⟩ := h i (List.mem_cons_self ..) m hm
    obtain ⟨t2, e3⟩ := compL_ints hP us (m ++ t) (hP _ _ hm) fun v hv => h v (List.mem_cons_of_mem _ hv)
    exact ⟨t ++ t2, by simp [compL, gName, tYesU, toO, e2, e3]⟩
theorem compN_map {nx : Nat → Mem → Option (Option U)} {g : GD} {e : XD} {ρ : Env} {F : U → U} {P : Mem → Prop} {us : List U} (hP : ∀ m t, P m → P (m ++ t)) (hn : ∀ i m, P m → nx i m = some us[i]?) : ∀ (k i : Nat) (m : Mem), P m → us.length < i + (k + 1) → (∀ u ∈ us, ∀ m, P m → ∃ ρ1 t, g u ρ m = some (ρ1, m) ∧ e ρ1 m = .ok (F u) (m ++ t)) → ∃ t, compN nx g tYesU e ρ (k + 1) i m = some ((us.drop i).map F, m ++ t)
  | k, i, m, hm, hk, h => by
    by_cases hi : i < us.length
    · cases k with
      | zero => omega
      | succ k =>
      have hu : us[i]? = some us[i] := List.getElem?_eq_getElem hi
      obtain ⟨ρ1, t, e1, e2⟩ := h us[i] (List.getElem_mem hi) m hm
      obtain ⟨t2, e3⟩ := compN_map hP hn k (i + 1) (m ++ t) (hP _ _ hm) (by omega) h
      refine ⟨t ++ t2, ?_⟩
      rw [List.drop_eq_getElem_cons hi, List.map_cons]
      rw [compN]; simp [hn i m hm, hu, e1, tYesU, toO, e2, e3]
    · refine ⟨[], ?_⟩
      rw [List.drop_eq_nil_of_le (by omega)]
      simp [compN, hn i m hm, List.getElem?_eq_none (by omega : us.length ≤ i)]
/-- an invariant by the number of turns -/
theorem forIx {g : GD} {b : SD} {us : List U} (I : Nat → Env → Mem → Prop) (h : ∀ i u ρ m, us[i]? = some u → I i ρ m → ∃ ρ1 m1 ρ2 m2, g u ρ m = some (ρ1, m1) ∧ b ρ1 m1 = .ok .nx ρ2 m2 ∧ I (i + 1) ρ2 m2) (ρ : Env) (m : Mem) (h0 : I 0 ρ m) : ∃ ρ' m', forL g b us ρ m = .ok .nx ρ' m' ∧ I us.length ρ' m' := by
  obtain ⟨ρ', m', e, i, hi, hl, hI⟩ := forL_inv (g := g) (b := b) (fun rem ρ m => ∃ i, rem = us.drop i ∧ i ≤ us.length ∧ I i ρ m) (fun u rem ρ m ⟨i, hd, hl, hI⟩ => by
    have hlt : i < us.length := by
      refine Nat.lt_of_not_le fun z => ?_
      rw [List.drop_eq_nil_of_le z] at hd; cases hd
    have hu : us[i]? = some u := by
      rw [List.drop_eq_getElem_cons hlt] at hd
      injection hd with hd _
      rw [List.getElem?_eq_getElem hlt, hd]
    obtain ⟨ρ1, m1, ρ2, m2, e1, e2, h2⟩ := h i u ρ m hu hI
    refine ⟨ρ1, m1, ρ2, m2, e1, e2, i + 1, ?_, by omega, h2⟩
    rw [List.drop_eq_getElem_cons hlt] at hd
    injection hd with _ hd) us ρ m ⟨0, rfl, Nat.zero_le _, h0⟩
  have : i = us.length := by
    refine Nat.le_antisymm hl (Nat.le_of_not_lt fun z => ?_)
    rw [List.drop_eq_getElem_cons z] at hi; cases hi
  exact ⟨ρ', m', e, this ▸ hI⟩
theorem enum_at {l : List Int} {i : Nat} {u : U} (h : (enumU 0 (l.map .int))[i]? = some u) : ∃ hi : i < l.length, u = .tup [.int i, .int l[i]] := by
  rw [enumU_get, Nat.zero_add, List.getElem?_map] at h
  by_cases hi : i < l.length
  · rw [List.getElem?_eq_getElem hi] at h
    exact ⟨hi, (Option.some.inj h).symm⟩
  · rw [List.getElem?_eq_none (by omega)] at h; cases h
theorem enum_len : ∀ (us : List U) (k : Nat), (enumU k us).length = us.length
  | [], _ => rfl
  | u :: us, k => by simp [enumU, enum_len us (k + 1)]
theorem run_at {n i : Nat} {u : U} (h : (runI 0 n)[i]? = some u) : i < n ∧ u = .int i := by
  rw [runI_get] at h
  split at h
  · rename_i hi
    exact ⟨hi, by rw [← Option.some.inj h]; simp⟩
  · cases h
theorem ints_at {l : List Int} {i : Nat} {u : U} (h : (l.map U.int)[i]? = some u) : ∃ hi : i < l.length, u = .int l[i] := by
  rw [List.getElem?_map] at h
  by_cases hi : i < l.length
  · rw [List.getElem?_eq_getElem hi] at h
    exact ⟨hi, (Option.some.inj h).symm⟩
  · rw [List.getElem?_eq_none (by omega)] at h; cases h
theorem atI_ints {l : List Int} {i : Nat} (hi : i < l.length) : atI (l.map U.int) (i : Int) = some (.int l[i]) := atI_nat (by rw [List.getElem?_map, List.getElem?_eq_getElem hi]; rfl)
theorem ixN_ints {l : List Int} {i : Nat} (hi : i < l.length) : ixN l.length (i : Int) = some i := by
  rw [ixN_at (by omega) (by omega)]; simp
theorem set_ints (l : List Int) (i : Nat) (v : Int) : (l.map U.int).set i (.int v) = (l.set i v).map U.int := by rw [List.map_set]
/-- 0 to n - 1 -/
def upto (n : Nat) : List Int := (List.range n).map fun k : Nat => (k : Int)
theorem upto_len (n : Nat) : (upto n).length = n := by simp [upto]
theorem upto_at {n i : Nat} (h : i < (upto n).length) : (upto n)[i] = (i : Int) := by simp [upto]
theorem upto_mem {n : Nat} {i : Int} (h : i ∈ upto n) : ∃ k : Nat, k < n ∧ i = k := by
  obtain ⟨k, hk, rfl⟩ := List.mem_map.mp h
  exact ⟨k, List.mem_range.mp hk, rfl⟩
theorem runI_ints (n : Nat) : runI 0 n = (upto n).map U.int := by
  refine List.ext_getElem? fun i => ?_
  rw [runI_get, List.getElem?_map, upto, List.getElem?_map]
  by_cases h : i < n
  · rw [if_pos h, List.getElem?_range h]; simp
  · rw [if_neg h, List.getElem?_eq_none (by simp; omega)]; rfl
theorem atI_sum {l : List Int} {i j : Nat} (hi : i + j < l.length) : atI (l.map U.int) ((i : Int) + (j : Int)) = some (.int l[i + j]) := by
  have := atI_ints hi
  rwa [Int.natCast_add] at this
theorem ixN_sum {l : List Int} {i j : Nat} (hi : i + j < l.length) : ixN l.length ((i : Int) + (j : Int)) = some (i + j) := by
  have := ixN_ints hi
  rwa [Int.natCast_add] at this
/-- [e for x in us] with a state that goes on -/
theorem compL_gen {k : Nat} {e : XD} {ρ : Env} {I : Mem → Prop} {Q : U → Prop} : ∀ (us : List U) (m : Mem), I m → (∀ u ∈ us, ∀ m, I m → ∃ y m', e (ρ.set k (some u)) m = .ok y m' ∧ Q y ∧ I m') → ∃ ys m', compL (gName k) tYesU e ρ us m = some (ys, m') ∧ ys.length = us.length ∧ (∀ y ∈ ys, Q y) ∧ I m'
  | [], m, hm, _ => ⟨[], m, rfl, rfl, (fun _ h => by cases h), hm⟩
  | u :: us, m, hm, h => by
    obtain ⟨y, m1, e1, q, h1⟩ := h u (List.mem_cons_self ..) m hm
    obtain ⟨ys, m2, e2, hl, hq, h2⟩ := compL_gen us m1 h1 fun v hv => h v (List.mem_cons_of_mem _ hv)
    refine ⟨y :: ys, m2, by simp [compL, gName, tYesU, toO, e1, e2], by simp [hl], fun z hz => ?_, h2⟩
    rcases List.mem_cons.mp hz with e | hz
    · exact e ▸ q
    · exact hq z hz
/-- with a test -/
theorem compL_if {k : Nat} {t : XT} {e : XD} {ρ : Env} {T : Int → Bool} {f : Int → U} {P : Mem → Prop} (hP : ∀ m t, P m → P (m ++ t)) : ∀ (l : List Int) (m : Mem), P m → (∀ i ∈ l, ∀ m, P m → ∃ g, t (ρ.set k (some (.int i))) m = .ok (T i) (m ++ g)) → (∀ i ∈ l, ∀ m, P m → ∃ g, e (ρ.set k (some (.int i))) m = .ok (f i) (m ++ g)) → ∃ g, compL (gName k) t e ρ (l.map .int) m = some ((l.filter T).map f, m ++ g)
  | [], m, _, _, _ => ⟨[], by simp [compL]⟩
  | i :: us, m, hm, h, h' => by
    obtain ⟨g1, e1⟩ := h i (List.mem_cons_self ..) m hm
    cases hT : T i with
    | false =>
      obtain ⟨g2, e2⟩ := compL_if hP us (m ++ g1) (hP _ _ hm) (fun v hv => h v (List.mem_cons_of_mem _ hv)) fun v hv => h' v (List.mem_cons_of_mem _ hv)
      exact ⟨g1 ++ g2, by simp [compL, gName, toO, e1, e2, hT]⟩
    | true =>
      obtain ⟨g2, e2⟩ := h' i (List.mem_cons_self ..) (m ++ g1) (hP _ _ hm)
      obtain ⟨g3, e3⟩ := compL_if hP us (m ++ g1 ++ g2) (hP _ _ (hP _ _ hm)) (fun v hv => h v (List.mem_cons_of_mem _ hv)) fun v hv => h' v (List.mem_cons_of_mem _ hv)
      have e2' : e (ρ.set k (some (.int i))) (m ++ g1) = .ok (f i) (m ++ (g1 ++ g2)) := by rw [e2, List.append_assoc]
      have e3' : compL (gName k) t e ρ (us.map .int) (m ++ (g1 ++ g2)) = some ((us.filter T).map f, m ++ (g1 ++ (g2 ++ g3))) := by
        rw [← List.append_assoc, e3]; simp
      exact ⟨g1 ++ (g2 ++ g3), by simp [compL, gName, toO, e1, e2', e3', hT]⟩
/-- over a cell's list, by the number of the turn -/
theorem compN_ix {nx : Nat → Mem → Option (Option U)} {k0 : Nat} {e : XD} {ρ : Env} {F : Nat → U} {P : Mem → Prop} {us : List U} (hP : ∀ m t, P m → P (m ++ t)) (hn : ∀ i m, P m → nx i m = some us[i]?) (h : ∀ i u, us[i]? = some u → ∀ m, P m → ∃ t, e (ρ.set k0 (some u)) m = .ok (F i) (m ++ t)) : ∀ (k i : Nat) (m : Mem), P m → us.length < i + (k + 1) → i ≤ us.length → ∃ t, compN nx (gName k0) tYesU e ρ (k + 1) i m = some ((List.range' i (us.length - i)).map F, m ++ t)
  | k, i, m, hm, hk, hle => by
    by_cases hi : i < us.length
    · cases k with
      | zero => omega
      | succ k =>
      have hu : us[i]? = some us[i] := List.getElem?_eq_getElem hi
      obtain ⟨t, e2⟩ := h i us[i] hu m hm
      obtain ⟨t2, e3⟩ := compN_ix hP hn h k (i + 1) (m ++ t) (hP _ _ hm) (by omega) (by omega)
      refine ⟨t ++ t2, ?_⟩
      rw [show us.length - i = (us.length - (i + 1)) + 1 by omega, List.range'_succ, List.map_cons]
      rw [compN]; simp [gName, hn i m hm, hu, tYesU, toO, e2, e3]
    · refine ⟨[], ?_⟩
      rw [show us.length - i = 0 by omega]
      simp [compN, hn i m hm, List.getElem?_eq_none (by omega : us.length ≤ i)]
/-- nothing passes the test -/
theorem compN_none {nx : Nat → Mem → Option (Option U)} {k0 : Nat} {t : XT} {e : XD} {ρ : Env} {P : Mem → Prop} {us : List U} (hP : ∀ m t, P m → P (m ++ t)) (hn : ∀ i m, P m → nx i m = some us[i]?) (h : ∀ u ∈ us, ∀ m, P m → ∃ g, t (ρ.set k0 (some u)) m = .ok false (m ++ g)) : ∀ (k i : Nat) (m : Mem), P m → us.length < i + (k + 1) → ∃ g, compN nx (gName k0) t e ρ (k + 1) i m = some ([], m ++ g)
  | k, i, m, hm, hk => by
    by_cases hi : i < us.length
    · cases k with
      | zero => omega
      | succ k =>
      have hu : us[i]? = some us[i] := List.getElem?_eq_getElem hi
      obtain ⟨t, e2⟩ := h us[i] (List.getElem_mem hi) m hm
      obtain ⟨t2, e3⟩ := compN_none (e := e) hP hn h k (i + 1) (m ++ t) (hP _ _ hm) (by omega)
      refine ⟨t ++ t2, ?_⟩
      rw [compN]; simp [gName, hn i m hm, hu, toO, e2, e3]
    · refine ⟨[], ?_⟩
      simp [compN, hn i m hm, List.getElem?_eq_none (by omega : us.length ≤ i)]
/-- lists of tuples of ints -/
theorem datRL_tI (res : Nat → Option PyData) : ∀ A : List (List Int), datRL res (A.map tI) = some (A.map fun l => .tuple (l.map .int))
  | [] => rfl
  | l :: r => by
    show (match datR res (tI l) with | none => none | some d => (datRL res (r.map tI)).map (d :: ·)) = _
    rw [datRL_tI res r, show datR res (tI l) = some (.tuple (l.map .int)) from by show (datRL res (l.map .int)).map PyData.tuple = _; rw [datRL_ints]; rfl]
    rfl
theorem canAll_tI : ∀ A : List (List Int), PyData.canLayAll0 (A.map fun l => .tuple (l.map .int)) = true
  | [] => rfl
  | l :: r => by
    show (PyData.canLayAll0 (l.map .int) && PyData.canLayAll0 (r.map _)) = true
    rw [canAll_ints, canAll_tI r]; rfl
theorem depth_tI : ∀ A : List (List Int), PyData.depthAll (A.map fun l => .tuple (l.map .int)) ≤ 1
  | [] => by simp [PyData.depthAll]
  | l :: r => by
    have := depth_tI r
    simp only [List.map_cons, PyData.depthAll, PyData.depth, depth_ints]
    omega
theorem eqvAll_tI : ∀ a b : List (List Int), PyData.eqvAll (a.map fun l => .tuple (l.map .int)) (b.map fun l => .tuple (l.map .int)) = decide (a = b)
  | [], [] => rfl
  | [], _ :: _ => rfl
  | _ :: _, [] => rfl
  | x :: a, y :: b => by
    show (PyData.eqvAll (x.map .int) (y.map .int) && PyData.eqvAll (a.map _) (b.map _)) = _
    rw [eqvAll_tI a b, eqvAll_ints]
    by_cases h : x = y
    · subst h; simp
    · simp [h]
theorem eqU_rrT {m : Mem} {n k : Nat} {A B : List (List Int)} (h : m[n]? = some (.lst (A.map tI))) (h2 : m[k]? = some (.lst (B.map tI))) : eqU m (.ref n) (.ref k) = some (decide (A = B)) := by
  have hd : ∀ (n : Nat) (A : List (List Int)), m[n]? = some (.lst (A.map tI)) → dat m (.ref n) = some (.list (A.map fun l => .tuple (l.map .int))) := fun n A h => by
    show resM m 6 n = _
    rw [resM]
    simp only [h]
    rw [datRL_tI]; rfl
  have hs : ∀ A : List (List Int), SeqAt.shaped (.list (A.map fun l => .tuple (l.map .int))) = true := fun A => by
    have := depth_tI A
    simp [SeqAt.shaped, PyData.canLay0, PyData.depth, canAll_tI]
    omega
  unfold eqU
  simp only [hd n A h, hd k B h2, hs, Bool.and_true, if_true]
  show some (PyData.eqvAll _ _) = _
  rw [eqvAll_tI]
/-- a list of the same data on both sides -/
theorem eqU_same {m : Mem} {u v : U} {d : PyData} (h : dat m u = some d) (h2 : dat m v = some d) (hs : SeqAt.shaped d = true) (he : PyData.eqv d d = true) : eqU m u v = some true := by
  unfold eqU
  simp only [h, h2, hs, Bool.and_true, if_true, he]
theorem dat_rL {m : Mem} {n : Nat} {us : List U} {ds : List PyData} (h : m[n]? = some (.lst us)) (h2 : datRL (resM m 5) us = some ds) : dat m (.ref n) = some (.list ds) := by
  show resM m 6 n = _
  rw [resM]
  simp only [h, h2]; rfl
/-! ### draws -/
/-- the cell of the draws -/
def Well (c : Nat) (m : Mem) : Prop := ∃ a b d : Int, m[c]? = some (.lst [.int a, .int b, .int d])
structure Gr (c : Nat) (m m' : Mem) : Prop where
  len : m.length ≤ m'.length
  well : Well c m'
  old : ∀ n, n ≠ c → n < m.length → m'[n]? = m[n]?
theorem Gr.refl {c : Nat} {m : Mem} (h : Well c m) : Gr c m m := ⟨Nat.le_refl _, h, fun _ _ _ => rfl⟩
theorem Gr.trans {c : Nat} {m m' m'' : Mem} (h : Gr c m m') (h2 : Gr c m' m'') : Gr c m m'' := ⟨Nat.le_trans h.len h2.len, h2.well, fun n hn hl => (h2.old n hn (Nat.lt_of_lt_of_le hl h.len)).trans (h.old n hn hl)⟩
theorem Well.app {c : Nat} {m : Mem} (h : Well c m) (t : Mem) : Well c (m ++ t) := by
  obtain ⟨a, b, d, e⟩ := h
  exact ⟨a, b, d, mem_old e⟩
theorem Gr.app {c : Nat} {m m' : Mem} (h : Gr c m m') (t : Mem) : Gr c m (m' ++ t) := ⟨by have := h.len; simp; omega, h.well.app t, fun n hn hl => by
  rw [List.getElem?_append_left (Nat.lt_of_lt_of_le hl h.len)]; exact h.old n hn hl⟩
theorem Gr.get {c n : Nat} {m m' : Mem} {x : Cell} (h : Gr c m m') (hn : n ≠ c) (e : m[n]? = some x) : m'[n]? = some x := by
  rw [h.old n hn (List.getElem?_eq_some_iff.mp e).1, e]
theorem Gr.from {c : Nat} {m m' : Mem} (t : Mem) (h : Gr c (m ++ t) m') : Gr c m m' := ⟨by have := h.len; simp at this; omega, h.well, fun n hn hl => by
  rw [h.old n hn (by simp; omega), List.getElem?_append_left hl]⟩
theorem Gr.set {c : Nat} {m : Mem} (a b d : Int) (h : Well c m) : Gr c m (m.set c (.lst [.int a, .int b, .int d])) := by
  obtain ⟨_, _, _, e⟩ := h
  have hl := (List.getElem?_eq_some_iff.mp e).1
  refine ⟨by simp, ⟨a, b, d, by rw [List.getElem?_set_self hl]⟩, fun n hn _ => by rw [List.getElem?_set_ne (fun z => hn z.symm)]⟩
theorem at3_0 (x y z : U) : atI [x, y, z] 0 = some x := rfl
theorem at3_1 (x y z : U) : atI [x, y, z] 1 = some y := rfl
theorem at3_2 (x y z : U) : atI [x, y, z] 2 = some z := rfl
theorem ix3_0 : ixN 3 0 = some 0 := rfl
theorem ix3_2 : ixN 3 2 = some 2 := rfl
theorem evJ :
    (∀ f ρ m, dLenSet f ρ m = (f ρ m).bind fun u m1 => match u with | .tup us => (match nums us with | some ns => if ns.length ≤ 1000 then .ok (.int (dcount ns : Nat)) m1 else .bad | none => .bad) | _ => .bad) ∧
    (∀ f ρ m, dLstRg f ρ m = (f ρ m).bind fun u m1 => match u with | .int n => if -4611686018427387904 ≤ (0 : Int) ∧ (0 : Int) < 4611686018427387904 ∧ -4611686018427387904 ≤ n ∧ n < 4611686018427387904 ∧ (n - 0).toNat ≤ 16777216 then .ok (.ref m1.length) (m1 ++ [.lst (runI 0 (n - 0).toNat)]) else .bad | _ => .bad) := by
  refine ⟨fun f ρ m => ?_, fun f ρ m => ?_⟩
  · unfold dLenSet
    congr 1
  · unfold dLstRg
    congr 1; funext u m1
    cases u with
    | int n =>
      show ofO (if -4611686018427387904 ≤ (0 : Int) ∧ (0 : Int) < 4611686018427387904 ∧ -4611686018427387904 ≤ n ∧ n < 4611686018427387904 ∧ (n - 0).toNat ≤ 16777216 then some (U.ref m1.length, m1 ++ [.lst (runI 0 (n - 0).toNat)]) else none) = _
      split <;> rename_i h <;> simp only [h, if_true, if_false, ofO]
      · simp
    | _ => rfl
theorem nums_ints (l : List Int) : nums (l.map U.int) = some l := by
  induction l with
  | nil => rfl
  | cons a r ih => show (nums (r.map U.int)).map _ = _; rw [ih]; rfl
theorem bools_map {α : Type} (p : α → Bool) : ∀ l : List α, bools (l.map fun x => .bl (p x)) = some (l.map p)
  | [] => rfl
  | x :: l => by
    show (bools (l.map fun x => U.bl (p x))).map _ = _
    rw [bools_map p l]; rfl
/-- what is walked -/
theorem evI :
    (∀ f ρ m, iAny f ρ m = (f ρ m).bind fun u m1 => ofB (srcA m1 u) m1) ∧
    (∀ f ρ m, iRev f ρ m = (f ρ m).bind fun u m1 => ofB (srcR m1 u) m1) ∧
    (∀ f ρ m, iEnum f ρ m = (f ρ m).bind fun us m1 => match us with | [u] => ofB (srcE m1 u) m1 | _ => .bad) ∧
    (∀ f ρ m, iRange1 f ρ m = (f ρ m).bind fun us m1 => match us with | [.int j] => if -4611686018427387904 ≤ j ∧ j < 4611686018427387904 then .ok (.fix (runI 0 j.toNat)) m1 else .bad | _ => .bad) ∧
    (∀ f ρ m, iRevR1 f ρ m = (f ρ m).bind fun u m1 => match u with | .int j => if -4611686018427387904 ≤ j ∧ j < 4611686018427387904 then .ok (.fix (runI 0 (j - 0).toNat).reverse) m1 else .bad | _ => .bad) ∧
    (∀ n m, oAll [.ref n] m = match m[n]? with | some (.lst us) => (match bools us with | some bs => some (.bl (bs.all id), m) | none => none) | _ => none) ∧
    (∀ k nx g t e ρ m, compR g t e ρ (.dyn k nx) m = compN nx g t e ρ k 0 m) ∧
    (∀ k nx g b, forR g b (.dyn k nx) = forN nx g b k 0) := by
  refine ⟨fun _ _ _ => rfl, fun _ _ _ => rfl, fun _ _ _ => rfl, fun _ _ _ => rfl, fun _ _ _ => rfl, fun n m => ?_, fun _ _ _ _ _ _ _ => rfl, fun _ _ _ _ => rfl⟩
  show (match m[n]? with | some (.lst us) => (bools us).map fun bs : List Bool => (U.bl (bs.all id), m) | _ => none) = _
  cases m[n]? with
  | none => rfl
  | some c =>
    cases c with
    | lst us => show (bools us).map (fun bs : List Bool => (U.bl (bs.all id), m)) = (match bools us with | some bs => some (.bl (bs.all id), m) | none => none); cases bools us <;> rfl
    | _ => rfl
end Ev

set_option Elab.async false
set_option linter.all false
set_option maxRecDepth 100000
set_option maxHeartbeats 2000000
/-! Ev: dicts whose keys are ints and texts. -/
namespace Ev
open PySem PySem.Spec PyProof.Rows L2 RZ

/-! ### keys -/
def keyOf : U → Option Key
  | .int i => some (.inl i)
  | .str x => some (.inr x)
  | _ => none
def keyU : Key → U
  | .inl i => .int i
  | .inr x => .str x
abbrev KU := List (Key × U)
def valK (kvs : KU) (k : Key) : Option U := (kvs.find? fun kv => decide (kv.1 = k)).map (·.2)
def putU (kvs : KU) (k : Key) (v : U) : KU :=
  if (kvs.any fun kv => decide (kv.1 = k)) = true then kvs.map (fun kv => if kv.1 = k then (kv.1, v) else kv) else kvs ++ [(k, v)]
def dropU (kvs : KU) (k : Key) : KU := kvs.filter fun kv => decide (kv.1 ≠ k)
abbrev PU (K : PySem.W.Frag) (H : Hp) (μ : List Addr) : KU → List (Key × V) → Prop := Paired fun (p : Key × U) (q : Key × V) => p.1 = q.1 ∧ RU K H μ p.2 q.2
section
variable {K : PySem.W.Frag} {H H' : Hp} {μ μ' : List Addr} {m : Mem}
theorem keyOf_ok {u : U} {v : V} {k : Key} (r : RU K H μ u v) (h : keyOf u = some k) : v = kV k := by
  cases u with
  | int i => cases h; cases r; rfl
  | str x => cases h; cases r; rfl
  | _ => cases h
theorem keyU_ok (k : Key) : RU K H μ (keyU k) (kV k) := by
  cases k with
  | inl i => exact .int i
  | inr x => exact .str x
theorem keyOf_keyU (k : Key) : keyOf (keyU k) = some k := by cases k <;> rfl
theorem PU.length {kvs : KU} {vs : List (Key × V)} (p : PU K H μ kvs vs) : kvs.length = vs.length := Paired.length p
theorem PU.val {kvs : KU} {vs : List (Key × V)} (p : PU K H μ kvs vs) (k : Key) : (∀ u, valK kvs k = some u → ∃ v, valV vs k = some v ∧ RU K H μ u v) ∧ (valK kvs k = none → valV vs k = none) := by
  induction p with
  | nil => exact ⟨fun u h => (by cases h), fun _ => rfl⟩
  | @cons a b as bs h t ih =>
    by_cases e : a.1 = k
    · have e' : b.1 = k := h.1.symm.trans e
      refine ⟨fun u hu => ⟨b.2, valV_pos e', ?_⟩, fun hn => ?_⟩
      · have : a.2 = u := by simpa [valK, e] using hu
        rw [← this]; exact h.2
      · simp [valK, e] at hn
    · have e' : ¬ b.1 = k := fun z => e (h.1.trans z)
      have e2 : valK (a :: as) k = valK as k := by simp [valK, e]
      rw [e2, valV_neg e']; exact ih
theorem PU.any {kvs : KU} {vs : List (Key × V)} (p : PU K H μ kvs vs) (k : Key) : (kvs.any fun kv => decide (kv.1 = k)) = vs.any fun kv => decide (kv.1 = k) := by
  induction p with
  | nil => rfl
  | @cons a b as bs h t ih => rw [List.any_cons, List.any_cons, ih, h.1]
theorem paired_append {α β : Type} {F : α → β → Prop} : ∀ {l1 : List α} {l2 : List β} {m1 : List α} {m2 : List β}, Paired F l1 l2 → Paired F m1 m2 → Paired F (l1 ++ m1) (l2 ++ m2)
  | _, _, _, _, .nil, h => h
  | _, _, _, _, .cons r t, h => .cons r (paired_append t h)
theorem PU.map_if {kvs : KU} {vs : List (Key × V)} (p : PU K H μ kvs vs) (k : Key) {u : U} {v : V} (r : RU K H μ u v) : PU K H μ (kvs.map fun kv => if kv.1 = k then (kv.1, u) else kv) (vs.map fun kv => if kv.1 = k then (kv.1, v) else kv) := by
  induction p with
  | nil => exact .nil
  | @cons a b as bs h t ih =>
    refine .cons ?_ ih
    show (if a.1 = k then (a.1, u) else a).1 = (if b.1 = k then (b.1, v) else b).1 ∧ RU K H μ (if a.1 = k then (a.1, u) else a).2 (if b.1 = k then (b.1, v) else b).2
    by_cases e : a.1 = k
    · have e' : b.1 = k := h.1.symm.trans e
      rw [if_pos e, if_pos e']; exact ⟨h.1, r⟩
    · have e' : ¬ b.1 = k := fun z => e (h.1.trans z)
      rw [if_neg e, if_neg e']; exact h
theorem PU.put {kvs : KU} {vs : List (Key × V)} (p : PU K H μ kvs vs) (k : Key) {u : U} {v : V} (r : RU K H μ u v) : PU K H μ (putU kvs k u) (putK vs k v) := by
  unfold putU putK
  rw [p.any k]
  split
  · exact p.map_if k r
  · exact paired_append p (.cons ⟨rfl, r⟩ .nil)
theorem PU.drop {kvs : KU} {vs : List (Key × V)} (p : PU K H μ kvs vs) (k : Key) : PU K H μ (dropU kvs k) (dropK vs k) := by
  unfold dropU dropK
  induction p with
  | nil => exact .nil
  | @cons a b as bs h t ih =>
    by_cases e : a.1 = k
    · have e' : b.1 = k := h.1.symm.trans e
      simpa [e, e'] using ih
    · have e' : ¬ b.1 = k := fun z => e (h.1.trans z)
      rw [List.filter_cons_of_pos (by simpa using e), List.filter_cons_of_pos (by simpa using e')]
      exact .cons h ih
theorem PU.mo {kvs : KU} {vs : List (Key × V)} (p : PU K H μ kvs vs) (s : Mono K μ H μ' H') : PU K H' μ' kvs vs := Paired.mapP p fun _ _ z => ⟨z.1, z.2.mo s⟩
theorem PU.step {kvs : KU} {vs : List (Key × V)} (p : PU K H μ kvs vs) (s : Step K μ H μ' H') : PU K H' μ' kvs vs := p.mo s.mono
theorem PU.keys {kvs : KU} {vs : List (Key × V)} (p : PU K H μ kvs vs) : vs.map (·.1) = kvs.map (·.1) := by
  induction p with
  | nil => rfl
  | @cons a b as bs h t ih => rw [List.map_cons, List.map_cons, ih, h.1]
/-- a dict's pairs -/
def dcells (m : Mem) : U → Option KU
  | .ref n => match m[n]? with
    | some (.dK kvs) => some kvs
    | some (.dF kvs) => some kvs
    | _ => none
  | _ => none
theorem dc_ok (M : MOk K H μ m) {u : U} {v : V} {kvs : KU} (r : RU K H μ u v) (h : dcells m u = some kvs) : ∃ a vs, v = .ref a ∧ Rd H a (.dK vs) ∧ PU K H μ kvs vs := by
  cases u with
  | ref n =>
    cases r with
    | @ref _ a hn =>
      unfold dcells at h
      simp only at h
      split at h
      · rename_i e; cases h
        obtain ⟨vs, hq, t⟩ := M.cell _ _ _ hn e
        exact ⟨a, vs, rfl, .inl hq, t⟩
      · rename_i e; cases h
        obtain ⟨o, vs, hq, t⟩ := M.cell _ _ _ hn e
        exact ⟨a, vs, rfl, .inr ⟨o, hq⟩, t⟩
      · cases h
  | _ => cases h
/-- a dict that may be written -/
def dcell (m : Mem) : U → Option (Nat × KU)
  | .ref n => match m[n]? with
    | some (.dK kvs) => some (n, kvs)
    | _ => none
  | _ => none
theorem dw_ok (M : MOk K H μ m) {u : U} {v : V} {n : Nat} {kvs : KU} (r : RU K H μ u v) (h : dcell m u = some (n, kvs)) : ∃ a vs, v = .ref a ∧ μ[n]? = some a ∧ H a = some (.dK vs) ∧ PU K H μ kvs vs := by
  cases u with
  | ref k =>
    cases r with
    | @ref _ a hn =>
      unfold dcell at h
      simp only at h
      split at h
      · rename_i e; cases h
        obtain ⟨vs, hq, t⟩ := M.cell _ _ _ hn e
        exact ⟨a, vs, rfl, hn, hq, t⟩
      · cases h
  | _ => cases h
/-- the memory behind a dict's change -/
theorem PostO.setD {α : Type} {z : α} {n : Nat} {a : Addr} {vs vs' : List (Key × V)} {kvs' : KU} {P : List Addr → Hp → Mem → α → Prop} (p : PostO K μ H (some (z, m.set n (.dK kvs'))) P) (M : MOk K H μ m) (hn : μ[n]? = some a) (hq : H a = some (.dK vs))
    (t : PU K H μ kvs' vs') : Step K μ H μ (upd H a (.dK vs')) ∧ P μ (upd H a (.dK vs')) (m.set n (.dK kvs')) z := by
  have s : Step K μ H μ (upd H a (.dK vs')) := .set (List.mem_of_getElem? hn) hq rfl
  exact ⟨s, p μ _ s (M.set hn hq rfl ⟨vs', upd_same, t.step s⟩)⟩
/-- a new dict -/
theorem PostO.newD {kvs : KU} {vs : List (Key × V)} {Q : VK} (p : PostO K μ H (some (.ref m.length, m ++ [.dK kvs])) fun μ' H' _ z => ∀ v, RU K H' μ' z v → Q v H') (M : MOk K H μ m) (r : PU K H μ kvs vs) {a : Addr} (ha : H a = none) : Q (.ref a) (upd H a (.dK vs)) :=
  p (μ ++ [a]) _ (.newC ha) (M.newC ha ⟨vs, upd_same, r.step (.newC ha)⟩) _ (.ref (by rw [← M.len]; simp))
end
/-! ### reading -/
def oDGet : U → U → Mem → O U := fun u k m => match dcells m u, keyOf k with
  | some kvs, some key => (valK kvs key).map fun x => (x, m)
  | _, _ => none
def oDIn (neg : Bool) : U → U → Mem → O U := fun k u m => match dcells m u, keyOf k with
  | some kvs, some key => some (.bl (neg ^^ (valK kvs key).isSome), m)
  | _, _ => none
section
variable {X : Cx} {c : Nat → Addr} {W : WX} {fo fi ff fv : XD} {o i e f value : Expr} {pos pos' apos cpos : Pos}
theorem DGet.of {K : PySem.W.Frag} {H : Hp} {a : Addr} {vs : List (Key × V)} {k : Key} {r : Option V} (h : Rd H a (.dK vs)) (e : r = valV vs k) : DGet H a (kV k) r := .inl ⟨vs, k, h, rfl, e⟩
theorem se_dget (hu : X.A.units + 1 < cLine) (ho : SE X c W o fo) (hi : SE X c W i fi) (hs : NoSl i) : SE X c W (.Subscript o i pos) (dOp oDGet fo fi) :=
  (pe_dget hu ho hi hs).imp fun σ H Q ⟨ρ, m, μ, E, M, p⟩ => ⟨ρ, m, μ, E, M, p.bind.imp fun μ1 H1 m1 u s1 M1 p1 v r1 => ⟨ρ, m1, μ1, E.step s1, M1, p1.bind.imp fun μ2 H2 m2 u2 s2 M2 p2 v2 r2 => by
    have q := p2.o
    unfold oDGet at q
    split at q
    · rename_i kvs key h1 h2
      cases e : valK kvs key with
      | none => rw [e] at q; exact no_op q
      | some x =>
        rw [e] at q
        obtain ⟨a, vs, rfl, hr, t⟩ := dc_ok M2 (r1.step s2) h1
        obtain ⟨y, hy, ry⟩ := (t.val key).1 x e
        cases keyOf_ok r2 h2
        exact ⟨a, y, rfl, .inl ⟨vs, key, hr, rfl, hy.symm⟩, q.val M2 ry⟩
    · exact no_op q⟩⟩
theorem d_isSome {K : PySem.W.Frag} {H : Hp} {μ : List Addr} {kvs : KU} {vs : List (Key × V)} (t : PU K H μ kvs vs) (k : Key) : (valK kvs k).isSome = (valV vs k).isSome := by
  cases e : valK kvs k with
  | none => rw [(t.val k).2 e]; rfl
  | some u => obtain ⟨v, h, _⟩ := (t.val k).1 u e; rw [h]; rfl
theorem pc_dinU (hu : X.A.units + 1 < cLine) (hi : SE X c W i fi) (ho : SE X c W o fo) : PC X .In i o (rdE (wX X c) W (dOp (oDIn false) fi fo)) :=
  ⟨fun pins s σ H Q I ⟨ρ, m, μ, E, M, p⟩ => (pc_din hu hi ho).run pins s σ H Q I ⟨ρ, m, μ, E, M, p.bind.imp fun μ1 H1 m1 u s1 M1 p1 v r1 => ⟨ρ, m1, μ1, E.step s1, M1, p1.bind.imp fun μ2 H2 m2 u2 s2 M2 p2 v2 r2 => by
    have q := p2.o
    unfold oDIn at q
    split at q
    · rename_i kvs key h1 h2
      obtain ⟨a, vs, rfl, hr, t⟩ := dc_ok M2 r2 h1
      cases keyOf_ok (r1.step s2) h2
      refine ⟨a, valV vs key, rfl, .inl ⟨vs, key, hr, rfl, rfl⟩, ?_⟩
      rw [← d_isSome t key]
      have := q.val M2 (.bl _)
      simpa using this
    · exact no_op q⟩⟩⟩
theorem pc_dnotinU (hu : X.A.units + 1 < cLine) (hi : SE X c W i fi) (ho : SE X c W o fo) : PC X .NotIn i o (rdE (wX X c) W (dOp (oDIn true) fi fo)) :=
  ⟨fun pins s σ H Q I ⟨ρ, m, μ, E, M, p⟩ => (pc_dnotin hu hi ho).run pins s σ H Q I ⟨ρ, m, μ, E, M, p.bind.imp fun μ1 H1 m1 u s1 M1 p1 v r1 => ⟨ρ, m1, μ1, E.step s1, M1, p1.bind.imp fun μ2 H2 m2 u2 s2 M2 p2 v2 r2 => by
    have q := p2.o
    unfold oDIn at q
    split at q
    · rename_i kvs key h1 h2
      obtain ⟨a, vs, rfl, hr, t⟩ := dc_ok M2 r2 h1
      cases keyOf_ok (r1.step s2) h2
      refine ⟨a, valV vs key, rfl, .inl ⟨vs, key, hr, rfl, rfl⟩, ?_⟩
      rw [← d_isSome t key]
      have := q.val M2 (.bl _)
      simpa using this
    · exact no_op q⟩⟩⟩
theorem se_din (hu : X.A.units + 1 < cLine) (hi : SE X c W i fi) (ho : SE X c W o fo) (h1 : behindInMarks .In o = false) : SE X c W (.Compare i [.In] [o] pos) (dOp (oDIn false) fi fo) := pe_cmp (pc_dinU hu hi ho) h1
theorem se_dnotin (hu : X.A.units + 1 < cLine) (hi : SE X c W i fi) (ho : SE X c W o fo) (h1 : behindInMarks .NotIn o = false) : SE X c W (.Compare i [.NotIn] [o] pos) (dOp (oDIn true) fi fo) := pe_cmp (pc_dnotinU hu hi ho) h1
/-- as a test -/
theorem tb_of {fd : XD} {σ : L2.St} {H : Hp} {Q : Bool → Hp → Prop} (q : rdT (wX X c) W (tBl fd) σ H Q) : tB (rdE (wX X c) W fd) σ H Q := by
  obtain ⟨ρ, m, μ, E, M, p⟩ := q
  refine ⟨ρ, m, μ, E, M, p.bind.imp fun μ1 H1 m1 u s1 M1 p1 v r => ?_⟩
  cases u with
  | bl b => cases r; exact ⟨b, rfl, p1.ok_at M1⟩
  | _ => exact False.elim p1
theorem st_din (hu : X.A.units + 1 < cLine) (hi : SE X c W i fi) (ho : SE X c W o fo) (h1 : behindInMarks .In o = false) : ST X c W (.Compare i [.In] [o] pos) (tBl (dOp (oDIn false) fi fo)) := (pt_cmp (pc_dinU hu hi ho) h1).imp fun σ H Q q => tb_of q
theorem st_dnotin (hu : X.A.units + 1 < cLine) (hi : SE X c W i fi) (ho : SE X c W o fo) (h1 : behindInMarks .NotIn o = false) : ST X c W (.Compare i [.NotIn] [o] pos) (tBl (dOp (oDIn true) fi fo)) := (pt_cmp (pc_dnotinU hu hi ho) h1).imp fun σ H Q q => tb_of q
/-- d.get(k, x) -/
def dDGet2 (fo fi ff : XD) : XD := fun ρ m => (fo ρ m).bind fun u m1 => match dcells m1 u with
  | some _ => (fi ρ m1).bind fun k m2 => (ff ρ m2).bind fun z m3 => match dcells m3 u, keyOf k with
    | some kvs, some key => .ok ((valK kvs key).getD z) m3
    | _, _ => .bad
  | none => .bad
theorem getD_ok {K : PySem.W.Frag} {H : Hp} {μ : List Addr} {kvs : KU} {vs : List (Key × V)} (t : PU K H μ kvs vs) (k : Key) {z : U} {w : V} (r : RU K H μ z w) : RU K H μ ((valK kvs k).getD z) ((valV vs k).getD w) := by
  cases e : valK kvs k with
  | none => rw [(t.val k).2 e]; exact r
  | some u => obtain ⟨v, h, rr⟩ := (t.val k).1 u e; rw [h]; exact rr
theorem isD_u {K : PySem.W.Frag} {H : Hp} {μ : List Addr} {m : Mem} (M : MOk K H μ m) {u : U} {v : V} {kvs : KU} (r : RU K H μ u v) (h : dcells m u = some kvs) : ∃ a, v = .ref a ∧ IsD H a := by
  obtain ⟨a, vs, rfl, hr, _⟩ := dc_ok M r h
  exact ⟨a, rfl, .inl ⟨vs, hr⟩⟩
theorem se_dget2 (hu : X.A.units + 1 < cLine) (ho : SE X c W o fo) (he : SE X c W e fi) (hf : SE X c W f ff) (mm : M2 X o "get" apos e f cpos) : SE X c W (.Call (.Attribute o "get" apos) [e, f] [] cpos) (dDGet2 fo fi ff) :=
  (pe_dget2 hu ho he hf mm).imp fun σ H Q ⟨ρ, m, μ, E, M, p⟩ => ⟨ρ, m, μ, E, M, p.bind.imp fun μ1 H1 m1 u s1 M1 p1 v r1 => by
    cases h0 : dcells m1 u with
    | none => rw [h0] at p1; exact False.elim p1
    | some kvs0 =>
      rw [h0] at p1
      obtain ⟨a, rfl, hD⟩ := isD_u M1 r1 h0
      refine ⟨a, rfl, hD, ρ, m1, μ1, E.step s1, M1, p1.bind.imp fun μ2 H2 m2 k s2 M2 p2 y ry => ⟨ρ, m2, μ2, (E.step s1).step s2, M2, p2.bind.imp fun μ3 H3 m3 z s3 M3 p3 w rw => ?_⟩⟩
      split at p3
      · rename_i kvs key h1 h2
        obtain ⟨a', vs, e2, hr, t⟩ := dc_ok M3 ((r1.step s2).step s3) h1
        cases e2
        cases keyOf_ok ry h2
        exact ⟨valV vs key, .inl ⟨vs, key, hr, rfl, rfl⟩, p3.ok_at M3 _ (getD_ok t key rw)⟩
      · exact False.elim p3⟩
/-- d.get(k) -/
def dDGet1 (fo fi : XD) : XD := fun ρ m => (fo ρ m).bind fun u m1 => match dcells m1 u with
  | some _ => (fi ρ m1).bind fun k m2 => match dcells m2 u, keyOf k with
    | some kvs, some key => .ok ((valK kvs key).getD .non) m2
    | _, _ => .bad
  | none => .bad
theorem se_dget1 (hu : X.A.units + 1 < cLine) (ho : SE X c W o fo) (he : SE X c W e fi) (mm : M1 X o "get" apos e cpos) : SE X c W (.Call (.Attribute o "get" apos) [e] [] cpos) (dDGet1 fo fi) :=
  (pe_dget1 hu ho he mm).imp fun σ H Q ⟨ρ, m, μ, E, M, p⟩ => ⟨ρ, m, μ, E, M, p.bind.imp fun μ1 H1 m1 u s1 M1 p1 v r1 => by
    cases h0 : dcells m1 u with
    | none => rw [h0] at p1; exact False.elim p1
    | some kvs0 =>
      rw [h0] at p1
      obtain ⟨a, rfl, hD⟩ := isD_u M1 r1 h0
      refine ⟨a, rfl, hD, ρ, m1, μ1, E.step s1, M1, p1.bind.imp fun μ2 H2 m2 k s2 M2 p2 y ry => ?_⟩
      split at p2
      · rename_i kvs key h1 h2
        obtain ⟨a', vs, e2, hr, t⟩ := dc_ok M2 (r1.step s2) h1
        cases e2
        cases keyOf_ok ry h2
        exact ⟨valV vs key, .inl ⟨vs, key, hr, rfl, rfl⟩, p2.ok_at M2 _ (getD_ok t key .non)⟩
      · exact False.elim p2⟩
/-- d.pop(k) -/
def dDPop (fo fi : XD) : XD := fun ρ m => (fo ρ m).bind fun u m1 => match dcells m1 u with
  | some _ => (fi ρ m1).bind fun k m2 => match dcell m2 u, keyOf k with
    | some (n, kvs), some key => match valK kvs key with
      | some x => .ok x (m2.set n (.dK (dropU kvs key)))
      | none => .bad
    | _, _ => .bad
  | none => .bad
theorem se_dpop (ho : SE X c W o fo) (he : SE X c W e fi) (mm : M1 X o "pop" apos e cpos) : SE X c W (.Call (.Attribute o "pop" apos) [e] [] cpos) (dDPop fo fi) :=
  (pe_dpop1 ho he mm).imp fun σ H Q ⟨ρ, m, μ, E, M, p⟩ => ⟨ρ, m, μ, E, M, p.bind.imp fun μ1 H1 m1 u s1 M1 p1 v r1 => by
    cases h0 : dcells m1 u with
    | none => rw [h0] at p1; exact False.elim p1
    | some kvs0 =>
      rw [h0] at p1
      obtain ⟨a, rfl, hD⟩ := isD_u M1 r1 h0
      refine ⟨a, rfl, hD, ρ, m1, μ1, E.step s1, M1, p1.bind.imp fun μ2 H2 m2 k s2 M2 p2 y ry => ?_⟩
      split at p2
      · rename_i n kvs key h1 h2
        split at p2
        · rename_i x hx
          obtain ⟨a', vs, e2, hn, hr, t⟩ := dw_ok M2 (r1.step s2) h1
          cases e2
          cases keyOf_ok ry h2
          obtain ⟨z, hz, rz⟩ := (t.val key).1 x hx
          have s : Step X.K μ2 H2 μ2 (upd H2 a (.dK (dropK vs key))) := .set (List.mem_of_getElem? hn) hr rfl
          exact ⟨vs, key, z, hr, rfl, hz, p2 μ2 _ s (M2.set hn hr rfl ⟨_, upd_same, (t.drop key).step s⟩) _ (rz.step s)⟩
        · exact False.elim p2
      · exact False.elim p2⟩
/-- d[k] = v -/
def oSetD : U → U → U → Mem → O Unit := fun o i v m => match dcell m o, keyOf i with
  | some (n, kvs), some key => if kvs.length < sizeLine then some ((), m.set n (.dK (putU kvs key v))) else none
  | _, _ => none
theorem ss_dput (hu : X.A.units + 1 < cLine) (ho : SE X c W o fo) (hi : SE X c W i fi) (hv : SE X c W value fv) (hs : swapsWith value (some (.Subscript o i pos')) pos.line X.env = pure false) : SS X c W (.Assign [.Subscript o i pos'] value pos) (sAsg fv (gSub oSetD fo fi)) :=
  (ps_dput hu ho hi hv hs).imp fun D σ H ⟨ρ, m, μ, E, M, p⟩ => ⟨ρ, m, μ, E, M, (PostS.thenE E p).imp fun μ1 H1 m1 v s1 M1 p1 vv rv => by
    have p1 := PostS.thenO p1
    unfold gSub at p1
    cases q1 : toO (fo ρ m1) with
    | none => rw [q1] at p1; exact no_op p1
    | some z =>
      obtain ⟨x, m2⟩ := z
      rw [q1] at p1
      simp only at p1
      cases q2 : toO (fi ρ m2) with
      | none => rw [q2] at p1; exact no_op p1
      | some z =>
        obtain ⟨y, m3⟩ := z
        rw [q2] at p1
        simp only at p1
        refine ⟨ρ, m1, μ1, E.step s1, M1, toO_post (w := wX X c) q1 fun μ2 H2 s2 M2 v1 r1 => ⟨ρ, m2, μ2, (E.step s1).step s2, M2, toO_post (w := wX X c) q2 fun μ3 H3 s3 M3 v2 r2 => ?_⟩⟩
        unfold oSetD at p1
        split at p1
        · rename_i n kvs key h1 h2
          split at p1
          · rename_i hz
            obtain ⟨a, vs, rfl, hn, hq, t⟩ := dw_ok M3 (r1.step s3) h1
            cases keyOf_ok r2 h2
            have t' := t.put key ((rv.step s2).step s3)
            have s : Step X.K μ3 H3 μ3 (upd H3 a (.dK (putK vs key vv))) := .set (List.mem_of_getElem? hn) hq rfl
            have M4 := M3.set hn hq rfl (o := .dK (putK vs key vv)) (c := .dK (putU kvs key v)) ⟨_, upd_same, t'.step s⟩
            refine ⟨a, _, rfl, .inl ⟨vs, key, hq, rfl, by rw [← t.length]; exact hz, rfl⟩, ?_⟩
            exact (p1 μ3 _ ((s2.trans s3).trans s) M4).nx M4 (((E.step s1).step s2).step s3 |>.step s)
          · exact no_op p1
        · exact no_op p1⟩
/-! ### new dicts -/
def dDNew : XD := fun _ m => .ok (.ref m.length) (m ++ [.dK []])
theorem se_dnew : SE X c W (.Dict [] [] pos) dDNew := pe_dnewK.imp fun σ H Q ⟨ρ, m, μ, E, M, p⟩ a ha => PostO.newD p M .nil ha
/-- dict(d) -/
def oDictD : List U → Mem → O U
  | [u], m => match dcells m u with
    | some kvs => some (.ref m.length, m ++ [.dK kvs])
    | none => none
  | _, _ => none
theorem b_dictD : CallR X (.type "dict") (rdC X.K oDictD) := by
  intro pins s σ H xs us Q I rx h
  obtain ⟨vs, m, μ, r, M, p⟩ := h
  unfold oDictD at p
  split at p
  · obtain ⟨v, rfl, r1⟩ := r.one
    split at p
    · rename_i kvs e
      obtain ⟨a, ws, rfl, hr, t⟩ := dc_ok M r1 e
      exact call_dictD pins s σ H _ us Q I rx ⟨a, ws, rfl, hr, fun b hb => PostO.newD p M t hb⟩
    · exact no_op p
  · exact no_op p
/-- list(d) -/
def oListD : List U → Mem → O U
  | [u], m => match dcells m u with
    | some kvs => some (.ref m.length, m ++ [.lst (kvs.map fun kv => keyU kv.1)])
    | none => none
  | _, _ => none
theorem keys_ok {K : PySem.W.Frag} {H : Hp} {μ : List Addr} {kvs : KU} {vs : List (Key × V)} (p : PU K H μ kvs vs) : RUs K H μ (kvs.map fun kv => keyU kv.1) (vs.map fun kv => kV kv.1) := by
  induction p with
  | nil => exact .nil
  | @cons a b as bs h t ih =>
    refine .cons ?_ ih
    show RU K H μ (keyU a.1) (kV b.1)
    rw [h.1]; exact keyU_ok b.1
theorem b_listD (hc : X.calm = true) : CallR X (.type "list") (rdC X.K oListD) := by
  intro pins s σ H xs us Q I rx h
  obtain ⟨vs, m, μ, r, M, p⟩ := h
  unfold oListD at p
  split at p
  · obtain ⟨v, rfl, r1⟩ := r.one
    split at p
    · rename_i kvs e
      obtain ⟨a, ws, rfl, hr, t⟩ := dc_ok M r1 e
      exact call_listD hc pins s σ H _ us Q I rx ⟨a, ws, rfl, hr, fun b hb => p.lst M (keys_ok t) hb⟩
    · exact no_op p
  · exact no_op p
end
end Ev

set_option Elab.async false
set_option linter.all false
set_option maxRecDepth 100000
set_option maxHeartbeats 2000000
/-! Ev: dicts made of pairs, displays, sorted, == of dicts. -/
namespace Ev
open PySem PySem.Spec PyProof.Rows L2 RZ LiI

/-! ### list(d.items()), dict(pairs) -/
def pairU (kv : Key × U) : U := .tup [keyU kv.1, kv.2]
def dItems (f : XD) : XD := fun ρ m => (f ρ m).bind fun u m1 => match dcell m1 u with
  | some (_, kvs) => .ok (.ref m1.length) (m1 ++ [.lst (kvs.map pairU)])
  | none => .bad
section
variable {K : PySem.W.Frag} {H H' : Hp} {μ : List Addr} {m : Mem}
/-- further objects, and one new list -/
theorem MOk.ext (M : MOk K H μ m) (hk : ∀ b o, H b = some o → H' b = some o) {p : Addr} (hp : H p = none) {us : List U} {vs : List V} (hl : H' p = some (.lst vs)) (r : RUs K H' (μ ++ [p]) us vs) :
    Step K μ H (μ ++ [p]) H' ∧ MOk K H' (μ ++ [p]) (m ++ [.lst us]) := by
  have s : Step K μ H (μ ++ [p]) H' := ⟨⟨[p], rfl⟩, fun b o h _ _ => hk b o h, fun b o h n => ⟨fun z => by
      rcases List.mem_append.mp z with z | z
      · exact n z
      · exact ne_of_none h hp (by simpa using z), o, hk b o h⟩, fun a xs h => by
      rcases h with (h | ⟨u, h⟩) | h
      · exact .inl (.inl (hk _ _ h))
      · exact .inl (.inr ⟨u, hk _ _ h⟩)
      · exact .inr h, fun b o u h => hk _ _ h⟩
  refine ⟨s, by simp [M.len], ?_, fun n a d h1 h2 => ?_⟩
  · rw [List.nodup_append]
    exact ⟨M.nd, by simp, fun x hx y hy e => M.nin hp (by rw [← (by simpa using hy : y = p), ← e]; exact hx)⟩
  · by_cases hn : n < μ.length
    · rw [List.getElem?_append_left hn] at h1
      rw [List.getElem?_append_left (by rw [← M.len]; exact hn)] at h2
      refine (M.cell n a d h1 h2).mo s.mono ?_
      obtain ⟨o', e, _⟩ := M.is (List.mem_of_getElem? h1)
      rw [e, hk _ _ e]
    · rw [List.getElem?_append_right (Nat.le_of_not_lt hn)] at h1
      rw [List.getElem?_append_right (by rw [← M.len]; exact Nat.le_of_not_lt hn)] at h2
      have h1' : a = p ∧ n - μ.length = 0 := by
        cases e : n - μ.length with
        | zero => rw [e] at h1; simp at h1; exact ⟨h1.symm, rfl⟩
        | succ k => rw [e] at h1; simp at h1
      rw [M.len] at h1'
      rw [h1'.2] at h2
      simp at h2
      subst h2
      rw [h1'.1]
      exact ⟨vs, hl, r⟩
theorem pairs_ok {ts : List Addr} {vs : List (Key × V)} (h : Paired (fun (t : Addr) (q : Key × V) => H' t = some (.tup [kV q.1, q.2])) ts vs) : ∀ {kvs : KU}, PU K H' μ kvs vs → RUs K H' μ (kvs.map pairU) (ts.map V.ref) := by
  induction h with
  | nil => intro kvs p; cases p; exact .nil
  | @cons t q ts vs e h ih =>
    intro kvs p
    cases p with
    | @cons a _ as _ h1 h2 =>
      refine .cons (.tup (SqT.of e) (.cons ?_ (.cons h1.2 .nil))) (ih h2)
      rw [← h1.1]; exact keyU_ok a.1
end
section
variable {X : Cx} {c : Nat → Addr} {W : WX} {f : XD}
theorem se_items {st : Expr} (h : PE X st (tListItems (rdE (wX X c) W f))) : SE X c W st (dItems f) :=
  h.imp fun σ H Q ⟨ρ, m, μ, E, M, p⟩ => ⟨ρ, m, μ, E, M, p.bind.imp fun μ1 H1 m1 u s1 M1 p1 v r => by
    split at p1
    · rename_i n kvs e
      obtain ⟨a, vs, rfl, hn, hq, t⟩ := dw_ok M1 r e
      refine ⟨a, vs, rfl, hq, fun H' b ts hk hb hts hbt hl hp => ?_⟩
      have mo : Mono X.K μ1 H1 (μ1 ++ [b]) H' := ⟨⟨[b], rfl⟩, fun a xs h => by
        rcases h with (h | ⟨u, h⟩) | h
        · exact .inl (.inl (hk _ _ h))
        · exact .inl (.inr ⟨u, hk _ _ h⟩)
        · exact .inr h, fun _ _ _ h => hk _ _ h⟩
      obtain ⟨s, M2⟩ := M1.ext hk hb hl (pairs_ok hp (t.mo mo))
      exact p1 _ _ s M2 _ (.ref (by rw [← M1.len]; simp))
    · exact False.elim p1⟩
/-- the pairs of a list -/
def pairsOfU : List U → Option KU
  | [] => some []
  | .tup [k, v] :: r => match keyOf k, pairsOfU r with
    | some key, some kvs => some ((key, v) :: kvs)
    | _, _ => none
  | _ :: _ => none
def mergeU (kvs more : KU) : KU := more.foldl (fun acc kv => putU acc kv.1 kv.2) kvs
def oDictP : List U → Mem → O U
  | [.ref n], m => match m[n]? with
    | some (.lst us) => match pairsOfU us with
      | some kvs => some (.ref m.length, m ++ [.dK (mergeU [] kvs)])
      | none => none
    | _ => none
  | _, _ => none
theorem merge_ok {K : PySem.W.Frag} {H : Hp} {μ : List Addr} {more : KU} {more' : List (Key × V)} (h : PU K H μ more more') : ∀ {kvs : KU} {vs : List (Key × V)}, PU K H μ kvs vs → PU K H μ (mergeU kvs more) (mergeK vs more') := by
  induction h with
  | nil => intro kvs vs p; exact p
  | @cons a b as bs h t ih =>
    intro kvs vs p
    have := ih (p.put a.1 h.2)
    rw [h.1] at this
    exact (show PU K H μ (mergeU (putU kvs a.1 a.2) as) (mergeK (putK vs b.1 b.2) bs) from by rw [h.1]; exact this)
theorem pairsOfU_ok {K : PySem.W.Frag} {H : Hp} {μ : List Addr} : ∀ {us : List U} {vs : List V} {kvs : KU}, RUs K H μ us vs → pairsOfU us = some kvs → ∃ (ps : List Addr) (kws : List (Key × V)), vs = ps.map V.ref ∧ Paired (fun p kv => SqT K H p [kV kv.1, kv.2]) ps kws ∧ PU K H μ kvs kws
  | [], vs, kvs, r, h => by cases r; cases h; exact ⟨[], [], rfl, .nil, .nil⟩
  | u :: us, vs, kvs, r, h => by
    unfold pairsOfU at h
    split at h
    · rename_i e; cases e
    · rename_i k v r' e
      injection e with e1 e2
      subst e1; subst e2
      split at h
      · rename_i key kvs' h1 h2
        cases h
        cases r with
        | cons r1 r2 =>
          cases r1 with
          | @tup a xs _ hq t =>
            cases t with
            | cons ra t =>
              cases t with
              | cons rb t =>
                cases t
                obtain ⟨ps, kws, rfl, hp, t2⟩ := pairsOfU_ok r2 h2
                cases keyOf_ok ra h1
                exact ⟨a :: ps, (key, _) :: kws, rfl, .cons hq hp, .cons ⟨rfl, rb⟩ t2⟩
      · cases h
    · cases h
theorem b_dictP (hc : X.calm = true) : CallR X (.type "dict") (rdC X.K oDictP) := by
  intro pins s σ H xs us Q I rx h
  obtain ⟨vs, m, μ, r, M, p⟩ := h
  unfold oDictP at p
  split at p
  · obtain ⟨v, rfl, r1⟩ := r.one
    split at p
    · rename_i us1 e
      split at p
      · rename_i kvs e2
        obtain ⟨a, ws, rfl, hn, hq, t⟩ := r1.cl M e
        obtain ⟨ps, kws, rfl, hp, t2⟩ := pairsOfU_ok t e2
        exact call_dictP hc pins s σ H _ us Q I rx ⟨a, ps, kws, rfl, SqL.of hq, hp, fun b hb => PostO.newD p M (merge_ok t2 .nil) hb⟩
      · exact no_op p
    · exact no_op p
  · exact no_op p
/-! ### {k: v, ..} -/
def evalPs : List (XD × XD) → Env → Mem → R (List (U × U))
  | [], _, m => .ok [] m
  | (fk, fv) :: r, ρ, m => (fk ρ m).bind fun k m1 => (fv ρ m1).bind fun v m2 => (evalPs r ρ m2).bind fun ps m3 => .ok ((k, v) :: ps) m3
def keysOf : List (U × U) → Option KU
  | [] => some []
  | (k, v) :: r => match keyOf k, keysOf r with
    | some key, some kvs => some ((key, v) :: kvs)
    | _, _ => none
def dDisp (l : List (XD × XD)) : XD := fun ρ m => (evalPs l ρ m).bind fun ps m1 => match keysOf ps with
  | some kvs => if kvs.length ≤ 15 then .ok (.ref m1.length) (m1 ++ [.dK (mergeU [] kvs)]) else .bad
  | none => .bad
abbrev RPs (K : PySem.W.Frag) (H : Hp) (μ : List Addr) : List (U × U) → List (V × V) → Prop := Paired fun p q => RU K H μ p.1 q.1 ∧ RU K H μ p.2 q.2
theorem pairs_eval : ∀ (l : List (XD × XD)) {ρ : Env} {m : Mem} {μ : List Addr} {σ : L2.St} {H : Hp} {Q : List (V × V) → Hp → Prop}, EOk X.K H μ ρ σ → MOk X.K H μ m →
    Post (wX X c) W σ μ H (evalPs l ρ m) (fun μ' H' _ ps => ∀ vs, RPs X.K H' μ' ps vs → Q vs H') → tPairs (l.map fun x => (rdE (wX X c) W x.1, rdE (wX X c) W x.2)) σ H Q
  | [], ρ, m, μ, σ, H, Q, E, M, p => p.ok_at M _ .nil
  | (fk, fv) :: r, ρ, m, μ, σ, H, Q, E, M, p => ⟨ρ, m, μ, E, M, p.bind.imp fun μ1 H1 m1 k s1 M1 p1 x rx => ⟨ρ, m1, μ1, E.step s1, M1, p1.bind.imp fun μ2 H2 m2 v s2 M2 p2 y ry =>
      pairs_eval r ((E.step s1).step s2) M2 (p2.bind.imp fun μ3 H3 m3 ps s3 M3 p3 vs rs => p3.ok_at M3 _ (.cons ⟨(rx.step s2).step s3, ry.step s3⟩ rs))⟩⟩
theorem keysOf_ok {K : PySem.W.Frag} {H : Hp} {μ : List Addr} : ∀ {ps : List (U × U)} {vs : List (V × V)} {kvs : KU}, RPs K H μ ps vs → keysOf ps = some kvs → ∃ kws : List (Key × V), vs = kws.map (fun kv => (kV kv.1, kv.2)) ∧ PU K H μ kvs kws
  | [], vs, kvs, r, h => by cases r; cases h; exact ⟨[], rfl, .nil⟩
  | (k, v) :: ps, vs, kvs, r, h => by
    rw [keysOf] at h
    split at h
    · rename_i key kvs' h1 h2
      cases h
      cases r with
      | @cons _ q _ qs r1 r2 =>
        obtain ⟨kws, rfl, t⟩ := keysOf_ok r2 h2
        obtain ⟨x, y⟩ := q
        cases keyOf_ok r1.1 h1
        exact ⟨(key, y) :: kws, rfl, .cons ⟨rfl, r1.2⟩ t⟩
    · cases h
/-- an object that is not tracked in the memory, laid by -/
theorem MOk.beside {K : PySem.W.Frag} {H : Hp} {μ : List Addr} {m : Mem} (M : MOk K H μ m) {D : Addr} {vs : List (Key × V)} {kvs : KU} (nD : D ∉ μ) (hL : H D = some (.dK vs)) (r : PU K H μ kvs vs) : MOk K H (μ ++ [D]) (m ++ [.dK kvs]) := by
  have mo : Mono K μ H (μ ++ [D]) H := ⟨⟨[D], rfl⟩, fun _ _ h => h, fun _ _ _ h => h⟩
  refine ⟨by simp [M.len], ?_, fun k a d h1 h2 => ?_⟩
  · rw [List.nodup_append]
    exact ⟨M.nd, by simp, fun x hx y hy e => nD (by rw [← (by simpa using hy : y = D), ← e]; exact hx)⟩
  · by_cases hn : k < μ.length
    · rw [List.getElem?_append_left hn] at h1
      rw [List.getElem?_append_left (by rw [← M.len]; exact hn)] at h2
      exact (M.cell k a d h1 h2).mo mo rfl
    · rw [List.getElem?_append_right (Nat.le_of_not_lt hn)] at h1
      rw [List.getElem?_append_right (by rw [← M.len]; exact Nat.le_of_not_lt hn)] at h2
      have h1' : a = D ∧ k - μ.length = 0 := by
        cases e : k - μ.length with
        | zero => rw [e] at h1; simp at h1; exact ⟨h1.symm, rfl⟩
        | succ k => rw [e] at h1; simp at h1
      rw [M.len] at h1'
      rw [h1'.2] at h2
      simp at h2
      subst h2
      rw [h1'.1]
      exact ⟨vs, hL, r.mo mo⟩
/-- with it in the memory -/
theorem Step.beside {K : PySem.W.Frag} {H0 H : Hp} {μ0 μ : List Addr} (s : Step K μ0 H0 μ H) {D : Addr} (hD : H0 D = none) : Step K μ0 H0 (μ ++ [D]) H := by
  refine ⟨?_, s.keep, fun b o h n => ?_, s.kt, s.fz⟩
  · obtain ⟨tt, e2⟩ := s.ext
    exact ⟨tt ++ [D], by rw [e2, List.append_assoc]⟩
  · obtain ⟨h1, h2⟩ := s.stay b o h n
    exact ⟨fun z => by
      rcases List.mem_append.mp z with z | z
      · exact h1 z
      · exact ne_of_none h hD (by simpa using z), h2⟩
theorem Step.growD {K : PySem.W.Frag} {H1 H : Hp} {μ1 μ : List Addr} {D : Addr} {xs ys : List (Key × V)} (s : Step K μ1 H1 μ H) (hD : H1 D = none) (hL : H D = some (.dK xs)) : Step K μ1 H1 μ (upd H D (.dK ys)) := by
  have ne : ∀ b o, H1 b = some o → b ≠ D := fun b o h => ne_of_none h hD
  refine ⟨s.ext, fun b o h n hp => by rw [upd_ne (ne b o h)]; exact s.keep b o h n hp, fun b o h n => ?_, fun a vs h => kt_set hL rfl a vs (s.kt a vs h), fun b o u h => by rw [upd_ne (ne b _ h)]; exact s.fz b o u h⟩
  obtain ⟨h1, o', h2⟩ := s.stay b o h n
  exact ⟨h1, o', by rw [upd_ne (ne b o h)]; exact h2⟩
theorem Mono.growD {K : PySem.W.Frag} {H : Hp} {μ : List Addr} {D : Addr} {xs ys : List (Key × V)} (hL : H D = some (.dK xs)) : Mono K μ H μ (upd H D (.dK ys)) := ⟨⟨[], by simp⟩, kt_set hL rfl, fun b o u h => by
  rw [upd_ne fun z => by subst z; rw [hL] at h; cases h]; exact h⟩
theorem se_disp {st : Expr} {l : List (XD × XD)} (h : PE X st (tDisp (l.map fun x => (rdE (wX X c) W x.1, rdE (wX X c) W x.2)))) : SE X c W st (dDisp l) :=
  h.imp fun σ H Q ⟨ρ, m, μ, E, M, p⟩ D hD => by
    have s0 : Step X.K μ H μ (upd H D (.dK [])) := .newT hD
    refine pairs_eval l (E.step s0) (M.newT hD) ?_
    unfold dDisp at p
    cases q : evalPs l ρ m with
    | bad => rw [q] at p; exact p
    | err x m1 => rw [q] at p; exact Post.from (r := (R.err x m1 : R (List (U × U)))) (P := fun _ _ _ _ => True) p s0
    | ok ps m1 =>
      rw [q] at p
      intro μ1 H1 s1 M1 vs rs
      have nD : D ∉ μ := M.nin hD
      have hL : H1 D = some (.dK []) := s1.keep D _ upd_same nD (fun ps z => by cases z)
      have nD1 := (s1.stay D _ upd_same nD).1
      have p1 : Post (wX X c) W σ μ H (match keysOf ps with | some kvs => if kvs.length ≤ 15 then R.ok (U.ref m1.length) (m1 ++ [.dK (mergeU [] kvs)]) else .bad | none => .bad) _ := p
      split at p1
      · rename_i kvs e
        split at p1
        · rename_i hz
          obtain ⟨kws, rfl, t⟩ := keysOf_ok rs e
          refine ⟨hL, kws, rfl, by rw [← t.length]; exact hz, ?_⟩
          have t' := merge_ok t (kvs := []) (vs := []) .nil
          have mo : Mono X.K μ1 H1 μ1 (upd H1 D (.dK (mergeK [] kws))) := Mono.growD hL
          have M2 : MOk X.K (upd H1 D (.dK (mergeK [] kws))) μ1 m1 := M1.mo mo fun a ha => by rw [upd_ne fun z : a = D => nD1 (by rw [← z]; exact ha)]
          have M3 := M2.beside nD1 upd_same (t'.mo mo)
          exact p1 _ _ (((s0.trans s1).growD hD hL).beside hD) M3 _ (.ref (by rw [← M1.len]; simp))
        · exact False.elim p1
      · exact False.elim p1
end
end Ev

set_option Elab.async false
set_option linter.all false
set_option maxRecDepth 100000
set_option maxHeartbeats 2000000
/-! Ev: sorted, == of dicts. -/
namespace Ev
open PySem PySem.Spec PyProof.Rows L2 RZ LiI

/-! ### sorted texts -/
def leS (x y : Str) : Bool := decide (x.cps.toList ≤ y.cps.toList)
def sortS (xs : List Str) : List Str := xs.mergeSort leS
theorem leS_trans : ∀ a b c : Str, leS a b = true → leS b c = true → leS a c = true := fun a b c h1 h2 => by
  simp only [leS, decide_eq_true_eq] at h1 h2 ⊢
  exact List.le_trans h1 h2
theorem leS_total : ∀ a b : Str, (leS a b || leS b a) = true := fun a b => by
  simp only [leS, Bool.or_eq_true, decide_eq_true_eq]
  exact List.le_total _ _
theorem leS_anti : ∀ a b : Str, leS a b = true → leS b a = true → a = b := fun a b h1 h2 => by
  simp only [leS, decide_eq_true_eq] at h1 h2
  have e := List.le_antisymm h1 h2
  obtain ⟨x⟩ := a
  obtain ⟨y⟩ := b
  exact congrArg Str.mk (Array.toList_inj.mp e)
theorem sortS_perm (xs : List Str) : (sortS xs).Perm xs := List.mergeSort_perm xs leS
theorem sortS_pair (xs : List Str) : (sortS xs).Pairwise (fun a b => leS a b = true) := List.pairwise_mergeSort leS_trans leS_total xs
theorem sortS_uniq {xs ys : List Str} (hp : ys.Perm xs) (hs : ys.Pairwise fun a b => leS a b = true) : ys = sortS xs :=
  List.Perm.eq_of_pairwise (fun a b _ _ h1 h2 => leS_anti a b h1 h2) hs (sortS_pair xs) (hp.trans (sortS_perm xs).symm)
theorem sortS_congr {xs ys : List Str} (hp : xs.Perm ys) : sortS xs = sortS ys := sortS_uniq ((sortS_perm xs).trans hp) (sortS_pair xs)
theorem rising_pair : ∀ (r : List Str) (p : Str), risingS p r = true → (∀ x ∈ r, leS p x = true) ∧ r.Pairwise (fun a b => leS a b = true)
  | [], _, _ => ⟨by simp, .nil⟩
  | x :: r, p, h => by
    rw [risingS, Bool.and_eq_true, ltCps_eq] at h
    obtain ⟨h1, h2⟩ := rising_pair r x h.2
    have hpx : leS p x = true := by
      have h3 : ¬ (x.cps.toList < p.cps.toList) := by simpa using h.1
      exact decide_eq_true (List.not_lt.mp h3)
    refine ⟨fun y hy => ?_, .cons h1 h2⟩
    rcases List.mem_cons.mp hy with e | hy
    · rw [e]; exact hpx
    · exact leS_trans _ _ _ hpx (h1 y hy)
theorem sortedS_pair {ys : List Str} (h : sortedS ys = true) : ys.Pairwise fun a b => leS a b = true := by
  cases ys with
  | nil => exact .nil
  | cons x r =>
    obtain ⟨h1, h2⟩ := rising_pair r x h
    exact .cons h1 h2
theorem sortS_of {xs ys : List Str} (hp : ys.Perm xs) (hs : sortedS ys = true) : ys = sortS xs := sortS_uniq hp (sortedS_pair hs)
/-- texts alone -/
def keysS : KU → Option (List Str)
  | [] => some []
  | (.inr x, _) :: r => (keysS r).map (x :: ·)
  | _ :: _ => none
theorem keysS_ok : ∀ {kvs : KU} {ks : List Str}, keysS kvs = some ks → kvs.map (·.1) = ks.map Sum.inr
  | [], ks, h => by cases h; rfl
  | (.inr x, u) :: r, ks, h => by
    rw [keysS] at h
    cases e : keysS r with
    | none => rw [e] at h; cases h
    | some ks' => rw [e] at h; cases h; rw [List.map_cons, List.map_cons, keysS_ok e]
  | (.inl i, u) :: r, ks, h => by cases h
section
variable {X : Cx}
/-- sorted(t) of a tuple of texts -/
theorem call_sortedTS : CallR X (.builtin "sorted") (fun xs H Q => ∃ (a : Addr) (ks : List Str), xs = [.ref a] ∧ SqT X.K H a (ks.map V.str) ∧ ks.length < 64 ∧
    ∀ ys p, ys.Perm ks → sortedS ys = true → H p = none → Q (.ref p) (upd H p (.lst (ys.map V.str)))) := by
  intro pins s σ H xs us Q I r q
  obtain ⟨a, ks, ex, hd, h64, q⟩ := q
  subst ex
  obtain ⟨u, eu, rx⟩ := vals1 r
  subst eu
  cases rx
  obtain ⟨its, rv, ⟨o, ho, hcl, n, hdat⟩, hz⟩ := I.tuple hd
  have hS := rv.strs
  have hal : its.toArray.toList.length = ks.length := by
    have z := rv.length
    rw [List.length_map] at z
    simpa using z.symm
  have hS' : StrsAre its.toArray.toList ks := by simpa using hS
  refine Calls.call_function_entry PyProof.Rows.kind_sorted PyProof.Rows.plain_sorted PyProof.Rows.entry_sorted (PyProof.Rows.args_sorted1 _) ?_
  unfold Builtin.«sorted»
  refine wpAny_bind (m := checkCount "sorted" 1 1 _) (wpAny_pure ?_)
  refine wpAny_bind (wpAny_collect_seq a (T := "tuple") (.inr rfl) ho hcl hdat (fun h' hk => ?_) (by rw [List.size_toArray, ← rv.length]; exact hz))
  have I1 : Inv X pins σ H { s with heap := h' } := I.kept (t' := s.toks) hk
  refine wpAny_bind (wpAny_newList ?_ (by rw [hal, sizeLine_eq]; omega))
  have hoL : (h'.push (seqObj "list" its.toArray.toList.toArray 0)).get? h'.objs.size = some (seqObj "list" its.toArray.toList.toArray 0) := Heap.get?_push_size _ rfl
  show wpAny _ _ _ _ _ { s with heap := h'.push (seqObj "list" its.toArray.toList.toArray 0) }
  refine wpAny_bind (wpAny_holding (wpAny_call_entry PyProof.Rows.slot_list_sort ⟨_, hoL, rfl⟩ PyProof.Rows.entry_list_sort
    (list_sort_treeK strKind_oneLt (s := { s with heap := h'.push (seqObj "list" its.toArray.toList.toArray 0) }) hoL hS'.keysOf (fun v₁ v₂ rest e => keyKind_strs (by rw [← e]; exact hS')) (by rw [hal]; exact h64) fun st' hp hs => ⟨_, rfl, ?_⟩)
    (PyProof.Rows.args_list_sort _)))
  obtain ⟨ys, g1, g2, g3⟩ := sorted_out_str hS' hp hs
  obtain ⟨e', he'⟩ := PyProof.Rows.sortedHeap_at (vs := its.toArray.toList) (out := (arrOf st').map (·.2)) hoL
  have hlen : (ys.map V.str).length ≤ sizeLine := by
    rw [List.length_map, g2.length_eq]
    exact Nat.le_trans (Nat.le_of_lt h64) (by decide)
  refine wpAny_pure ⟨_, rfl, .ref h'.objs.size, upd H h'.objs.size (.lst (ys.map V.str)), I1.laid (t' := s.toks) (fun b u e => ?_) (Nat.le_refl _)
    (show ObjOk X.prog X.w _ _ _ (.lst (ys.map V.str)) from ⟨hlen, ((arrOf st').map (·.2)).toList, e', vals_of_strs g1, by rw [Array.toArray_toList]; exact he'⟩), rfl, q ys _ g2 g3 (I1.hok.fresh (Nat.le_refl _))⟩
  have hb : b < h'.objs.size := Heap.lt_size e
  rw [PyProof.Rows.sortedHeap_old (Nat.ne_of_lt hb) (by rw [size_push']; exact Nat.lt_succ_of_lt hb)]
  exact Heap.get?_push_of_some _ e
def oSorted : List U → Mem → O U
  | [u], m => match dcells m u with
    | some kvs => match keysS kvs with
      | some ks => if ks.length < 64 then some (.ref m.length, m ++ [.lst ((sortS ks).map .str)]) else none
      | none => none
    | none => match itemsOf m u with
      | some us => match txts us with
        | some ks => if ks.length < 64 then some (.ref m.length, m ++ [.lst ((sortS ks).map .str)]) else none
        | none => none
      | none => none
  | _, _ => none
theorem RUs.strs {K : PySem.W.Frag} {H : Hp} {μ : List Addr} : ∀ xs : List Str, RUs K H μ (xs.map U.str) (xs.map V.str)
  | [] => .nil
  | x :: r => .cons (.str x) (RUs.strs r)
theorem b_sorted (hc : X.calm = true) : CallR X (.builtin "sorted") (rdC X.K oSorted) := by
  intro pins s σ H xs us Q I rx h
  obtain ⟨vs, m, μ, r, M, p⟩ := h
  unfold oSorted at p
  split at p
  · obtain ⟨v, rfl, r1⟩ := r.one
    split at p
    · rename_i kvs e
      split at p
      · rename_i ks e2
        split at p
        · rename_i hz
          obtain ⟨a, ws, rfl, hr, t⟩ := dc_ok M r1 e
          refine call_sortedD hc pins s σ H _ us Q I rx ⟨a, ws, ks, rfl, hr, t.keys.trans (keysS_ok e2), hz, fun ys b hp hs hb => ?_⟩
          rw [sortS_of hp hs]
          exact p.lst M (RUs.strs _) hb
        · exact no_op p
      · exact no_op p
    · split at p
      · rename_i us1 e
        split at p
        · rename_i ks e2
          split at p
          · rename_i hz
            obtain ⟨a, ws, rfl, hq, t, h1, h2⟩ := items_ok M r1 e
            cases txts_ok t e2
            cases hT : isT _ with
            | true =>
              refine call_sortedTS pins s σ H _ us Q I rx ⟨a, ks, rfl, h1 hT, hz, fun ys b hp hs hb => ?_⟩
              rw [sortS_of hp hs]
              exact p.lst M (RUs.strs _) hb
            | false =>
              refine cr_sortedS pins s σ H _ us Q I rx ⟨a, ks, rfl, h2 hT, hz, fun ys b hp hs hb => ?_⟩
              rw [sortS_of hp hs]
              exact p.lst M (RUs.strs _) hb
          · exact no_op p
        · exact no_op p
      · exact no_op p
  · exact no_op p
/-! ### == of dicts -/
def eqKs (m : Mem) (ls : KU) : KU → Option Bool
  | [] => some true
  | (k, u) :: r => match valK ls k with
    | none => some false
    | some v => match eqU m u v, eqKs m ls r with
      | some a, some b => some (a && b)
      | _, _ => none
def eqDD (m : Mem) (u v : U) : Option Bool := match dcells m u, dcells m v with
  | some ks, some ls => if ks.length = ls.length then eqKs m ls ks else some false
  | _, _ => none
def oEqD : U → U → Mem → O U := fun u v m => (eqDD m u v).map fun b => (.bl b, m)
def oNeD : U → U → Mem → O U := fun u v m => (eqDD m u v).map fun b => (.bl (!b), m)
theorem eqAt_u {pins : List (Addr × Obj)} {s : Shared} {σ : L2.St} {H : Hp} {μ : List Addr} {m : Mem} {A : Around} (I : Inv X pins σ H s) (M : MOk X.K H μ m) {u v : U} {x y : V} {a b : Value} {k : Bool} (ru : RU X.K H μ u x) (rv : RU X.K H μ v y) (ra : RelV x a) (rb : RelV y b)
    (h : eqU m u v = some k) (hu : A.units + 64 < cLine) : SeqAt.EqAt A s a b k := by
  obtain ⟨d, e, h1, h2, s1, s2, rfl⟩ := eqU_of h
  obtain ⟨as, r1⟩ := Dp.reads I d x a (dat_ok M ru h1) ra
  obtain ⟨bs, r2⟩ := Dp.reads I e y b (dat_ok M rv h2) rb
  have := SeqAt.depth_of_shaped s1
  exact SeqAt.eqAt_reads d e A s a b as bs r1 r2 (SeqAt.canLay_of_shaped s1) (SeqAt.canLay_of_shaped s2) (by omega)
theorem hits_u {pins : List (Addr × Obj)} {s : Shared} {σ : L2.St} {H : Hp} {μ : List Addr} {m : Mem} {A : Around} (I : Inv X pins σ H s) (M : MOk X.K H μ m) (hu : A.units + 64 < cLine) {ls : KU} {ls' : List (Key × V)} {vb : List (Key × Value)} (tl : PU X.K H μ ls ls') (rb : KV ls' vb) :
    ∀ {ks : KU} {ks' : List (Key × V)} {va : List (Key × Value)} {k : Bool}, PU X.K H μ ks ks' → KV ks' va → eqKs m ls ks = some k → PySem.W.KeqHits A s vb va k
  | [], ks', va, k, tk, ra, h => by
    cases tk
    cases ra
    cases h
    exact .nil
  | (key, u) :: ks, ks', va, k, tk, ra, h => by
    cases tk with
    | @cons _ q _ qs t1 t2 =>
      cases ra with
      | @cons _ z _ zs r1 r2 =>
        obtain ⟨k2, x⟩ := q
        obtain ⟨k3, a⟩ := z
        obtain ⟨e1, ru⟩ := t1
        obtain ⟨e2, rx⟩ := r1
        simp only at e1 e2 ru rx
        subst e1; subst e2
        rw [eqKs] at h
        have rr := rb.val key
        split at h
        · rename_i hv
          cases h
          rw [(tl.val key).2 hv] at rr
          have : valueAt vb key = none := by
            have := rr.isSome_eq
            cases e : valueAt vb key with
            | none => rfl
            | some y => rw [e] at this; cases this
          exact .miss this
        · rename_i v hv
          split at h
          · rename_i b1 b2 h1 h2
            cases h
            obtain ⟨y, hy, ry⟩ := (tl.val key).1 v hv
            rw [hy] at rr
            obtain ⟨w, hw, rw'⟩ := rr.some_of
            exact .hit hw (eqAt_u I M ru ry rx rw' h1 hu) (hits_u I M hu tl rb t2 r2 h2)
          · cases h
theorem eqD_run {pins : List (Addr × Obj)} {s : Shared} {σ : L2.St} {H : Hp} {μ : List Addr} {m : Mem} (I : Inv X pins σ H s) (M : MOk X.K H μ m) (hu : X.A.units + 65 < cLine) {u v : U} {x y : V} {k : Bool} (ru : RU X.K H μ u x) (rv : RU X.K H μ v y) (h : eqDD m u v = some k) :
    ∃ (a b : Addr) (va vb : List (Key × Value)) (r : Bool), x = .ref a ∧ y = .ref b ∧ (a == sysModules) = false ∧ (b == sysModules) = false ∧ s.heap.DictOf (mixKind X.prog X.w) a va ∧ s.heap.DictOf (mixKind X.prog X.w) b vb ∧
      (va.length = vb.length → PySem.W.KeqHits X.A.in1 s vb va r) ∧ k = (va.length == vb.length && r) := by
  unfold eqDD at h
  split at h
  · rename_i ks ls h1 h2
    obtain ⟨a, ks', rfl, ha, tk⟩ := dc_ok M ru h1
    obtain ⟨b, ls', rfl, hb, tl⟩ := dc_ok M rv h2
    obtain ⟨_, ya, va, ra, da⟩ := dk_rd I.hok ha
    obtain ⟨_, yb, vb, rb, db⟩ := dk_rd I.hok hb
    have la : ks.length = va.length := tk.length.trans (Paired.length ra)
    have lb : ls.length = vb.length := tl.length.trans (Paired.length rb)
    split at h
    · rename_i hl
      refine ⟨a, b, va, vb, k, rfl, rfl, ya, yb, da, db, fun _ => hits_u I M (by show X.A.units + 1 + 64 < cLine; omega) tl rb tk ra h, ?_⟩
      rw [← la, ← lb, hl]; simp
    · rename_i hl
      cases h
      refine ⟨a, b, va, vb, false, rfl, rfl, ya, yb, da, db, fun z => absurd (by omega : ks.length = ls.length) hl, ?_⟩
      simp
  · cases h
theorem x_eqD (hu : X.A.units + 65 < cLine) : OpR X (compareOp .Eq) (rd2 X.K oEqD) := by
  intro pins s σ H x y v u Q I rx ry h
  obtain ⟨u1, u2, m, μ, r1, r2, M, p⟩ := h
  unfold oEqD at p
  cases e : eqDD m u1 u2 with
  | none => rw [e] at p; exact no_op p
  | some k =>
    rw [e] at p
    obtain ⟨a, b, va, vb, r, rfl, rfl, ya, yb, da, db, hh, rfl⟩ := eqD_run I M hu r1 r2 e
    obtain rfl : v = Value.ref a := rx
    obtain rfl : u = Value.ref b := ry
    exact PySem.W.keq_eq (knd := mixKind X.prog X.w) ya yb da db (by omega) hh ⟨.bl _, H, I, rfl, p.val M (.bl _)⟩
theorem x_neD (hu : X.A.units + 65 < cLine) : OpR X (compareOp .NotEq) (rd2 X.K oNeD) := by
  intro pins s σ H x y v u Q I rx ry h
  obtain ⟨u1, u2, m, μ, r1, r2, M, p⟩ := h
  unfold oNeD at p
  cases e : eqDD m u1 u2 with
  | none => rw [e] at p; exact no_op p
  | some k =>
    rw [e] at p
    obtain ⟨a, b, va, vb, r, rfl, rfl, ya, yb, da, db, hh, rfl⟩ := eqD_run I M hu r1 r2 e
    obtain rfl : v = Value.ref a := rx
    obtain rfl : u = Value.ref b := ry
    exact PySem.W.keq_ne (knd := mixKind X.prog X.w) ya yb da db (by omega) hh ⟨.bl _, H, I, rfl, p.val M (.bl _)⟩
end
end Ev

set_option Elab.async false
set_option linter.all false
set_option maxRecDepth 100000
set_option maxHeartbeats 2000000
/-! Ev: dict comprehensions; walks over dicts, which are held fast meanwhile; slices stored. -/
namespace Ev
open PySem PySem.Spec PyProof.Rows L2 RZ LiI

/-! ### {k: v for g in s if t} -/
def dcN (nx : Nat → Mem → Option (Option U)) (g : GD) (t : XT) (fk fv : XD) (ρ : Env) : Nat → Nat → KU → Mem → O KU
  | 0, _, _, _ => none
  | n + 1, i, acc, m => match nx i m with
    | none => none
    | some none => some (acc, m)
    | some (some u) => match g u ρ m with
      | none => none
      | some (ρ1, m1) => match toO (t ρ1 m1) with
        | none => none
        | some (b, m2) => if b then match toO (fk ρ1 m2) with
            | none => none
            | some (k, m3) => match keyOf k with
              | none => none
              | some key => match toO (fv ρ1 m3) with
                | none => none
                | some (v, m4) => if acc.length < sizeLine then dcN nx g t fk fv ρ n (i + 1) (putU acc key v) m4 else none
          else dcN nx g t fk fv ρ n (i + 1) acc m2
def srcLen : Src → Nat
  | .fix us => us.length + 1
  | .dyn k _ => k
def dDc (f : ID) (g : GD) (t : XT) (fk fv : XD) (vs : List Nat) : XD := fun ρ m => (f ρ m).bind fun s m1 => match dcN s.next g t fk fv (wipeU ρ vs) (srcLen s) 0 [] m1 with
  | some (kvs, m2) => .ok (.ref m2.length) (m2 ++ [.dK kvs])
  | none => .bad
section
variable {X : Cx} {c : Nat → Addr} {W : WX} {e : Expr} {f : ID} {g0 : TG} {g : GD} {t : XT} {fk fv : XD} {vs : List Nat}
theorem se_dc (hg : GW X.K g0 g vs) (h : PE X e (tDc (rdI (wX X c) W f) g0 (rdT (wX X c) (fun _ _ _ _ => False) t) (rdE (wX X c) (fun _ _ _ _ => False) fk) (rdE (wX X c) (fun _ _ _ _ => False) fv) vs)) : SE X c W e (dDc f g t fk fv vs) := h.imp fun σ H Q q => by
  obtain ⟨ρ, m, μ, E, M, p⟩ := q
  refine ⟨ρ, m, μ, E, M, p.bind.imp fun μ1 H1 m1 src s1 M1 p1 J hJ D hD => ?_⟩
  have E1 := (E.step s1).wipe vs
  let Fin : O KU → Prop := fun o => match o with
    | some (kvs, m') => ∀ μ' H', Step X.K μ1 H1 μ' H' → MOk X.K H' μ' (m' ++ [.dK kvs]) → ∀ v, RU X.K H' μ' (.ref m'.length) v → Q v H'
    | none => False
  have fin0 : Fin (dcN src.next g t fk fv (wipeU ρ vs) (srcLen src) 0 [] m1) := by
    cases q : dcN src.next g t fk fv (wipeU ρ vs) (srcLen src) 0 [] m1 with
    | none => rw [q] at p1; exact p1
    | some z =>
      obtain ⟨kvs, m'⟩ := z
      rw [q] at p1
      exact fun μ' H' s' M' => p1 μ' H' s' M'
  refine ⟨fun i n H => ∃ (m : Mem) (μ : List Addr) (acc : KU) (accV : List (Key × V)), Step X.K μ1 H1 μ H ∧ D ∉ μ ∧ H D = some (.dK accV) ∧ PU X.K H μ acc accV ∧ MOk X.K H μ m ∧ Fin (dcN src.next g t fk fv (wipeU ρ vs) n i acc m),
    ⟨srcLen src, m1, μ1, [], [], .newT hD, M1.nin hD, upd_same, .nil, M1.newT hD, fin0⟩, ?_⟩
  rintro i n H ⟨m, μ, acc, accV, st, nD, hL, ra, M, fin⟩
  cases n with
  | zero => exact False.elim fin
  | succ n =>
    have hj := hJ i μ H m st.mono M
    rw [dcN] at fin
    cases e : src.next i m with
    | none => simp only [e] at fin; exact False.elim fin
    | some o =>
      cases o with
      | none =>
        simp only [e] at fin hj
        exact .inl ⟨hj, fin (μ ++ [D]) H (st.beside hD) (M.beside nD hL ra) _ (.ref (by rw [← M.len]; simp))⟩
      | some u =>
        simp only [e] at fin hj
        refine .inr ⟨hj.1, fun H' => ∃ (m : Mem) (μ : List Addr) (acc : KU) (accV : List (Key × V)), Step X.K μ1 H1 μ H' ∧ D ∉ μ ∧ H' D = some (.dK accV) ∧ PU X.K H' μ acc accV ∧ MOk X.K H' μ m ∧ Fin (dcN src.next g t fk fv (wipeU ρ vs) n (i + 1) acc m), fun H' z => ⟨n, Nat.lt_succ_self n, z⟩, fun x H' y => ?_⟩
        obtain ⟨s2, M2, r2⟩ := hj.2 x H' y
        have E2 := (E1.step st).step s2
        refine hg u (wipeU ρ vs) m x _ H' μ _ r2 E2 M2 ?_
        cases q1 : g u (wipeU ρ vs) m with
        | none => simp only [q1] at fin; exact False.elim fin
        | some z =>
          obtain ⟨ρ3, m3⟩ := z
          simp only [q1] at fin
          refine fun μ3 H3 s3 M3 σ3 E3 w3 => ⟨w3.trans ?_, ?_⟩
          · have idem : ∀ (σ : L2.St) (ws us : List Nat), (∀ i ∈ ws, i ∈ us) → wipe (wipe σ ws) us = wipe σ us := by
              intro σ ws
              induction ws with
              | nil => intro us _; rfl
              | cons w ws ih =>
                intro us h
                rw [show wipe σ (w :: ws) = (wipe σ ws).set w none from rfl, wipe_set (h w (by simp)), ih us fun i hi => h i (by simp [hi])]
            exact idem σ vs vs fun _ h => h
          cases q2 : toO (t ρ3 m3) with
          | none => simp only [q2] at fin; exact False.elim fin
          | some z =>
            obtain ⟨b, m4⟩ := z
            simp only [q2] at fin
            refine ⟨ρ3, m3, μ3, E3, M3, toO_post (w := wX X c) q2 fun μ4 H4 s4 M4 => ?_⟩
            have st4 := ((st.trans s2).trans s3).trans s4
            have stay4 := ((s2.trans s3).trans s4)
            have hL4 : H4 D = some (.dK accV) := stay4.keep D _ hL nD (fun ps z => by cases z)
            have nD4 := (stay4.stay D _ hL nD).1
            have ra4 := ra.step stay4
            cases b with
            | false => exact ⟨m4, μ4, acc, accV, st4, nD4, hL4, ra4, M4, fin⟩
            | true =>
              simp only [if_true] at fin ⊢
              cases q3 : toO (fk ρ3 m4) with
              | none => simp only [q3] at fin; exact False.elim fin
              | some z =>
                obtain ⟨k, m5⟩ := z
                simp only [q3] at fin
                cases qk : keyOf k with
                | none => simp only [qk] at fin; exact False.elim fin
                | some key =>
                simp only [qk] at fin
                cases q4 : toO (fv ρ3 m5) with
                | none => simp only [q4] at fin; exact False.elim fin
                | some z =>
                  obtain ⟨y, m6⟩ := z
                  simp only [q4] at fin
                  refine ⟨ρ3, m4, μ4, E3.step s4, M4, toO_post (w := wX X c) q3 fun μ5 H5 s5 M5 kx rk => ⟨ρ3, m5, μ5, (E3.step s4).step s5, M5, toO_post (w := wX X c) q4 fun μ6 H6 s6 M6 vx rv => ?_⟩⟩
                  have s56 := s5.trans s6
                  have hL6 : H6 D = some (.dK accV) := s56.keep D _ hL4 nD4 (fun ps z => by cases z)
                  have nD6 := (s56.stay D _ hL4 nD4).1
                  have ra6 := ra4.step s56
                  have st6 := st4.trans s56
                  cases keyOf_ok rk qk
                  split at fin
                  · rename_i hz
                    have mo := Mono.growD (K := X.K) (μ := μ6) (ys := putK accV key vx) hL6
                    exact ⟨accV, key, rfl, hL6, by rw [← ra6.length]; exact hz, m6, μ6, putU acc key y, putK accV key vx, st6.growD hD hL6, nD6, upd_same, (ra6.put key rv).mo mo, M6.mo mo fun a ha => by rw [upd_ne fun z : a = D => nD6 (by rw [← z]; exact ha)], fin⟩
                  · exact False.elim fin
end
/-! ### a dict is held fast while it is walked -/
structure MonoW (K : PySem.W.Frag) (μ : List Addr) (H : Hp) (μ' : List Addr) (H' : Hp) : Prop where
  ext : ∃ t, μ' = μ ++ t
  kt : ∀ a xs, SqT K H a xs → SqT K H' a xs
  fz : ∀ b o vs, H b = some (.frz o (.lst vs)) → H' b = some (.frz o (.lst vs))
section
variable {K : PySem.W.Frag} {H H' : Hp} {μ μ' : List Addr} {m : Mem}
theorem MonoW.at (s : MonoW K μ H μ' H') {n : Nat} {a : Addr} (h : μ[n]? = some a) : μ'[n]? = some a := by
  obtain ⟨t, e⟩ := s.ext
  have hl : n < μ.length := (List.getElem?_eq_some_iff.mp h).1
  rw [e, List.getElem?_append_left hl]
  exact h
mutual
theorem RU.mw (s : MonoW K μ H μ' H') : ∀ {u : U} {v : V}, RU K H μ u v → RU K H' μ' u v
  | _, _, .non => .non
  | _, _, .bl b => .bl b
  | _, _, .int i => .int i
  | _, _, .str x => .str x
  | _, _, .tup h t => .tup (s.kt _ _ h) (RUs.mw s t)
  | _, _, .rol h t => .rol (h.imp (fun ⟨o, q⟩ => ⟨o, s.fz _ _ _ q⟩) id) (RUs.mw s t)
  | _, _, .ref h => .ref (s.at h)
  | _, _, .ob v => .ob v
theorem RUs.mw (s : MonoW K μ H μ' H') : ∀ {us : List U} {vs : List V}, RUs K H μ us vs → RUs K H' μ' us vs
  | _, _, .nil => .nil
  | _, _, .cons h t => .cons (RU.mw s h) (RUs.mw s t)
end
theorem COk.mw {c : Cell} {a : Addr} (s : MonoW K μ H μ' H') (e : H' a = H a) (h : COk K H μ c a) : COk K H' μ' c a := by
  cases c with
  | lst us => obtain ⟨vs, q, r⟩ := h; exact ⟨vs, e.trans q, r.mw s⟩
  | dK kvs => obtain ⟨vs, q, r⟩ := h; exact ⟨vs, e.trans q, Paired.mapP r fun p q z => ⟨z.1, z.2.mw s⟩⟩
  | dT kvs => obtain ⟨vs, q, r⟩ := h; exact ⟨vs, e.trans q, Paired.mapP r fun p q z => ⟨z.1, z.2.mw s⟩⟩
  | dF kvs => obtain ⟨o, vs, q, r⟩ := h; exact ⟨o, vs, e.trans q, Paired.mapP r fun p q z => ⟨z.1, z.2.mw s⟩⟩
theorem MonoW.unlock {a : Addr} {od : Obj} {vs : List (Key × V)} (hf : H a = some (.frz od (.dK vs))) : MonoW K μ H μ (upd H a (.dK vs)) := by
  refine ⟨⟨[], by simp⟩, fun b xs h => ?_, fun b o us h => ?_⟩
  · rcases h with (h | ⟨u, h⟩) | h
    · exact .inl (.inl (by rw [upd_ne fun z => by subst z; rw [hf] at h; cases h]; exact h))
    · exact .inl (.inr ⟨u, by rw [upd_ne fun z => by subst z; rw [hf] at h; cases h]; exact h⟩)
    · exact .inr h
  · rw [upd_ne fun z => by subst z; rw [hf] at h; cases h]; exact h
theorem MOk.unlock (M : MOk K H μ m) {n : Nat} {a : Addr} {od : Obj} {vs : List (Key × V)} {kvs : KU} (hn : μ[n]? = some a) (hf : H a = some (.frz od (.dK vs))) (t : PU K (upd H a (.dK vs)) μ kvs vs) : MOk K (upd H a (.dK vs)) μ (m.set n (.dK kvs)) := by
  refine ⟨by simp [M.len], M.nd, fun k b d h1 h2 => ?_⟩
  by_cases hk : k = n
  · subst hk
    have hl : k < m.length := by rw [← M.len]; exact (List.getElem?_eq_some_iff.mp hn).1
    rw [List.getElem?_set_self hl] at h2
    cases h2
    rw [hn] at h1; cases h1
    exact ⟨vs, upd_same, t⟩
  · rw [List.getElem?_set_ne (Ne.symm hk)] at h2
    refine (M.cell k b d h1 h2).mw (MonoW.unlock hf) ?_
    rw [upd_ne fun z => hk (nodup_inj M.nd h1 (by rw [z]; exact hn))]
theorem Step.unlock {a : Addr} {od : Obj} {vs : List (Key × V)} (ha : a ∈ μ) (hq : H a = some (.dK vs)) (s : Step K μ (upd H a (.frz od (.dK vs))) μ' H') : Step K μ H μ' (upd H' a (.dK vs)) := by
  have hf : H' a = some (.frz od (.dK vs)) := s.fz _ _ _ upd_same
  refine ⟨s.ext, fun b o h n hp => ?_, fun b o h n => ?_, fun b xs h => ?_, fun b o u h => ?_⟩
  · have hb : b ≠ a := fun z => n (z ▸ ha)
    rw [upd_ne hb]
    exact s.keep b o (by rw [upd_ne hb]; exact h) n hp
  · have hb : b ≠ a := fun z => n (z ▸ ha)
    obtain ⟨h1, o', h2⟩ := s.stay b o (by rw [upd_ne hb]; exact h) n
    exact ⟨h1, o', by rw [upd_ne hb]; exact h2⟩
  · exact (MonoW.unlock (K := K) (μ := μ') hf).kt b xs (s.kt b xs (kt_set hq rfl b xs h))
  · have hb : b ≠ a := fun z => by subst z; rw [hq] at h; cases h
    rw [upd_ne hb]
    exact s.fz _ _ _ (by rw [upd_ne hb]; exact h)
end
def lockE (i : Nat) (f : XD) : XD := fun ρ m => match ρ[i]? with
  | some (some (.ref n)) => match m[n]? with
    | some (.dK kvs) => match f ρ (m.set n (.dF kvs)) with
      | .ok u m' => .ok u (m'.set n (.dK kvs))
      | _ => .bad
    | _ => .bad
  | _ => .bad
section
variable {X : Cx} {c : Nat → Addr} {W : WX} {f : XD} {o e : Expr}
theorem se_lock {st : Expr} {i : Nat} (h : SE X c W st f) : SE X c W st (lockE i f) :=
  (pe_lock h).imp fun σ H Q ⟨ρ, m, μ, E, M, p⟩ => by
    unfold lockE at p
    split at p
    · rename_i n hρ
      split at p
      · rename_i kvs hm
        obtain ⟨v, hv, rv⟩ := E.at_ i _ hρ
        cases rv with
        | @ref _ a hn =>
          obtain ⟨vs, hq, t⟩ := M.cell _ _ _ hn hm
          have ha := List.mem_of_getElem? hn
          refine ⟨a, .dK vs, hq, trivial, fun od => ?_⟩
          have s : Step X.K μ H μ (upd H a (.frz od (.dK vs))) := .set ha hq rfl
          refine ⟨ρ, m.set n (.dF kvs), μ, E.step s, M.set hn hq rfl ⟨od, vs, upd_same, PU.step t s⟩, ?_⟩
          cases q : f ρ (m.set n (.dF kvs)) with
          | bad => rw [q] at p; exact p
          | err x m1 => rw [q] at p; exact False.elim p
          | ok u m' =>
            rw [q] at p
            intro μ' H' s1 M' v r
            have hf : H' a = some (.frz od (.dK vs)) := s1.fz _ _ _ upd_same
            have hn' := s1.mono.at hn
            have mw := MonoW.unlock (K := X.K) (μ := μ') hf
            exact ⟨hf, p μ' _ (Step.unlock ha hq s1) (M'.unlock hn' hf (Paired.mapP (PU.step (PU.step t s) s1) fun _ _ z => ⟨z.1, z.2.mw mw⟩)) v (r.mw mw)⟩
      · exact False.elim p
    · exact False.elim p
/-- for k in d -/
def iKeysF (f : XD) : ID := fun ρ m => (f ρ m).bind fun u m1 => match u with
  | .ref n => match m1[n]? with
    | some (.dF kvs) => .ok (.fix (kvs.map fun kv => keyU kv.1)) m1
    | _ => .bad
  | _ => .bad
theorem PU.get {K : PySem.W.Frag} {H : Hp} {μ : List Addr} : ∀ {kvs : KU} {vs : List (Key × V)} {i : Nat} {kv : Key × U}, PU K H μ kvs vs → kvs[i]? = some kv → ∃ v, vs[i]? = some (kv.1, v) ∧ RU K H μ kv.2 v
  | _, _, _, _, .nil, e => by simp at e
  | _, _, 0, _, .cons (b := q) h _, e => by
    simp at e; subst e
    obtain ⟨k, v⟩ := q
    exact ⟨v, by rw [h.1]; rfl, h.2⟩
  | _, _, i + 1, _, .cons _ t, e => by
    obtain ⟨v, h1, h2⟩ := PU.get (i := i) t (by simpa using e)
    exact ⟨v, by simpa using h1, h2⟩
theorem si_keysF {tg : Expr} (h : SE X c W e f) : SI X c W tg e (iKeysF f) :=
  (pi_keys h).imp fun σ H R ⟨ρ, m, μ, E, M, p⟩ => ⟨ρ, m, μ, E, M, p.bind.imp fun μ1 H1 m1 u s1 M1 p1 v r => by
    split at p1
    · rename_i n
      split at p1
      · rename_i kvs hm
        cases r with
        | @ref _ a hn =>
          obtain ⟨o, vs, hq, t⟩ := M1.cell _ _ _ hn hm
          refine ⟨a, o, rfl, .inl ⟨vs, hq, p1.ok_at M1 _ (wk_fix fun i μ2 H2 m2 mo M2 hi => ?_)⟩⟩
          have hq2 := mo.fz _ _ _ hq
          rw [List.getElem?_map]
          cases e : kvs[i]? with
          | none => exact ⟨hq2, by rw [← PU.length t]; exact List.getElem?_eq_none_iff.mp e⟩
          | some kv =>
            obtain ⟨w, h1, h2⟩ := PU.get (PU.mo t mo) e
            refine ⟨⟨hq2, (List.getElem?_eq_some_iff.mp h1).1⟩, fun x H' y => ?_⟩
            obtain ⟨rfl, k, v, e2, rfl⟩ := y
            rw [h1] at e2
            cases e2
            exact ⟨.refl, M2, keyU_ok _⟩
      · exact False.elim p1
    · exact False.elim p1⟩
/-- for k, v in d.items() -/
def iItemsF (f : XD) : ID := fun ρ m => (f ρ m).bind fun u m1 => match u with
  | .ref n => match m1[n]? with
    | some (.dF kvs) => .ok (.fix (kvs.map pairU)) m1
    | _ => .bad
  | _ => .bad
theorem si_itemsF {tg st : Expr} (h : PI X tg st (iItems (rdE (wX X c) W f))) : SI X c W tg st (iItemsF f) :=
  h.imp fun σ H R ⟨ρ, m, μ, E, M, p⟩ => ⟨ρ, m, μ, E, M, p.bind.imp fun μ1 H1 m1 u s1 M1 p1 v r => by
    split at p1
    · rename_i n
      split at p1
      · rename_i kvs hm
        cases r with
        | @ref _ a hn =>
          obtain ⟨o, vs, hq, t⟩ := M1.cell _ _ _ hn hm
          refine ⟨a, o, vs, rfl, hq, p1.ok_at M1 _ (wk_fix fun i μ2 H2 m2 mo M2 hi => ?_)⟩
          have hq2 := mo.fz _ _ _ hq
          rw [List.getElem?_map]
          cases e : kvs[i]? with
          | none => exact ⟨hq2, by rw [← PU.length t]; exact List.getElem?_eq_none_iff.mp e⟩
          | some kv =>
            obtain ⟨w, h1, h2⟩ := PU.get (PU.mo t mo) e
            refine ⟨⟨hq2, (List.getElem?_eq_some_iff.mp h1).1⟩, fun x H' y => ?_⟩
            obtain ⟨T, k, v, e2, rfl, hT, rfl⟩ := y
            rw [h1] at e2
            cases e2
            exact pair_new M2 hT (keyU_ok _) h2
      · exact False.elim p1
    · exact False.elim p1⟩
/-! ### xs[i:j] = ys -/
def oSetSl (o : U) (l h : Option Int) (v : U) (m : Mem) : O Unit := match o, l, h, v with
  | .ref n, some i, some j, .ref k => match m[n]?, m[k]? with
    | some (.lst us), some (.lst ws) => if n ≠ k ∧ 0 ≤ i ∧ i ≤ j ∧ j ≤ us.length ∧ us.length + ws.length ≤ sizeLine then some ((), m.set n (.lst (us.take i.toNat ++ ws ++ us.drop j.toNat))) else none
    | _, _ => none
  | _, _, _, _ => none
def sSetSl (fv fo : XD) (fl fh : Env → Mem → R (Option Int)) : SD := fun ρ m => thenE (fv ρ m) ρ fun v m1 => thenE (fo ρ m1) ρ fun o m2 => thenE (fl ρ m2) ρ fun l m3 => thenE (fh ρ m3) ρ fun h m4 => thenO (oSetSl o l h v m4) fun _ m5 => .ok .nx ρ m5
theorem ps_slput {o value : Expr} {lo hi : Option Expr} {p2 pos' pos : Pos} {td tv : TE} {tl th : TO} (hv : PE X value tv) (ho : PE X o td) (hl : PO X lo tl) (hh : PO X hi th) (hs : swapsWith value (some (.Subscript o (.Slice lo hi none p2) pos')) pos.line X.env = pure false) :
    PS X (.Assign [.Subscript o (.Slice lo hi none p2) pos'] value pos) (fun D σ H => tv σ H fun v H1 => td σ H1 fun x H2 => tl σ H2 fun l H3 => th σ H3 fun h H4 => ∃ (a b : Addr) (xs ys : List V) (i j : Int), x = .ref a ∧ v = .ref b ∧ l = some i ∧ h = some j ∧
      H4 a = some (.lst xs) ∧ H4 b = some (.lst ys) ∧ a ≠ b ∧ 0 ≤ i ∧ i ≤ j ∧ j ≤ xs.length ∧ xs.length + ys.length ≤ sizeLine ∧ D.nx σ (upd H4 a (.lst (xs.take i.toNat ++ ys ++ xs.drop j.toNat)))) := by
  refine ⟨fun pins s σ H D I h => ?_⟩
  refine wpAny_Assign_Subscript (thn (hv.run pins s σ H _ I h) fun r s1 ⟨v, H1, I1, rv, q1⟩ => thn (ho.run pins s1 σ H1 _ I1 q1) fun u s2 ⟨x, H2, I2, rx, q2⟩ => wpAny_Slice (thn (hl.run pins s2 σ H2 _ I2 q2) fun vl s3 ⟨l, H3, I3, pl, q3⟩ => thn (hh.run pins s3 σ H3 _ I3 q3) fun vu s4 ⟨hh', H4, I4, pu, q4⟩ => ?_)) hs
  rw [evalPart_none]
  refine wpAny_pure ?_
  obtain ⟨a, b, xs, ys, i, j, rfl, rfl, rfl, rfl, ha, hb, hne, h0, hij, hj, hz, q⟩ := q4
  obtain rfl : u = Value.ref a := rx
  obtain rfl : r = Value.ref b := rv
  have I5 : Inv X pins σ H4 { s4 with heap := s4.heap.push { cls := .type "slice", data := .fields #[vl, vu, .none] } } := I4.kept (t' := s4.toks) fun b ob q => Heap.get?_push_of_some _ q
  cases pl with
  | int _ t1 =>
    cases pu with
    | int _ t2 => exact set_slice I5 ha hb hne (Heap.IsSliceOf.new ..) ⟨t1, rfl⟩ ⟨t2, rfl⟩ h0 hij hj hz fun s' I' => ⟨σ, _, I', q⟩
theorem ss_setSl {o value : Expr} {lo hi : Option Expr} {p2 pos' pos : Pos} {fv fo : XD} {fl fh : Env → Mem → R (Option Int)} (hv : SE X c W value fv) (ho : SE X c W o fo) (hl : SP X c W lo fl) (hh : SP X c W hi fh) (hs : swapsWith value (some (.Subscript o (.Slice lo hi none p2) pos')) pos.line X.env = pure false) :
    SS X c W (.Assign [.Subscript o (.Slice lo hi none p2) pos'] value pos) (sSetSl fv fo fl fh) :=
  (ps_slput hv ho hl hh hs).imp fun D σ H ⟨ρ, m, μ, E, M, p⟩ => ⟨ρ, m, μ, E, M, (PostS.thenE E p).imp fun μ1 H1 m1 v s1 M1 p1 vv rv => ⟨ρ, m1, μ1, E.step s1, M1, (PostS.thenE (E.step s1) p1).imp fun μ2 H2 m2 o s2 M2 p2 vo ro =>
    ⟨ρ, m2, μ2, (E.step s1).step s2, M2, (PostS.thenE ((E.step s1).step s2) p2).imp fun μ3 H3 m3 l s3 M3 p3 => ⟨ρ, m3, μ3, ((E.step s1).step s2).step s3, M3, (PostS.thenE (((E.step s1).step s2).step s3) p3).imp fun μ4 H4 m4 h s4 M4 p4 => by
      have p4 := PostS.thenO p4
      unfold oSetSl at p4
      split at p4
      · rename_i n i j k _
        split at p4
        · rename_i us ws h1 h2
          split at p4
          · rename_i hz
            obtain ⟨hnk, h0, hij, hj, hl⟩ := hz
            obtain ⟨a, xs, rfl, hn, hq, t⟩ := ((ro.step s3).step s4).cl M4 h1
            obtain ⟨b, ys, rfl, hk, hq2, t2⟩ := (((rv.step s2).step s3).step s4).cl M4 h2
            have s : Step X.K μ4 H4 μ4 (upd H4 a (.lst (xs.take i.toNat ++ ys ++ xs.drop j.toNat))) := .set (List.mem_of_getElem? hn) hq rfl
            have M5 := M4.set hn hq rfl (o := .lst (xs.take i.toNat ++ ys ++ xs.drop j.toNat)) (c := .lst (us.take i.toNat ++ ws ++ us.drop j.toNat)) ⟨_, upd_same, (((t.take _).append t2).append (t.drop _)).step s⟩
            exact ⟨a, b, xs, ys, i, j, rfl, rfl, rfl, rfl, hq, hq2, fun z => hnk (nodup_inj M4.nd hn (z ▸ hk)), h0, hij, by rw [← t.length]; exact hj, by rw [← t.length, ← t2.length]; exact hl, (p4 μ4 _ s M5).nx M5 ((((E.step s1).step s2).step s3).step s4 |>.step s)⟩
          · exact no_op p4
        · exact no_op p4
      · exact no_op p4⟩⟩⟩⟩
end
end Ev

set_option Elab.async false
set_option linter.all false
set_option maxRecDepth 100000
set_option maxHeartbeats 2000000
/-! Ev: a written dict of defs: in it or not, and the def at a key called by a local name. -/
namespace Ev
open PySem PySem.Spec PyProof.Rows L2 RZ LiI

abbrev TabU := List (Str × (List U → Mem → R U))
def tabAt (tab : TabU) (z : Str) : Option (List U → Mem → R U) := (tab.find? fun p => decide (p.1 = z)).map (·.2)
/-- what is known of the written dict at aJ -/
structure TabOk (P : Program) (w : World) (K : PySem.W.Frag) (mg : Str → Option Value) (base : Heap) (c : Nat → Addr) (k : Nat) (aJ : Addr) (tab : TabU) : Prop where
  kd : ∃ es n, KDict K w aJ es n
  fn : ∀ z F, tabAt tab z = some F → ∃ (f : Addr) (fd : FuncData) (ps : List Str), PySem.W.nsIn K aJ z = some (some (.ref f)) ∧ FnOk P w K mg base (L2.CX P w) k f fd ps (spF K c 1 F) ∧ PySem.W.keepIn K (.ref f) = true ∧ Binds K fd ps [] ∧ ∀ us m, us.length ≠ 1 → F us m = .bad
/-- z not in the dict, where z is one of its keys -/
def oTabNot (tab : TabU) (u : U) (m : Mem) : O U := match u with
  | .str z => match tabAt tab z with
    | some _ => some (.bl false, m)
    | none => none
  | _ => none
def sJudge (tab : TabU) (i : Nat) (fx fa : XD) : SD := fun ρ m => if i < ρ.length then thenE (fx ρ m) ρ fun k m1 => match k with
  | .str z => match tabAt tab z with
    | some F => thenE (fa (ρ.set i none) m1) (ρ.set i none) fun u m2 => thenE (F [u] m2) (ρ.set i none) fun r m3 => .ok (.rt r) (ρ.set i none) m3
    | none => .bad
  | _ => .bad else .bad
section
variable {X : Cx} {c : Nat → Addr} {W : WX} {fx fa : XD} {k : Nat} {aJ : Addr} {tab : TabU}
theorem tabNot_of (T : TabOk X.prog X.w X.K X.mg X.base c k aJ tab) {σ : L2.St} {H : Hp} {Q : VK} (q : rdE (wX X c) W (dUn (oTabNot tab) fa) σ H Q) :
    tOp (fun x y H Q => ∃ (z : Str) (r : Option Value), x = .str z ∧ y = .ref aJ ∧ PySem.W.nsIn X.K aJ z = some r ∧ Q (.bl (!r.isSome)) H) (rdE (wX X c) W fa) (tC (.ref aJ)) σ H Q := by
  obtain ⟨ρ, m, μ, E, M, p⟩ := q
  refine ⟨ρ, m, μ, E, M, p.bind.imp fun μ1 H1 m1 u s1 M1 p1 v r1 => ?_⟩
  have q := p1.o
  unfold oTabNot at q
  split at q
  · rename_i z
    split at q
    · rename_i F e
      obtain ⟨f, fd, ps, h1, _⟩ := T.fn z F e
      cases r1
      exact ⟨z, _, rfl, rfl, h1, q.val M1 (.bl _)⟩
    · exact no_op q
  · exact no_op q
theorem se_tabNot {a : Expr} {x : Str} {px pos : Pos} (T : TabOk X.prog X.w X.K X.mg X.base c k aJ tab) (hg : Gl X x) (hm : X.mg x = some (.ref aJ)) (ha : SE X c W a fa) (hn : behindInMarks .NotIn (.Name x px) = false) (hd : (x == ("__debug__" : Str)) = false := by decide) :
    SE X c W (.Compare a [.NotIn] [.Name x px] pos) (dUn (oTabNot tab) fa) := by
  obtain ⟨es, n, D⟩ := T.kd
  exact (pe_cmpR (op_notIn_kd D) ha (pe_glob (v := .ref aJ) hg hm rfl hd) hn).imp fun σ H Q q => tabNot_of T q
theorem st_tabNot {a : Expr} {x : Str} {px pos : Pos} (T : TabOk X.prog X.w X.K X.mg X.base c k aJ tab) (hg : Gl X x) (hm : X.mg x = some (.ref aJ)) (ha : SE X c W a fa) (hn : behindInMarks .NotIn (.Name x px) = false) (hd : (x == ("__debug__" : Str)) = false := by decide) :
    ST X c W (.Compare a [.NotIn] [.Name x px] pos) (tBl (dUn (oTabNot tab) fa)) := by
  obtain ⟨es, n, D⟩ := T.kd
  exact (pt_cmpR (op_notIn_kd D) ha (pe_glob (v := .ref aJ) hg hm rfl hd) hn).imp fun σ H Q q => rdB_of (fun σ H Q q => tabNot_of T q) q
/-- the call of a local name that holds a def -/
theorem pe_callTab {i : Nat} {x : Str} {p pos : Pos} {e : Expr} {es : List Expr} {t : TA} (hr : Room k X.A) (hN : X.N[i]? = some x) (hv : Vis X.env.scope x) (hx : ∀ σ, PassesAt (L2.CX X.prog X.w) X σ (WE W σ)) (ha : PA X (e :: es) t)
    (hdb : (x == ("__debug__" : Str)) = false := by decide) (hcd : (x == ("__classdict__" : Str)) = false := by decide)
    (he : starEach (e :: es) X.env = (false, eval e X.env) :: starEach es X.env := by rfl) (hpl : (backTo pos (starEach es X.env)).any (·.1) = false := by rfl) :
    PE X (.Call (.Name x p) (e :: es) [] pos) (fun σ H Q => ∃ (f : Addr) (sp : Sp) (fd : FuncData) (ps : List Str), σ[i]? = some (some (.ref f)) ∧ FnOk X.prog X.w X.K X.mg X.base (L2.CX X.prog X.w) k f fd ps sp ∧ PySem.W.keepIn X.K (.ref f) = true ∧ Binds X.K fd ps [] ∧ t σ H fun vs H1 => sp vs H1 Q (WE W σ)) := by
  refine ⟨fun pins s σ H Q I h => ?_⟩
  obtain ⟨f, sp, fd, ps, hs, F, hk, hb, ht⟩ := h
  refine wpAny_Call_Name_kw (thn ((pe_var (pos := p) hN hv hdb hcd).run pins s σ H (fun v H1 => v = .ref f ∧ H1 = H) I ⟨.ref f, hs, rfl, rfl⟩) fun u s1 ⟨v, H1, I1, r1, q1⟩ => ?_)
  obtain ⟨rfl, rfl⟩ := q1
  cases r1
  refine PySem.W.callWith_K (h₀ := X.base) I.ok.mod.kin hk (thn (ha.run pos pins s1 σ _ _ I1 ht) fun us s2 ⟨vs, H2, I2, r, q⟩ => ⟨I2.kIn, ?_⟩) he hpl
  exact run_fnS F hr hb (hx σ) I2 r q
theorem EOk.hide {K : PySem.W.Frag} {H : Hp} {μ : List Addr} {ρ : Env} {σ : L2.St} (E : EOk K H μ ρ σ) (i : Nat) (v : V) : EOk K H μ (ρ.set i none) (σ.set i (some v)) := by
  refine ⟨by simp [E.len], fun j w h => ?_⟩
  by_cases hj : j = i
  · subst hj
    by_cases hl : j < ρ.length
    · rw [List.getElem?_set_self hl] at h; cases h
    · rw [List.getElem?_eq_none (by simpa using hl)] at h; cases h
  · rw [List.getElem?_set_ne (Ne.symm hj)] at h
    obtain ⟨x, e, q⟩ := E.at_ j w h
    exact ⟨x, by rw [List.getElem?_set_ne (Ne.symm hj)]; exact e, q⟩
theorem sb_judge {i : Nat} {y xJ : Str} {py pJ p1 p2 p3 p4 p5 : Pos} {ix arg : Expr} (T : TabOk X.prog X.w X.K X.mg X.base c k aJ tab) (hc : X.N.Nodup) (hi : X.N[i]? = some y) (hy : Loc X.env.scope y) (hv : Vis X.env.scope y) (hg : Gl X xJ) (hm : X.mg xJ = some (.ref aJ)) (hr : Room k X.A)
    (hx : ∀ σ, PassesAt (L2.CX X.prog X.w) X σ (WE W σ)) (hix : SE X c W ix fx) (harg : SE X c W arg fa) (hpl : PlainIx ix)
    (hs : swapsWith (.Subscript (.Name xJ pJ) ix p1) (some (.Name y py)) p2.line X.env = pure false := by rfl) (hf : X.fn y = true ∨ X.env.scope.names.lookup y = some .local := by first | exact .inl rfl | exact .inr rfl | assumption)
    (hdb : (y == ("__debug__" : Str)) = false := by decide) (hcd : (y == ("__classdict__" : Str)) = false := by decide) (hdJ : (xJ == ("__debug__" : Str)) = false := by decide)
    (he : starEach [arg] X.env = (false, eval arg X.env) :: starEach [] X.env := by rfl) :
    SB X c W [.Assign [.Name y py] (.Subscript (.Name xJ pJ) ix p1) p2, .Return (some (.Call (.Name y p3) [arg] [] p4)) p5] (sJudge tab i fx fa) := by
  have h1 := ps_set (pos' := py) (pos := p2) hc hi hy (pe_ix (pos := p1) (ix_kdict (X := X)) (pe_glob (X := X) (pos := pJ) (v := .ref aJ) hg hm rfl hdJ) hix hpl) hs hf
  have h2 := ps_ret (pos := p5) (pe_callTab (W := W) (p := p3) (pos := p4) hr hi hv hx (pa_cons harg pa_nil he) hdb hcd he rfl)
  refine (pss_cons h1 (pss_one h2)).imp fun D σ H ⟨ρ, m, μ, E, M, p⟩ => ?_
  unfold sJudge at p
  split at p
  · rename_i hl
    refine ⟨ρ, m, μ, E, M, (PostS.thenE E p).imp fun μ1 H1 m1 u s1 M1 p1 v r1 => ?_⟩
    split at p1
    · rename_i z
      split at p1
      · rename_i F e
        obtain ⟨f, fd, ps, hn, FO, hk, hb, hF⟩ := T.fn z F e
        obtain ⟨es, n, D'⟩ := T.kd
        cases r1
        refine ⟨aJ, z, .ref f, rfl, rfl, ⟨es, n, _, D'.at_, D'.lit, hn, rfl⟩, ?_⟩
        have E1 := (E.step s1).hide i (.ref f)
        refine ⟨f, spF X.K c 1 F, fd, ps, by rw [List.getElem?_set_self (by rw [← E.len]; exact hl)], FO, hk, hb, ?_⟩
        refine ⟨ρ.set i none, m1, μ1, E1, M1, (PostS.thenE E1 p1).imp fun μ2 H2 m2 u2 s2 M2 p2 v2 r2 => ?_⟩
        refine ⟨rfl, [u2], m2, μ2, .cons r2 .nil, M2, ?_⟩
        have p3 := PostS.thenE (E1.step s2) p2
        cases q : F [u2] m2 with
        | bad => rw [q] at p3; exact p3
        | err x m3 =>
          rw [q] at p3
          exact fun μ3 H3 d s3 M3 e3 => p3 μ3 H3 d s3 M3 e3
        | ok r m3 =>
          rw [q] at p3
          exact fun μ3 H3 s3 M3 v r => p3 μ3 H3 s3 M3 μ3 H3 _ .refl M3 ((E1.step s2).step s3) v r
      · exact False.elim p1
    · exact False.elim p1
  · exact False.elim p
end
/-! ### a, b, c = x, y, z -/
def sPar3 (i j l : Nat) (f : XL) : SD := fun ρ m => thenE (f ρ m) ρ fun us m1 => match us with
  | [u, v, w] => .ok .nx (((ρ.set i (some u)).set j (some v)).set l (some w)) m1
  | _ => .bad
section
variable {X : Cx} {c : Nat → Addr} {W : WX}
theorem ss_par3 {i j l : Nat} {st : Stmt} {fl : XL} (hps : PS X st (tPar3 i j l (rdL (wX X c) W fl))) : SS X c W st (sPar3 i j l fl) :=
  hps.imp fun D σ H ⟨ρ, m, μ, E, M, p⟩ => ⟨ρ, m, μ, E, M, (PostS.thenE E p).imp fun μ1 H1 m1 us s1 M1 p1 vs r => by
    cases r with
    | nil => exact False.elim p1
    | cons r1 r =>
      cases r with
      | nil => exact False.elim p1
      | cons r2 r =>
        cases r with
        | nil => exact False.elim p1
        | cons r3 r =>
          cases r with
          | nil => exact ⟨_, _, _, rfl, p1.nx M1 ((((E.step s1).set r1).set r2).set r3)⟩
          | cons _ _ => exact False.elim p1⟩
/-- f() -/
theorem pe_callS0 {CX : CXT} {k : Nat} {f : Addr} {fd : FuncData} {ps : List Str} {sp : Sp} {E : L2.St → XK} {x : Str} {p pos : Pos} (F : FnOk X.prog X.w X.K X.mg X.base CX k f fd ps sp) (hr : Room k X.A) (hg : Gl X x) (hm : X.mg x = some (.ref f)) (hk : PySem.W.keepIn X.K (.ref f) = true) (hb : Binds X.K fd ps []) (hx : ∀ σ, PassesAt CX X σ (E σ))
    (hdb : (x == ("__debug__" : Str)) = false := by decide) : PE X (.Call (.Name x p) [] [] pos) (tCallS sp E tNil) := by
  refine ⟨fun pins s σ H Q I h => ?_⟩
  refine wpAny_Call_Name_kw (ld_glob I hg hm ?_ hdb)
  exact PySem.W.callWith_K0 I.kIn hk (run_fnS (us := []) F hr hb (hx σ) I .nil h)
theorem se_call0 {st : Expr} {F : List U → Mem → R U} (h : PE X st (tCallS (spF X.K c 0 F) (WE W) tNil)) : SE X c W st (dCall F lNil) :=
  h.imp fun σ H Q ⟨ρ, m, μ, E, M, p⟩ => by
    have p1 : Post (wX X c) W σ μ H (F [] m) _ := p
    refine ⟨rfl, [], m, μ, .nil, M, ?_⟩
    cases q : F [] m with
    | ok u m2 => rw [q] at p1; exact p1
    | err x m2 => rw [q] at p1; exact p1
    | bad => rw [q] at p1; exact p1
end
theorem u1 {k : Nat} {A : Around} (hr : Room k A) : A.units + 1 < cLine := by have := hr.un; omega
theorem tab_nil {G : Str → (List U → Mem → R U) → Prop} : ∀ z F, tabAt [] z = some F → G z F := fun _ _ h => by cases h
theorem tab_cons {G : Str → (List U → Mem → R U) → Prop} {z : Str} {F : List U → Mem → R U} {tab : TabU} (h : G z F) (t : ∀ z F, tabAt tab z = some F → G z F) : ∀ z' F', tabAt ((z, F) :: tab) z' = some F' → G z' F' := fun z' F' e => by
  by_cases hz : z = z'
  · subst hz
    have : F = F' := by simpa [tabAt] using e
    exact this ▸ h
  · exact t z' F' (by simpa [tabAt, hz] using e)
end Ev

set_option Elab.async false
set_option linter.all false
set_option maxRecDepth 100000
set_option maxHeartbeats 2000000
/-! Ev: trees (dicts from texts to tuples of ints) and texts, reckoned with by rewriting. -/
namespace Ev
open PySem PySem.Spec PyProof.Rows L2 RZ

/-! ### texts -/
theorem eqU_s {m : Mem} {x y : Str} (hx : PyData.strOk x = true) (hy : PyData.strOk y = true) : eqU m (.str x) (.str y) = some (decide (x = y)) := by
  show (if SeqAt.shaped (.str x) && SeqAt.shaped (.str y) then some (PyData.eqv (.str x) (.str y)) else none) = _
  have h1 : SeqAt.shaped (.str x) = true := by simp [SeqAt.shaped, PyData.canLay0, hx, PyData.depth]
  have h2 : SeqAt.shaped (.str y) = true := by simp [SeqAt.shaped, PyData.canLay0, hy, PyData.depth]
  rw [h1, h2]
  show some (x == y) = _
  by_cases h : x = y
  · subst h; simp
  · simp [h]
/-- texts all of which are in order -/
abbrev tS (l : List Str) : U := .tup (l.map .str)
abbrev cS (l : List Str) : Cell := .lst (l.map .str)
theorem datRL_strs (res : Nat → Option PyData) : ∀ l : List Str, datRL res (l.map .str) = some (l.map .str)
  | [] => rfl
  | i :: r => by
    show (match datR res (.str i) with | none => none | some d => (datRL res (r.map .str)).map (d :: ·)) = _
    rw [datRL_strs res r]; rfl
theorem canAll_strs : ∀ l : List Str, (∀ x ∈ l, PyData.strOk x = true) → PyData.canLayAll0 (l.map .str) = true
  | [], _ => rfl
  | i :: r, h => by
    show (PyData.strOk i && PyData.canLayAll0 (r.map .str)) = true
    rw [h i (List.mem_cons_self ..), canAll_strs r fun x hx => h x (List.mem_cons_of_mem _ hx)]; rfl
theorem depth_strs : ∀ l : List Str, PyData.depthAll (l.map .str) = 0
  | [] => rfl
  | i :: r => by simp [PyData.depthAll, PyData.depth, depth_strs r]
theorem shaped_tS {l : List Str} (h : ∀ x ∈ l, PyData.strOk x = true) : SeqAt.shaped (.tuple (l.map .str)) = true := by
  simp [SeqAt.shaped, PyData.canLay0, PyData.depth, canAll_strs l h, depth_strs]
theorem shaped_lS {l : List Str} (h : ∀ x ∈ l, PyData.strOk x = true) : SeqAt.shaped (.list (l.map .str)) = true := by
  simp [SeqAt.shaped, PyData.canLay0, PyData.depth, canAll_strs l h, depth_strs]
theorem eqvAll_strs : ∀ a b : List Str, PyData.eqvAll (a.map .str) (b.map .str) = decide (a = b)
  | [], [] => rfl
  | [], _ :: _ => rfl
  | _ :: _, [] => rfl
  | x :: a, y :: b => by
    show (PyData.eqv (.str x) (.str y) && PyData.eqvAll (a.map .str) (b.map .str)) = _
    rw [eqvAll_strs a b]
    show ((x == y) && _) = _
    by_cases h : x = y
    · subst h; simp
    · simp [h]
theorem dat_tS (m : Mem) (l : List Str) : dat m (tS l) = some (.tuple (l.map .str)) := by
  show (datRL (resM m 6) (l.map .str)).map PyData.tuple = _
  rw [datRL_strs]; rfl
theorem eqU_tS {m : Mem} {a b : List Str} (ha : ∀ x ∈ a, PyData.strOk x = true) (hb : ∀ x ∈ b, PyData.strOk x = true) : eqU m (tS a) (tS b) = some (decide (a = b)) := by
  unfold eqU
  simp only [dat_tS, shaped_tS ha, shaped_tS hb, Bool.and_true, if_true]
  show some (PyData.eqvAll (a.map .str) (b.map .str)) = _
  rw [eqvAll_strs]
theorem eqU_nn (m : Mem) : eqU m .non .non = some true := rfl
theorem eqU_nt {m : Mem} {a : List Str} (ha : ∀ x ∈ a, PyData.strOk x = true) : eqU m .non (tS a) = some false := by
  unfold eqU
  rw [show dat m .non = some .none from rfl]
  simp only [dat_tS, shaped_tS ha, show SeqAt.shaped .none = true from rfl, Bool.and_true, if_true]; rfl
theorem eqU_tn {m : Mem} {a : List Str} (ha : ∀ x ∈ a, PyData.strOk x = true) : eqU m (tS a) .non = some false := by
  unfold eqU
  rw [show dat m .non = some .none from rfl]
  simp only [dat_tS, shaped_tS ha, show SeqAt.shaped .none = true from rfl, Bool.and_true, if_true]; rfl
/-- None or a tuple of texts -/
def rsU : Option (List Str) → U
  | none => .non
  | some l => tS l
theorem eqU_rs {m : Mem} {a b : Option (List Str)} (ha : ∀ l, a = some l → ∀ x ∈ l, PyData.strOk x = true) (hb : ∀ l, b = some l → ∀ x ∈ l, PyData.strOk x = true) : eqU m (rsU a) (rsU b) = some (decide (a = b)) := by
  cases a with
  | none =>
    cases b with
    | none => rw [rsU, eqU_nn]; simp
    | some l => rw [rsU, rsU, eqU_nt (hb l rfl)]; simp
  | some k =>
    cases b with
    | none => rw [rsU, rsU, eqU_tn (ha k rfl)]; simp
    | some l => rw [rsU, rsU, eqU_tS (ha k rfl) (hb l rfl)]; simp
/-- None or a tuple of ints -/
def voU : Option (List Int) → U
  | none => .non
  | some l => tI l
theorem eqU_vo (m : Mem) (a b : Option (List Int)) : eqU m (voU a) (voU b) = some (decide (a = b)) := by
  have h1 : ∀ l : List Int, eqU m .non (tI l) = some false := fun l => by
    unfold eqU
    rw [show dat m .non = some .none from rfl]
    simp only [dat_tI, shaped_tI, show SeqAt.shaped .none = true from rfl, Bool.and_true, if_true]; rfl
  have h2 : ∀ l : List Int, eqU m (tI l) .non = some false := fun l => by
    unfold eqU
    rw [show dat m .non = some .none from rfl]
    simp only [dat_tI, shaped_tI, show SeqAt.shaped .none = true from rfl, Bool.and_true, if_true]; rfl
  cases a with
  | none =>
    cases b with
    | none => rw [voU, eqU_nn]; simp
    | some l => rw [voU, voU, h1]; simp
  | some k =>
    cases b with
    | none => rw [voU, voU, h2]; simp
    | some l => rw [voU, voU, eqU_tI]; simp
/-- x in (..) of texts -/
theorem anyEq {x : Str} (l : List Str) : ((l.map PyData.str).any fun z => PyData.eqv z (.str x)) = decide (x ∈ l) := by
  induction l with
  | nil => rfl
  | cons y r ih =>
    rw [List.map_cons, List.any_cons, ih]
    show ((y == x) || _) = _
    by_cases h : y = x
    · subst h; simp
    · have h' : ¬ x = y := fun e => h e.symm
      simp [h, h']
theorem inU_t {m : Mem} {x : Str} {l : List Str} (hx : PyData.strOk x = true) (h : ∀ x ∈ l, PyData.strOk x = true) : inU m (.str x) (tS l) = some (decide (x ∈ l)) := by
  show (match dat m (.str x), datsOf m (tS l) with
    | some d, some ds => if SeqAt.shaped d && SeqAt.shaped (.list ds) then some (ds.any fun z => PyData.eqv z d) else none
    | _, _ => none) = _
  have h1 : SeqAt.shaped (.str x) = true := by simp [SeqAt.shaped, PyData.canLay0, hx, PyData.depth]
  rw [show dat m (.str x) = some (.str x) from rfl, show datsOf m (tS l) = some (l.map .str) from datRL_strs _ l]
  simp only [h1, shaped_lS h, Bool.and_true, if_true, anyEq]
theorem txts_strs : ∀ l : List Str, txts (l.map U.str) = some l
  | [] => rfl
  | x :: r => by show (txts (r.map U.str)).map _ = _; rw [txts_strs r]; rfl
/-! ### trees -/
abbrev Tr := List (Str × List Int)
def dkU (T : Tr) : KU := T.map fun p => (.inr p.1, tI p.2)
abbrev cT (T : Tr) : Cell := .dK (dkU T)
def tget (T : Tr) (x : Str) : Option (List Int) := (T.find? fun p => decide (p.1 = x)).map (·.2)
def tput (T : Tr) (x : Str) (c : List Int) : Tr := if (T.any fun p => decide (p.1 = x)) = true then T.map (fun p => if p.1 = x then (p.1, c) else p) else T ++ [(x, c)]
def tdrop (T : Tr) (x : Str) : Tr := T.filter fun p => decide (p.1 ≠ x)
abbrev tkeys (T : Tr) : List Str := T.map (·.1)
theorem inr_eq {x y : Str} : ((Sum.inr x : Key) = Sum.inr y) = (x = y) := by simp
theorem valK_dk (T : Tr) (x : Str) : valK (dkU T) (.inr x) = (tget T x).map tI := by
  unfold valK tget dkU
  induction T with
  | nil => rfl
  | cons p r ih =>
    rw [List.map_cons, List.find?_cons, List.find?_cons]
    by_cases h : p.1 = x
    · simp [h]
    · simp only [inr_eq, h, decide_false]; exact ih
theorem any_dk (T : Tr) (x : Str) : ((dkU T).any fun kv => decide (kv.1 = .inr x)) = T.any fun p => decide (p.1 = x) := by
  unfold dkU
  induction T with
  | nil => rfl
  | cons p r ih => rw [List.map_cons, List.any_cons, List.any_cons, ih]; simp
theorem putU_dk (T : Tr) (x : Str) (c : List Int) : putU (dkU T) (.inr x) (tI c) = dkU (tput T x c) := by
  unfold putU tput
  rw [any_dk]
  split
  · unfold dkU
    rw [List.map_map, List.map_map]
    refine List.map_congr_left fun p _ => ?_
    by_cases h : p.1 = x
    · simp [h]
    · simp [h]
  · simp [dkU]
theorem dropU_dk (T : Tr) (x : Str) : dropU (dkU T) (.inr x) = dkU (tdrop T x) := by
  unfold dropU tdrop dkU
  induction T with
  | nil => rfl
  | cons p r ih =>
    rw [List.map_cons]
    by_cases h : p.1 = x
    · rw [List.filter_cons_of_neg (by simp [h]), List.filter_cons_of_neg (by simp [h])]; exact ih
    · rw [List.filter_cons_of_pos (by simp [h]), List.filter_cons_of_pos (by simp [h]), List.map_cons, ih]
theorem tget_cons (p : Str × List Int) (r : Tr) (x : Str) : tget (p :: r) x = if p.1 = x then some p.2 else tget r x := by
  unfold tget
  rw [List.find?_cons]
  by_cases h : p.1 = x
  · simp [h]
  · simp [h]
theorem tget_append (T S : Tr) (x : Str) : tget (T ++ S) x = (tget T x).or (tget S x) := by
  induction T with
  | nil => simp [tget]
  | cons p r ih =>
    rw [List.cons_append, tget_cons, tget_cons, ih]
    split <;> rfl
theorem tany (T : Tr) (x : Str) : (T.any fun p => decide (p.1 = x)) = (tget T x).isSome := by
  induction T with
  | nil => rfl
  | cons p r ih =>
    rw [List.any_cons, tget_cons, ih]
    by_cases h : p.1 = x
    · simp [h]
    · simp [h]
theorem tget_put (T : Tr) (x y : Str) (c : List Int) : tget (tput T x c) y = if y = x then some c else tget T y := by
  unfold tput
  rw [tany]
  cases e : tget T x with
  | none =>
    rw [Option.isSome_none, if_neg Bool.false_ne_true, tget_append, tget_cons]
    by_cases h : y = x
    · subst h; rw [e]; simp
    · have h' : ¬ x = y := fun z => h z.symm
      rw [if_neg h, if_neg h']
      simp [tget]
  | some d =>
    rw [Option.isSome_some, if_pos rfl]
    have : ∀ T : Tr, (tget T x).isSome = true → tget (T.map fun p => if p.1 = x then (p.1, c) else p) y = if y = x then some c else tget T y := by
      intro T
      induction T with
      | nil => intro h; cases h
      | cons p r ih =>
        intro h
        rw [List.map_cons, tget_cons, tget_cons]
        rw [tget_cons] at h
        by_cases hp : p.1 = x
        · rw [if_pos hp]
          by_cases hy : y = x
          · subst hy; rw [if_pos (by exact hp), if_pos rfl]
          · have hy' : ¬ p.1 = y := fun z => hy (z ▸ hp)
            rw [if_neg (show ¬ (p.1, c).1 = y from hy'), if_neg hy, if_neg hy']
            have same : ∀ r : Tr, tget (r.map fun p => if p.1 = x then (p.1, c) else p) y = tget r y := by
              intro r
              induction r with
              | nil => rfl
              | cons q s ih2 =>
                rw [List.map_cons, tget_cons, tget_cons, ih2]
                by_cases hq : q.1 = x
                · have : ¬ q.1 = y := fun z => hy (z ▸ hq)
                  rw [if_pos hq, if_neg (show ¬ (q.1, c).1 = y from this), if_neg this]
                · rw [if_neg hq]
            exact same r
        · rw [if_neg hp] at h ⊢
          rw [ih h]
          by_cases hpy : p.1 = y
          · have : ¬ y = x := fun z => hp (hpy.trans z)
            rw [if_pos hpy, if_neg this, if_pos hpy]
          · rw [if_neg hpy, if_neg hpy]
    exact this T (by rw [e]; rfl)
theorem tget_drop (T : Tr) (x y : Str) : tget (tdrop T x) y = if y = x then none else tget T y := by
  unfold tdrop
  induction T with
  | nil => simp [tget]
  | cons p r ih =>
    by_cases h : p.1 = x
    · rw [List.filter_cons_of_neg (by simp [h]), ih, tget_cons]
      by_cases hy : y = x
      · rw [if_pos hy, if_pos hy]
      · have : ¬ p.1 = y := fun z => hy (z ▸ h)
        rw [if_neg hy, if_neg hy, if_neg this]
    · rw [List.filter_cons_of_pos (by simp [h]), tget_cons, tget_cons, ih]
      by_cases hp : p.1 = y
      · have : ¬ y = x := fun z => h (hp.trans z)
        rw [if_pos hp, if_neg this, if_pos hp]
      · rw [if_neg hp, if_neg hp]
theorem tkeys_put_sub {T : Tr} {x : Str} {c : List Int} {k : Str} (h : k ∈ tkeys (tput T x c)) : k = x ∨ k ∈ tkeys T := by
  unfold tput at h
  split at h
  · rw [tkeys, List.map_map] at h
    obtain ⟨p, hp, rfl⟩ := List.mem_map.mp h
    refine .inr (List.mem_map.mpr ⟨p, hp, ?_⟩)
    show p.1 = (if p.1 = x then (p.1, c) else p).1
    split <;> rfl
  · rw [tkeys, List.map_append] at h
    rcases List.mem_append.mp h with h | h
    · exact .inr h
    · exact .inl (by simpa using h)
theorem tget_none {T : Tr} {x : Str} : tget T x = none ↔ x ∉ tkeys T := by
  induction T with
  | nil => simp [tget]
  | cons p r ih =>
    rw [tget_cons]
    by_cases h : p.1 = x
    · rw [if_pos h]; simp [h]
    · have h' : ¬ x = p.1 := fun z => h z.symm
      rw [if_neg h, ih]; simp [h, h']
theorem nodup_tput {T : Tr} {x : Str} {c : List Int} (h : (tkeys T).Nodup) : (tkeys (tput T x c)).Nodup := by
  unfold tput
  rw [tany]
  split
  · rw [tkeys, List.map_map]
    rw [show (((fun p : Str × List Int => p.1) ∘ fun p => if p.1 = x then (p.1, c) else p)) = fun p => p.1 from by funext p; show (if p.1 = x then (p.1, c) else p).1 = p.1; split <;> rfl]
    exact h
  · rename_i e
    rw [tkeys, List.map_append, List.nodup_append]
    refine ⟨h, by simp, fun a ha b hb e2 => ?_⟩
    have : b = x := by simpa using hb
    subst this; subst e2
    exact tget_none.mp (by cases q : tget T a with | none => rfl | some _ => rw [q] at e; exact absurd rfl e) ha
theorem nodup_tdrop {T : Tr} {x : Str} (h : (tkeys T).Nodup) : (tkeys (tdrop T x)).Nodup := (List.Sublist.map _ (List.filter_sublist)).nodup h
theorem tkeys_drop_sub {T : Tr} {x k : Str} (h : k ∈ tkeys (tdrop T x)) : k ∈ tkeys T := (List.Sublist.map _ (List.filter_sublist)).subset h
theorem tget_mem {T : Tr} {x : Str} {c : List Int} (h : tget T x = some c) : (x, c) ∈ T := by
  induction T with
  | nil => cases h
  | cons p r ih =>
    rw [tget_cons] at h
    split at h
    · rename_i e; cases h; rw [← e]; exact List.mem_cons_self ..
    · exact List.mem_cons_of_mem _ (ih h)
theorem tget_of_mem {T : Tr} (hn : (tkeys T).Nodup) {p : Str × List Int} (h : p ∈ T) : tget T p.1 = some p.2 := by
  induction T with
  | nil => cases h
  | cons q r ih =>
    have hn' := List.nodup_cons.mp hn
    rw [tget_cons]
    rcases List.mem_cons.mp h with e | h
    · rw [e, if_pos rfl]
    · have : ¬ q.1 = p.1 := fun z => hn'.1 (by show q.1 ∈ _; rw [z]; exact List.mem_map.mpr ⟨p, h, rfl⟩)
      rw [if_neg this]; exact ih hn'.2 h
theorem dk_len (T : Tr) : (dkU T).length = T.length := by simp [dkU]
theorem keysS_dk : ∀ T : Tr, keysS (dkU T) = some (tkeys T)
  | [] => rfl
  | p :: r => by
    show (keysS (dkU r)).map _ = _
    rw [keysS_dk r]; rfl
theorem keyU_dk (T : Tr) : ((dkU T).map fun kv => keyU kv.1) = (tkeys T).map U.str := by simp [dkU, keyU]
theorem len_same {T S : Tr} (hT : (tkeys T).Nodup) (hS : (tkeys S).Nodup) (h : ∀ x, tget T x = tget S x) : T.length = S.length := by
  have hp : (tkeys T).Perm (tkeys S) := (List.perm_ext_iff_of_nodup hT hS).mpr fun x => by
    have := h x
    constructor
    · intro hx
      refine Classical.byContradiction fun z => ?_
      rw [tget_none.mpr z] at this
      exact tget_none.mp this hx
    · intro hx
      refine Classical.byContradiction fun z => ?_
      rw [tget_none.mpr z] at this
      exact tget_none.mp this.symm hx
  have := hp.length_eq
  simpa using this
theorem eqKs_same {m : Mem} {S : Tr} : ∀ (T : Tr), (∀ p ∈ T, tget S p.1 = some p.2) → eqKs m (dkU S) (dkU T) = some true
  | [], _ => rfl
  | p :: r, h => by
    show (match valK (dkU S) (.inr p.1) with
      | none => some false
      | some v => match eqU m (tI p.2) v, eqKs m (dkU S) (dkU r) with
        | some a, some b => some (a && b)
        | _, _ => none) = _
    rw [valK_dk, h p (List.mem_cons_self ..), eqKs_same r fun q hq => h q (List.mem_cons_of_mem _ hq)]
    show (match eqU m (tI p.2) (tI p.2), some true with | some a, some b => some (a && b) | _, _ => none) = _
    rw [eqU_tI]; simp
theorem eqDD_same {m : Mem} {u v : U} {T S : Tr} (hu : dcells m u = some (dkU T)) (hv : dcells m v = some (dkU S)) (hT : (tkeys T).Nodup) (hS : (tkeys S).Nodup) (h : ∀ x, tget T x = tget S x) : eqDD m u v = some true := by
  unfold eqDD
  simp only [hu, hv, dk_len, len_same hT hS h, if_true]
  exact eqKs_same T fun p hp => (h p.1) ▸ tget_of_mem hT hp
theorem eqDD_nil {m : Mem} {u v : U} {T : Tr} (hu : dcells m u = some (dkU T)) (hv : dcells m v = some []) : eqDD m u v = some (decide (T = [])) := by
  unfold eqDD
  simp only [hu, hv, dk_len, List.length_nil]
  cases T with
  | nil => rfl
  | cons p r => simp
/-! ### the rules -/
theorem dc_K {m : Mem} {n : Nat} {kvs : KU} (h : m[n]? = some (.dK kvs)) : dcells m (.ref n) = some kvs := by unfold dcells; simp only [h]
theorem dc_F {m : Mem} {n : Nat} {kvs : KU} (h : m[n]? = some (.dF kvs)) : dcells m (.ref n) = some kvs := by unfold dcells; simp only [h]
theorem evD :
    (∀ u x m, oDGet u (.str x) m = match dcells m u with | some kvs => (match valK kvs (.inr x) with | some z => some (z, m) | none => none) | none => none) ∧
    (∀ neg u x m, oDIn neg (.str x) u m = match dcells m u with | some kvs => some (.bl (neg ^^ (valK kvs (.inr x)).isSome), m) | none => none) ∧
    (∀ o x v m, oSetD o (.str x) v m = match dcell m o with | some (n, kvs) => if kvs.length < sizeLine then some ((), m.set n (.dK (putU kvs (.inr x) v))) else none | none => none) ∧
    (∀ n m, dcells m (.ref n) = match m[n]? with | some (.dK kvs) => some kvs | some (.dF kvs) => some kvs | _ => none) ∧
    (∀ n m, dcell m (.ref n) = match m[n]? with | some (.dK kvs) => some (n, kvs) | _ => none) ∧
    (∀ u m, oDictD [u] m = match dcells m u with | some kvs => some (.ref m.length, m ++ [.dK kvs]) | none => none) ∧
    (∀ u m, oListD [u] m = match dcells m u with | some kvs => some (.ref m.length, m ++ [.lst (kvs.map fun kv => keyU kv.1)]) | none => none) ∧
    (∀ u v m, oEqD u v m = match eqDD m u v with | some b => some (.bl b, m) | none => none) ∧
    (∀ u v m, oNeD u v m = match eqDD m u v with | some b => some (.bl (!b), m) | none => none) ∧
    (∀ ρ m, dDNew ρ m = .ok (.ref m.length) (m ++ [.dK []])) ∧
    (∀ us m, oIsN (.tup us) .non m = some (.bl false, m)) ∧ (∀ m, oIsN .non .non m = some (.bl true, m)) ∧
    (∀ us m, oNotN (.tup us) .non m = some (.bl true, m)) ∧ (∀ m, oNotN .non .non m = some (.bl false, m)) ∧
    (∀ m x T, isTy m T (.str x) = some (match T with | .str => true | _ => false)) ∧
    (∀ x m, oLen [.str x] m = if x.length ≤ sizeLine then some (.int x.length, m) else none) ∧
    (∀ i j l f ρ m, sPar3 i j l f ρ m = thenE (f ρ m) ρ fun us m1 => match us with | [u, v, w] => .ok .nx (((ρ.set i (some u)).set j (some v)).set l (some w)) m1 | _ => .bad) ∧
    (∀ x y m, oIn x y m = match inU m x y with | some b => some (.bl b, m) | none => none) ∧
    (∀ x y m, oNotIn x y m = match inU m x y with | some b => some (.bl (!b), m) | none => none) := by
  refine ⟨fun u x m => ?_, fun neg u x m => ?_, fun o x v m => ?_, fun n m => rfl, fun n m => rfl, fun u m => rfl, fun u m => rfl, fun u v m => ?_, fun u v m => ?_, fun _ _ => rfl, fun _ _ => rfl, fun _ => rfl, fun _ _ => rfl, fun _ => rfl, fun m x T => by cases T <;> rfl, fun _ _ => rfl, fun _ _ _ _ _ _ => rfl, fun x y m => ?_, fun x y m => ?_⟩
  · show (match dcells m u, some (Sum.inr x : Key) with | some kvs, some key => (valK kvs key).map fun z => (z, m) | _, _ => none) = _
    cases dcells m u with
    | none => rfl
    | some kvs =>
      show (valK kvs (.inr x)).map (fun z => (z, m)) = (match valK kvs (.inr x) with | some z => some (z, m) | none => none)
      cases valK kvs (.inr x) <;> rfl
  · show (match dcells m u, some (Sum.inr x : Key) with | some kvs, some key => some (U.bl (neg ^^ (valK kvs key).isSome), m) | _, _ => none) = _
    cases dcells m u <;> rfl
  · show (match dcell m o, some (Sum.inr x : Key) with | some (n, kvs), some key => if kvs.length < sizeLine then some ((), m.set n (.dK (putU kvs key v))) else none | _, _ => none) = _
    cases dcell m o with
    | none => rfl
    | some z => obtain ⟨n, kvs⟩ := z; rfl
  · unfold oEqD; cases eqDD m u v <;> rfl
  · unfold oNeD; cases eqDD m u v <;> rfl
  · unfold oIn; cases inU m x y <;> rfl
  · unfold oNotIn; cases inU m x y <;> rfl
end Ev

set_option Elab.async false
set_option linter.all false
set_option maxRecDepth 100000
set_option maxHeartbeats 2000000
/-! Ev: text.index, list(text), repr(x) in texts, a dict in a tuple of tuples, sorted pairs. -/
namespace Ev
open PySem PySem.Spec PyProof.Rows L2 RZ

/-! ### text.index -/
def oSindex : U → List U → Mem → O U
  | .str a, [.str b], m => match Builtin.Str.occurrences a b 0 a.length 1 with
    | i :: _ => some (.int (i : Nat), m)
    | [] => none
  | _, _, _ => none
section
variable {X : Cx}
theorem m_sindex : MtR X "str.index" (rdM X.K oSindex) := by
  intro pins s σ H x xs v us Q I rx rxs q
  obtain ⟨u, ws, m, μ, r, rs, M, p⟩ := q
  unfold oSindex at p
  split at p
  · obtain ⟨y, rfl, ry⟩ := rs.one
    cases r.s; cases ry.s
    split at p
    · rename_i i rest e
      exact mt_sindex pins s σ H _ _ v us Q I rx rxs ⟨_, _, i, rest, rfl, rfl, e, p.val M (.int _)⟩
    · exact no_op p
  · exact no_op p
end

/-! ### list(text) -/
def signsU (x : Str) : List U := x.cps.toList.map fun c => .str ⟨#[c]⟩
def oListS : List U → Mem → O U
  | [.str x], m => if x.cps.size ≤ 1000 then some (.ref m.length, m ++ [.lst (signsU x)]) else none
  | _, _ => none
section
variable {X : Cx}
theorem call_listS (hc : X.calm = true) : CallR X (.type "list") (fun xs H Q => ∃ x : Str, xs = [V.str x] ∧ x.cps.size ≤ 1000 ∧ ∀ p, H p = none → Q (.ref p) (upd H p (.lst (x.cps.toList.map fun c => V.str ⟨#[c]⟩)))) := by
  intro pins s σ H xs us Q I r h
  obtain ⟨x, rfl, hz, q⟩ := h
  obtain ⟨u, rfl, t, rfl⟩ := vals1 r
  have hsz : x.cps.size ≤ sizeLine := by rw [sizeLine_eq]; omega
  refine call_list_str (hn := hsz) (I.ok.hd hc) x t fun h' tk acc c' hk e' ha => ?_
  have hl : acc.toList.length = x.cps.size := by rw [Array.length_toList]; exact ha.1
  refine ⟨.ref s.heap.objs.size, upd H s.heap.objs.size (.lst (x.cps.toList.map fun c => V.str ⟨#[c]⟩)), I.laid hk (Nat.le_refl _) (show ObjOk X.prog X.w _ _ _ (.lst _) from ⟨?_, acc.toList, c', ?_, ?_⟩), rfl, q _ (I.hok.fresh (Nat.le_refl _))⟩
  · rw [List.length_map, Array.length_toList]; exact hsz
  · refine vals_of_at (by rw [List.length_map, Array.length_toList, hl]) fun j y w h1 h2 => ?_
    obtain ⟨c, u, hc', rfl⟩ := ha.2 j w (by rw [← Array.getElem?_toList]; exact h2)
    rw [List.getElem?_map, Array.getElem?_toList, hc'] at h1
    cases h1
    exact ⟨u, rfl⟩
  · rw [Array.toArray_toList]; exact e'
theorem signs_ru {K : PySem.W.Frag} {H : Hp} {μ : List Addr} : ∀ l : List Nat, RUs K H μ (l.map fun c => U.str ⟨#[c]⟩) (l.map fun c => V.str ⟨#[c]⟩)
  | [] => .nil
  | c :: l => .cons (.str _) (signs_ru l)
theorem b_listS (hc : X.calm = true) : CallR X (.type "list") (rdC X.K oListS) := by
  intro pins s σ H xs us Q I rx h
  obtain ⟨vs, m, μ, r, M, p⟩ := h
  unfold oListS at p
  split at p
  · split at p
    · rename_i hz
      obtain ⟨v, rfl, r1⟩ := r.one
      cases r1.s
      exact call_listS hc pins s σ H _ us Q I rx ⟨_, rfl, hz, fun p' hp => p.lst M (signs_ru _) hp⟩
    · exact no_op p
  · exact no_op p
end

/-! ### sep.join(texts) -/
def oJoin : U → List U → Mem → O U
  | .str a, [u], m => match itemsOf m u with
    | some us => match txts us with
      | some ys => if (ys.map (·.length)).sum + ys.length * a.length ≤ 16777216 then some (.str (Txt.join a ys), m) else none
      | none => none
    | none => none
  | _, _, _ => none
section
variable {X : Cx}
theorem m_join : MtR X "str.join" (rdM X.K oJoin) := by
  intro pins s σ H x xs v us Q I rx rxs q
  obtain ⟨u, ws, m, μ, r, rs, M, p⟩ := q
  unfold oJoin at p
  split at p
  · split at p
    · rename_i us1 e
      split at p
      · rename_i ys e2
        split at p
        · rename_i hz
          obtain ⟨y, rfl, ry⟩ := rs.one
          cases r.s
          obtain ⟨b, zs, rfl, hq, t, h1, h2⟩ := items_ok M ry e
          cases txts_ok t e2
          exact mt_join pins s σ H _ _ v us Q I rx rxs ⟨_, b, ys, rfl, rfl, hq, hz, p.val M (.str _)⟩
        · exact no_op p
      · exact no_op p
    · exact no_op p
  · exact no_op p
end

/-! ### a dict in a tuple of tuples -/
def allTup : List U → Bool
  | [] => true
  | .tup _ :: r => allTup r
  | _ :: _ => false
def oInX : U → U → Mem → O U := fun x y m => match dcells m x with
  | some _ => match y with
    | .tup us => if allTup us then some (.bl false, m) else none
    | _ => none
  | none => oIn x y m
theorem tuple_eq_declines_dict (l b : Addr) (items : Array Value) (n : Nat) (es : Array DictEntry) (n2 : Nat) (dd dd2 : Option Addr) (sl sl2 : Array (Option Value)) :
    Meets (Builtin.«tuple.__eq__» ⟨[.ref l, .ref b], []⟩) (fun _ R s => s.heap.get? l = some { cls := .type "tuple", dict := dd, data := .seq items n, slots := sl } ∧ s.heap.get? b = some { cls := .type "dict", dict := dd2, data := .dict es n2, slots := sl2 } ∧ R (.ok (.ret .notImplemented)) s) :=
  .of_wp fun prog w A R s h => by obtain ⟨hp, g, d, tk, os⟩ := s; obtain ⟨hl, hb, h⟩ := h; have f1 := F.sub_dict_tuple; wp_walk using AutoSeq1.wpAny_loadPart' hl, AutoSeq1.wpAny_loadPart' hb; exact ⟨_, rfl, h⟩
theorem dict_eq_declines_tuple (l b : Addr) (items : Array Value) (n : Nat) (es : Array DictEntry) (n2 : Nat) (dd dd2 : Option Addr) (sl sl2 : Array (Option Value)) :
    Meets (Builtin.«dict.__eq__» ⟨[.ref b, .ref l], []⟩) (fun _ R s => s.heap.get? b = some { cls := .type "dict", dict := dd2, data := .dict es n2, slots := sl2 } ∧ s.heap.get? l = some { cls := .type "tuple", dict := dd, data := .seq items n, slots := sl } ∧ R (.ok (.ret .notImplemented)) s) :=
  .of_wp fun prog w A R s h => by obtain ⟨hp, g, d, tk, os⟩ := s; obtain ⟨hl, hb, h⟩ := h; have f1 := F.sub_tuple_dict; wp_walk using AutoSeq1.wpAny_loadPart' hl, AutoSeq1.wpAny_loadPart' hb; exact ⟨_, rfl, h⟩
theorem eqAt_tuple_dict {A : Around} {s : Shared} {l b : Addr} {items : Array Value} {ob : Obj} {es : Array DictEntry} {n2 : Nat} (hl : s.heap.IsTuple l items) (hb : s.heap.get? b = some ob) (hbc : ob.cls = .type "dict") (hbd : ob.data = .dict es n2) (hu : A.units < cLine) : SeqAt.EqAt A s (.ref l) (.ref b) false := by
  obtain ⟨⟨cls, dd, data, sl⟩, ho, hc, n, hd⟩ := id hl
  obtain ⟨cls2, dd2, data2, sl2⟩ := ob
  simp only at hc hd hbc hbd
  subst hc hd hbc hbd
  have hne : l ≠ b := fun e => by
    rw [e, hb] at ho
    have := congrArg (fun o => (o.map Obj.cls)) ho
    simp at this
  refine SeqAt.EqAt.of_refs hne fun prog w E Q h => ?_
  exact (SeqAt.rc_eq_decline_or (k := false) ⟨_, ho, rfl⟩ ⟨_, hb, rfl⟩ (by decide) F.sub_dict_tuple F.slot_tuple_eq PySem.F.slot_dict_eq
    (fun _ hq => call_meets F.slot_tuple_eq ⟨_, ho, rfl⟩ F.entry_tuple_eq (F.args_tuple_eq_2 _ _) (tuple_eq_declines_dict l b items n es n2 dd dd2 sl sl2) ⟨ho, hb, hq⟩)
    (fun _ hq => call_meets PySem.F.slot_dict_eq ⟨_, hb, rfl⟩ PySem.F.entry_dict_eq (PySem.F.args_dict_eq_2 _ _) (dict_eq_declines_tuple l b items n es n2 dd dd2 sl sl2) ⟨hb, ho, hq⟩)
    (fun _ hq => SeqAt.wpAny_isSame_ref_other' hne ho hb (by simp) hq) (.inr hu) h)
section
variable {X : Cx}
theorem allTup_ok {K : PySem.W.Frag} {H : Hp} {μ : List Addr} : ∀ {us : List U} {vs : List V}, RUs K H μ us vs → allTup us = true → ∀ v ∈ vs, ∃ a xs, v = .ref a ∧ SqT K H a xs
  | [], _, .nil, _, v, hv => by cases hv
  | u :: us, _, .cons r t, h, v, hv => by
    cases u with
    | tup ws =>
      rcases List.mem_cons.mp hv with e | hv
      · subst e
        cases r with
        | tup h1 h2 => exact ⟨_, _, rfl, h1⟩
      · exact allTup_ok t h v hv
    | _ => cases h
theorem vals_mem {vs : List V} {us : List Value} (r : Vals vs us) : ∀ u ∈ us, ∃ v ∈ vs, RelV v u := by
  induction r with
  | nil => intro u h; cases h
  | cons h t ih =>
    intro u hu
    rcases List.mem_cons.mp hu with e | hu
    · subst e; exact ⟨_, List.mem_cons_self, h⟩
    · obtain ⟨v, h1, h2⟩ := ih u hu; exact ⟨v, List.mem_cons_of_mem _ h1, h2⟩
theorem x_inX (hu : X.A.units + 65 < cLine) : OpR X (compareOp .In) (rd2 X.K oInX) := by
  intro pins s σ H x y v u Q I rx ry h
  obtain ⟨u1, u2, m, μ, r1, r2, M, p⟩ := h
  unfold oInX at p
  split at p
  · rename_i kvs e
    split at p
    · rename_i us
      split at p
      · rename_i ht
        obtain ⟨b, ks', rfl, hb, tk⟩ := dc_ok M r1 e
        obtain ⟨_, yb, vb, rb, ob, es, ep, hob, hex, hdat, _⟩ := dk_rd I.hok hb
        cases r2 with
        | @tup a vs _ hq t =>
          obtain rfl : v = Value.ref b := rx
          obtain rfl : u = Value.ref a := ry
          obtain ⟨its, rv, hl, hz⟩ := I.tuple hq
          refine SeqAt.in_tupleAt (fun _ => false) hl (fun y hy => ?_) ?_
          · obtain ⟨w, hw, rw'⟩ := vals_mem rv y (by simpa using hy)
            obtain ⟨c, zs, rfl, hc⟩ := allTup_ok t ht w hw
            obtain rfl : y = Value.ref c := rw'
            obtain ⟨its2, rv2, hl2, hz2⟩ := I.tuple hc
            exact eqAt_tuple_dict hl2 hob hex.1 hdat (by show X.A.units + 1 < cLine; omega)
          · have : (its.toArray.any fun _ => false) = false := by simp
            rw [this]
            exact ⟨.bl _, H, I, rfl, p.val M (.bl _)⟩
      · exact no_op p
    · exact no_op p
  · exact x_in hu pins s σ H x y v u Q I rx ry ⟨u1, u2, m, μ, r1, r2, M, p⟩
end
/-! ### repr(x) in texts -/
def rI (i : Int) : Str := ((toString i : String) : Str)
inductive Reps (K : PySem.W.Frag) (H : Hp) : V → List Str → Prop
  | int {i : Int} : i.natAbs.log2 < 1920 → Reps K H (.int i) [rI i]
  | bl (b : Bool) : Reps K H (.bl b) [((if b then "True" else "False" : String) : Str)]
  | non : Reps K H .non [("None" : Str)]
  | str {x : Str} : (reprText x).length ≤ sizeLine → Reps K H (.str x) [reprText x]
  | tup {a : Addr} {is : List Int} : SqT K H a (is.map V.int) → (∀ i ∈ is, i.natAbs.log2 < 1920) → (tupleText (is.map rI)).length ≤ sizeLine → Reps K H (.ref a) [tupleText (is.map rI), ("(...)" : Str)]
def repsU : U → Option (List Str)
  | .int i => if i.natAbs.log2 < 1920 then some [rI i] else none
  | .bl b => some [((if b then "True" else "False" : String) : Str)]
  | .non => some [("None" : Str)]
  | .str x => if (reprText x).length ≤ sizeLine then some [reprText x] else none
  | .tup us => match nums us with
    | some is => if (is.all fun i => decide (i.natAbs.log2 < 1920)) && decide ((tupleText (is.map rI)).length ≤ sizeLine) then some [tupleText (is.map rI), ("(...)" : Str)] else none
    | none => none
  | _ => none
theorem nums_vals {K : PySem.W.Frag} {H : Hp} {μ : List Addr} : ∀ {us : List U} {vs : List V} {is : List Int}, RUs K H μ us vs → nums us = some is → vs = is.map V.int
  | [], _, _, .nil, h => by cases h; rfl
  | u :: us, _, is, .cons r t, h => by
    cases u with
    | int i =>
      rw [nums] at h
      cases e : nums us with
      | none => rw [e] at h; cases h
      | some js =>
        rw [e] at h
        cases h
        cases r
        rw [nums_vals t e]; rfl
    | _ => cases h
theorem reps_ok {K : PySem.W.Frag} {H : Hp} {μ : List Addr} {u : U} {v : V} {l : List Str} (r : RU K H μ u v) (h : repsU u = some l) : Reps K H v l := by
  cases u with
  | int i => cases r; simp only [repsU] at h; split at h <;> cases h; exact .int (by assumption)
  | bl b => cases r; cases h; exact .bl b
  | non => cases r; cases h; exact .non
  | str x => cases r.s; simp only [repsU] at h; split at h <;> cases h; exact .str (by assumption)
  | tup us =>
    cases r with
    | tup h1 t =>
      simp only [repsU] at h
      split at h
      · rename_i is e
        split at h
        · rename_i hz
          cases h
          rw [Bool.and_eq_true] at hz
          cases nums_vals t e
          exact .tup h1 (fun i hi => of_decide_eq_true (List.all_eq_true.mp hz.1 i hi)) (of_decide_eq_true hz.2)
        · cases h
      · cases h
  | _ => cases h
theorem repr_ints {prog : Program} {w : World} : ∀ {l : List Int} {its : List Value}, Vals (l.map V.int) its → (∀ i ∈ l, i.natAbs.log2 < 1920) → ReprAll prog w its (l.map rI)
  | [], _, r, _ => by cases r; exact .nil
  | i :: l, _, r, h => by
    cases r with
    | cons r1 r2 =>
      obtain ⟨t, rfl⟩ := r1
      exact .cons (ReprIs.int t (h i List.mem_cons_self)) (repr_ints r2 fun z hz => h z (List.mem_cons_of_mem _ hz))
theorem tuple_reprs {prog : Program} {w : World} {A : Around} {E : Value → Shared → Prop} {s : Shared} {a : Addr} {o : Obj} {items : Array Value} {n : Nat} {ts : List Str} {Q : Value → Shared → Prop} (ha : s.heap.get? a = some o) (hc : o.cls = .type "tuple") (hd : o.data = .seq items n) (hT : ReprAll prog w items.toList ts) (hsz : (tupleText ts).length ≤ sizeLine)
    (h1 : ∀ u tk, Q (.str (tupleText ts) u) { s with toks := tk }) (h2 : ∀ u tk, Q (.str ("(...)" : Str) u) { s with toks := tk }) : wpAny (model prog w) A (call (.builtin "tuple.__repr__") [.ref a]) Q E s := by
  refine wpAny_call (codeAny_call_builtin_own (Code.quiet_builtin _ (by decide +kernel)) F.entry_tuple_repr (F.slot_tuple_repr.check _ _ _ _ _ _ _ _ ⟨o, ha, hc⟩ (F.args_tuple_repr_1 _) (wpOwn_of_wpAny ?_)))
  show wpAny _ _ (Builtin.tupleReprAt 0 ⟨[.ref a], []⟩) _ _ s
  rw [tuple_repr_tree]
  refine wpAny_bind (fmt_underWay fun b => ?_)
  cases b with
  | true =>
    refine PySem.W.KFB.if_so rfl ?_
    refine wpAny_bind (wpAny_rule ?_)
    refine wpAny_bind (wpAny_mkStr (wpAny_pure ?_) (by decide +kernel))
    exact h2 _ _
  | false =>
    refine PySem.W.KFB.if_not rfl ?_
    exact wpAny_tupleReprRest ha hd hT (fun u tk => h1 u tk) (by omega)
section
variable {X : Cx}
def rReprs (K : PySem.W.Frag) : List V → Hp → VK → Prop := fun xs H Q => ∃ x l, xs = [x] ∧ Reps K H x l ∧ ∀ t ∈ l, Q (.str t) H
theorem call_reprs (hu : X.A.units + 64 < cLine) : CallR X (.builtin "repr") (rReprs X.K) := by
  intro pins s σ H xs us Q I r h
  obtain ⟨x, l, rfl, hr, q⟩ := h
  obtain ⟨u, rfl, rx⟩ := vals1 r
  cases hr with
  | int hz => obtain ⟨t, rfl⟩ := rx; exact PySem.P.repr_of_int hz ⟨.str _, H, I.tok _, ⟨_, rfl⟩, q _ List.mem_cons_self⟩
  | bl b => cases (show u = _ from rx); exact PySem.P.repr_of_bool ⟨.str _, H, I.tok _, ⟨_, rfl⟩, q _ (by cases b <;> exact List.mem_cons_self)⟩
  | non => cases (show u = _ from rx); exact PySem.P.repr_of_none ⟨.str _, H, I.tok _, ⟨_, rfl⟩, q _ List.mem_cons_self⟩
  | str hz => obtain ⟨t, rfl⟩ := rx; exact PySem.P.repr_of_str ⟨.str _, H, I.tok _, ⟨_, rfl⟩, q _ List.mem_cons_self⟩ hz
  | @tup a is ht hi hz =>
    cases (show u = _ from rx)
    obtain ⟨its, rv, ⟨o, ho, hcl, n, hd⟩, _⟩ := I.tuple ht
    refine call_repr_slot (by omega) ⟨o, ho, hcl⟩ F.slot_tuple_repr (tuple_reprs (ts := is.map rI) ho hcl hd (by simpa using repr_ints rv hi) hz (fun u tk => ?_) fun u tk => ?_)
    · exact ⟨_, _, rfl, .str _, H, I.tok _, ⟨_, rfl⟩, q _ List.mem_cons_self⟩
    · exact ⟨_, _, rfl, .str _, H, I.tok _, ⟨_, rfl⟩, q _ (by simp)⟩
def allIn (m : Mem) (v : U) : List Str → Option Bool
  | [] => none
  | [t] => inU m (.str t) v
  | t :: r => match inU m (.str t) v, allIn m v r with
    | some a, some b => if a = b then some a else none
    | _, _ => none
theorem allIn_at {m : Mem} {v : U} : ∀ {l : List Str} {b : Bool}, allIn m v l = some b → ∀ t ∈ l, inU m (.str t) v = some b
  | [], _, h => by cases h
  | [t], b, h => fun z hz => by cases List.mem_singleton.mp hz; exact h
  | t :: t2 :: r, b, h => fun z hz => by
    unfold allIn at h
    split at h
    · rename_i a c h1 h2
      split at h
      · rename_i e
        cases h
        subst e
        rcases List.mem_cons.mp hz with e | hz
        · rw [e]; exact h1
        · exact allIn_at h2 z hz
      · cases h
    · cases h
def dReprIn (fr : XL) (fb : XD) : XD := fun ρ m => (fr ρ m).bind fun us m1 => match us with
  | [u] => match repsU u with
    | some l => (fb ρ m1).bind fun v m2 => match allIn m2 v l with
      | some b => .ok (.bl b) m2
      | none => .bad
    | none => .bad
  | _ => .bad
theorem se_reprIn {c : Nat → Addr} {W : WX} {st b : Expr} {pos : Pos} {fr : XL} {fb : XD} (h : PE X st (tCB (rReprs X.K) (rdL (wX X c) W fr))) (hb : SE X c W b fb) (hu : X.A.units + 65 < cLine) (hm : behindInMarks .In b = false) : SE X c W (.Compare st [.In] [b] pos) (dReprIn fr fb) :=
  (pe_cmpR (x_in hu) h hb hm).imp fun σ H Q ⟨ρ, m, μ, E, M, p⟩ => ⟨ρ, m, μ, E, M, p.bind.imp fun μ1 H1 m1 us s1 M1 p1 vs rs => by
    split at p1
    · rename_i u
      split at p1
      · rename_i l e
        obtain ⟨x, rfl, r1⟩ := rs.one
        refine ⟨x, l, rfl, reps_ok r1 e, fun t ht => ?_⟩
        exact ⟨ρ, m1, μ1, E.step s1, M1, p1.bind.imp fun μ2 H2 m2 v s2 M2 p2 y ry => by
          split at p2
          · rename_i k e2
            refine ⟨.str t, v, m2, μ2, .str t, ry, M2, ?_⟩
            unfold oIn
            rw [allIn_at e2 t ht]
            exact Post.o (o := some (U.bl k, m2)) p2
          · exact False.elim p2⟩
      · exact False.elim p1
    · exact False.elim p1⟩
end
/-! ### sorted pairs of ints -/
def pU (p : Int × Int) : U := .tup [.int p.1, .int p.2]
def pD (p : Int × Int) : PyData := .tuple [.int p.1, .int p.2]
def leP (p q : Int × Int) : Bool := decide (p.1 < q.1 ∨ (p.1 = q.1 ∧ p.2 ≤ q.2))
def pairsU : List U → Option (List (Int × Int))
  | [] => some []
  | .tup [.int a, .int b] :: r => (pairsU r).map ((a, b) :: ·)
  | _ :: _ => none
theorem pairsU_ok : ∀ {us : List U} {ps : List (Int × Int)}, pairsU us = some ps → us = ps.map pU
  | [], ps, h => by cases h; rfl
  | u :: r, ps, h => by
    unfold pairsU at h
    split at h
    · rename_i e; cases e
    · rename_i a b r' e
      cases e
      cases e2 : pairsU r with
      | none => rw [e2] at h; cases h
      | some qs => rw [e2] at h; cases h; rw [pairsU_ok e2]; rfl
    · cases h
def oSortedP : List U → Mem → O U
  | [.ref n], m => match itemsOf m (.ref n) with
    | some us => match pairsU us with
      | some ps => some (.ref m.length, m ++ [.lst ((ps.mergeSort leP).map pU)])
      | none => none
    | none => none
  | _, _ => none
def sortD (bs : List (V × PyData)) : List V := (bs.mergeSort (PySem.W.dataLe false Prod.snd)).map Prod.fst
theorem each_vals : ∀ {bs : List (V × PyData)} {its : List Value}, Vals (bs.map Prod.fst) its → PySem.W.EachIs (fun v (b : V × PyData) => RelV b.1 v) its bs
  | [], _, h => by cases h; exact .nil
  | b :: r, _, h => by
    cases h with
    | cons h1 h2 => exact .cons h1 (each_vals h2)
theorem vals_each : ∀ {bs : List (V × PyData)} {its : List Value}, PySem.W.EachIs (fun v (b : V × PyData) => RelV b.1 v) its bs → Vals (bs.map Prod.fst) its
  | _, _, .nil => .nil
  | _, _, .cons h t => .cons h (vals_each t)
theorem leP_data (v w : V) (p q : Int × Int) : PySem.W.dataLe false Prod.snd (v, pD p) (w, pD q) = leP p q := by
  obtain ⟨a, b⟩ := p
  obtain ⟨c, d⟩ := q
  show (!lexLt itemOrd [.inl 1, .inl c, .inl 1, .inl d, .inl 0] [.inl 1, .inl a, .inl 1, .inl b, .inl 0]) = _
  simp only [PyProof.Rows.lexLt, itemLt, leP]
  by_cases h1 : c < a
  · have : ¬ (a < c ∨ a = c ∧ b ≤ d) := by omega
    simp [h1, this]
  · by_cases h2 : a < c
    · simp [h1, h2]
    · obtain rfl : a = c := by omega
      by_cases h3 : d < b
      · have : ¬ (b ≤ d) := by omega
        simp [h3, this]
      · have h4 : b ≤ d := by omega
        simp [h3, h4]
section
variable {X : Cx}
theorem call_sortedD {X : Cx} (hu : X.A.units + 64 < cLine) : CallR X (.builtin "sorted") (fun vs H Q => ∃ (a : Addr) (bs : List (V × PyData)), vs = [V.ref a] ∧ SqL X.K H a (bs.map Prod.fst) ∧ (∀ b ∈ bs, Dp X.K H b.1 b.2) ∧ PySem.W.AllAlike (bs.map Prod.snd) ∧ PySem.W.Sortable (bs.map Prod.snd) ∧
    (∀ b ∈ bs, b.2.depth ≤ 60) ∧ ∀ p, H p = none → Q (.ref p) (upd H p (.lst (sortD bs)))) := by
  intro pins s σ H vs us Q I r h
  obtain ⟨a, bs, rfl, hs, hd, hal, hk, hdep, q⟩ := h
  obtain ⟨its, rv, hl, hz⟩ := I.list hs
  rw [Vals.ref1 r]
  have e1 := each_vals rv
  have e2 : ∀ {cs : List (V × PyData)} {jts : List Value}, (∀ b ∈ cs, Dp X.K H b.1 b.2) → PySem.W.EachIs (fun v (b : V × PyData) => RelV b.1 v) jts cs → PySem.W.EachIs (fun v (b : V × PyData) => ∃ as, PySem.Reads s.heap v b.2 as) jts cs := by
    intro cs jts hc e
    induction e with
    | nil => exact .nil
    | @cons v b as bs' h1 t ih => exact .cons (Dp.reads I b.2 b.1 v (hc b (by simp)) h1) (ih fun b hb => hc b (List.mem_cons_of_mem _ hb))
  have hlen : bs.length ≤ sizeLine := by rw [List.length_map] at hz; exact hz
  refine PySem.W.sorted_data hl.isList e1 (e2 hd e1) hal hk hlen (fun b hb => by have := hdep b hb; omega) fun out h1 h2 => ?_
  obtain ⟨ep, he'⟩ := PyProof.Rows.sortedAll_at s.heap its out.toArray
  have hv := vals_each h2
  have hlen' : (sortD bs).length ≤ sizeLine := by
    unfold sortD
    rw [List.length_map, List.length_mergeSort]
    exact hlen
  exact ⟨.ref _, upd H (s.heap.objs.size + 1) (.lst (sortD bs)), I.laid (t' := s.toks) (fun _ _ => PyProof.Rows.sortedAll_old) (Nat.le_succ _) ⟨hlen', out, ep, hv, he'⟩, rfl, q _ (I.hok.fresh (Nat.le_succ _))⟩
theorem b_sortedP (hu : X.A.units + 64 < cLine) : CallR X (.builtin "sorted") (rdC X.K oSortedP) := by
  intro pins s σ H xs us Q I rx h
  obtain ⟨vs, m, μ, r, M, p⟩ := h
  unfold oSortedP at p
  split at p
  · rename_i n
    split at p
    · rename_i us1 e
      split at p
      · rename_i ps e2
        obtain ⟨v, rfl, r1⟩ := r.one
        obtain ⟨a, ws, rfl, hq, t, h1, h2⟩ := items_ok M r1 e
        have eu := pairsU_ok e2
        subst eu
        -- the triples
        have hlen : ps.length = ws.length := by have := t.length; simpa using this
        have hz : ∀ q ∈ ps.zip ws, RU X.K H μ (pU q.1) q.2 := by
          have key : ∀ (ps : List (Int × Int)) (ws : List V), RUs X.K H μ (ps.map pU) ws → ∀ q ∈ ps.zip ws, RU X.K H μ (pU q.1) q.2 := by
            intro ps
            induction ps with
            | nil => intro ws _ q hq; simp at hq
            | cons x ps ih =>
              intro ws t q hq
              cases t with
              | cons r t =>
                rcases List.mem_cons.mp hq with e | hq
                · subst e; exact r
                · exact ih _ t q hq
          exact key ps ws t
        have hf1 : (ps.zip ws).map Prod.fst = ps := List.map_fst_zip (by omega)
        have hf2 : (ps.zip ws).map Prod.snd = ws := List.map_snd_zip (by omega)
        refine call_sortedD hu pins s σ H _ us Q I rx ⟨a, (ps.zip ws).map fun q => (q.2, pD q.1), rfl, ?_, ?_, ?_, ?_, ?_, fun b hb => ?_⟩
        · rw [List.map_map, show (Prod.fst ∘ fun q : (Int × Int) × V => (q.2, pD q.1)) = Prod.snd from rfl, hf2]
          exact h2 rfl
        · intro b hb
          obtain ⟨q, hq, rfl⟩ := List.mem_map.mp hb
          have := hz q hq
          show Dp X.K H q.2 (pD q.1)
          generalize q.2 = w at this
          cases this with
          | tup hs t => 
            cases t with
            | cons r1 t =>
              cases t with
              | cons r2 t =>
                cases t
                cases r1.i; cases r2.i
                exact .tup hs (.cons (.int _) (.cons (.int _) .nil))
        · intro d hd d' hd'
          simp only [List.map_map, List.mem_map, Function.comp] at hd hd'
          obtain ⟨q, _, rfl⟩ := hd
          obtain ⟨q', _, rfl⟩ := hd'
          rfl
        · refine .inl fun d hd => ?_
          simp only [List.map_map, List.mem_map, Function.comp] at hd
          obtain ⟨q, _, rfl⟩ := hd
          exact ⟨_, _, rfl⟩
        · intro b hb
          obtain ⟨q, hq, rfl⟩ := List.mem_map.mp hb
          simp [pD, PyData.depth, PyData.depthAll]
        · have eS : sortD ((ps.zip ws).map fun q => (q.2, pD q.1)) = ((ps.zip ws).mergeSort fun q r => leP q.1 r.1).map Prod.snd := by
            unfold sortD
            rw [← List.map_mergeSort (r := fun q r => leP q.1 r.1) (f := fun q : (Int × Int) × V => (q.2, pD q.1)) (fun a _ b _ => (leP_data _ _ _ _).symm), List.map_map]
            rfl
          have eP : ps.mergeSort leP = ((ps.zip ws).mergeSort fun q r => leP q.1 r.1).map Prod.fst := by
            conv => lhs; rw [← hf1]
            rw [List.map_mergeSort (r := fun q r => leP q.1 r.1) (s := leP) (f := Prod.fst) (fun a _ b _ => rfl)]
          rw [eP, List.map_map] at p
          rw [eS]
          refine p.lst M ?_ hb
          have hz2 : ∀ q ∈ (ps.zip ws).mergeSort (fun q r => leP q.1 r.1), RU X.K H μ (pU q.1) q.2 := fun q hq => hz q ((List.mergeSort_perm _ _).mem_iff.mp hq)
          generalize (ps.zip ws).mergeSort (fun q r => leP q.1 r.1) = S at hz2
          clear eS eP p
          induction S with
          | nil => exact .nil
          | cons q S ih => exact .cons (hz2 q List.mem_cons_self) (ih fun q hq => hz2 q (List.mem_cons_of_mem _ hq))
      · exact no_op p
    · exact no_op p
  · exact no_op p
end
end Ev

set_option Elab.async false
set_option linter.all false
set_option maxRecDepth 100000
set_option maxHeartbeats 2000000
/-! Ev: list.remove, sorted(set(..)), t[::-1]. -/
namespace Ev
open PySem PySem.Spec PyProof.Rows L2 RZ PySem.SeqAt

/-! ### list.remove of data -/
def oRemove : U → List U → Mem → O U
  | .ref n, [x], m => match m[n]? with
    | some (.lst us) => match datRL (resM m 5) us, dat m x with
      | some ds, some d => if PyData.plainAll ds && PyData.plain d && decide (d.depth ≤ 60) then match dataPlace ds d with
        | some j => some (.non, m.set n (.lst (us.eraseIdx j)))
        | none => none else none
      | _, _ => none
    | _ => none
  | _, _, _ => none
section
variable {X : Cx}
theorem mt_removeD (hu : X.A.units + 65 < cLine) : MtR X "list.remove" (fun x xs H Q => ∃ (l : Addr) (vs : List V) (y : V) (ds : List PyData) (d : PyData) (j : Nat), x = .ref l ∧ xs = [y] ∧ H l = some (.lst vs) ∧ DpAll X.K H vs ds ∧ Dp X.K H y d ∧ PyData.plainAll ds = true ∧ PyData.plain d = true ∧ d.depth ≤ 60 ∧ dataPlace ds d = some j ∧ Q .non (upd H l (.lst (vs.eraseIdx j)))) := by
  intro pins s σ H x xs v us Q I rx rxs h
  obtain ⟨l, vs, y, ds, d, j, rfl, rfl, hH, hds, hd, p1, p2, p3, hj, q⟩ := h
  cases rx
  obtain ⟨u, rfl, ru⟩ := rxs.one
  obtain ⟨z, its, n, r, hl, e⟩ := I.lstM hH
  obtain ⟨as, q1⟩ := Dp.readsAll I ds vs its hds r
  obtain ⟨bs, q2⟩ := Dp.reads I d y u hd ru
  have hl' : s.heap.IsList l its.toArray := ⟨_, e, rfl, n, rfl⟩
  have hz' : its.toArray.size ≤ sizeLine := by
    rw [List.size_toArray]
    omega
  refine remove_list_data hl' (by simpa using q1) q2 p1 p2 (by omega) hj hz' ?_
  refine ⟨.non, _, I.lset (its' := its.eraseIdx j) (t' := s.toks) hH e ?_ (r.eraseIdx j) ?_, rfl, q⟩
  · show its.toArray.eraseIdxIfInBounds j = (its.eraseIdx j).toArray
    rw [List.eraseIdxIfInBounds_toArray]
  · have := List.length_eraseIdx_le vs j
    omega
theorem m_remove (hu : X.A.units + 65 < cLine) : MtR X "list.remove" (rdM X.K oRemove) := by
  intro pins s σ H x xs v us Q I rx rxs h
  obtain ⟨u, ws, m, μ, r, rs, M, p⟩ := h
  unfold oRemove at p
  split at p
  · split at p
    · rename_i us1 e
      split at p
      · rename_i ds d e1 e2
        split at p
        · rename_i hz
          rw [Bool.and_eq_true, Bool.and_eq_true] at hz
          split at p
          · rename_i j ej
            obtain ⟨y, rfl, ry⟩ := rs.one
            obtain ⟨a, vs, rfl, hn, hq, t⟩ := r.cl M e
            exact mt_removeD hu pins s σ H _ _ v us Q I rx rxs ⟨a, vs, y, ds, d, j, rfl, rfl, hq, datRL_ok (resM_ok M 5) t e1, dat_ok M ry e2, hz.1.1, hz.1.2, of_decide_eq_true hz.2, ej, p.setL M hn hq (t.erase j) .non⟩
          · exact no_op p
        · exact no_op p
      · exact no_op p
    · exact no_op p
  · exact no_op p
end
/-! ### sorted(set(t)) of a tuple of ints -/
def insI (k : Int) : List Int → List Int
  | [] => [k]
  | a :: r => if k < a then k :: a :: r else if k = a then a :: r else a :: insI k r
def dsort : List Int → List Int
  | [] => []
  | a :: r => insI a (dsort r)
theorem insI_mem (k x : Int) : ∀ l : List Int, x ∈ insI k l ↔ x = k ∨ x ∈ l
  | [] => by simp [insI]
  | a :: r => by
    have ih := insI_mem k x r
    unfold insI
    split
    · simp
    · split
      · rename_i h1 h2; subst h2; simp
      · rw [List.mem_cons, ih, List.mem_cons]
        constructor
        · rintro (h | h | h) <;> simp [h]
        · rintro (h | h | h) <;> simp [h]
theorem insI_pw (k : Int) : ∀ l : List Int, l.Pairwise (· < ·) → (insI k l).Pairwise (· < ·)
  | [], _ => by simp [insI]
  | a :: r, h => by
    have h' := List.pairwise_cons.mp h
    unfold insI
    split
    · rename_i h1
      refine List.pairwise_cons.mpr ⟨fun y hy => ?_, h⟩
      rcases List.mem_cons.mp hy with e | hy
      · omega
      · have := h'.1 y hy; omega
    · split
      · exact h
      · refine List.pairwise_cons.mpr ⟨fun y hy => ?_, insI_pw k r h'.2⟩
        rcases (insI_mem k y r).mp hy with e | hy
        · omega
        · exact h'.1 y hy
theorem dsort_mem (x : Int) : ∀ l : List Int, x ∈ dsort l ↔ x ∈ l
  | [] => Iff.rfl
  | a :: r => by rw [dsort, insI_mem, dsort_mem x r, List.mem_cons]
theorem dsort_pw : ∀ l : List Int, (dsort l).Pairwise (· < ·)
  | [] => .nil
  | a :: r => insI_pw a _ (dsort_pw r)
theorem inc_uniq : ∀ {a b : List Int}, a.Pairwise (· < ·) → b.Pairwise (· < ·) → (∀ k, k ∈ a ↔ k ∈ b) → a = b := by
  intro a b ha hb h
  have na : a.Nodup := ha.imp fun h e => by omega
  have nb : b.Nodup := hb.imp fun h e => by omega
  have hp : a.Perm b := (List.perm_ext_iff_of_nodup na nb).mpr h
  exact List.Perm.eq_of_pairwise (le := fun x y => x < y) (fun x y _ _ h1 h2 => by omega) ha hb hp
def tSortedSetT (K : PySem.W.Frag) (ta : TE) : TE := fun σ H Q => ta σ H fun x H1 => ∃ (l : Addr) (ns : List Int), x = .ref l ∧ SqT K H1 l (ns.map V.int) ∧ ns.length < 60 ∧ ∀ (os : List Int) (p : Addr), os.Pairwise (· < ·) → (∀ k, k ∈ os ↔ k ∈ ns) → H1 p = none → Q (.ref p) (upd H1 p (.lst (os.map V.int)))
theorem pe_sortedSetT {X : Cx} {a : Expr} {ta : TE} {p p2 q pos : Pos} (hg : Gl X "sorted") (hm : X.mg "sorted" = none) (hg2 : Gl X "set") (hm2 : X.mg "set" = none) (ha : PE X a ta) (hc : X.calm = true := by rfl)
    (na : starEach [a] X.env = (false, eval a X.env) :: starEach [] X.env := by rfl) : PE X (.Call (.Name "sorted" p) [.Call (.Name "set" p2) [a] [] q] [] pos) (tSortedSetT X.K ta) := by
  refine ⟨fun pins s σ H Q I h => ?_⟩
  refine Call_ (ld_blt I hg hm (show bootBuiltins ("sorted" : Str) = some (.builtin "sorted") by decide +kernel) ?_)
  refine PyProof.Rows.callWith_builtin1 (PyProof.Rows.args_cons ?_ rfl) rfl rfl
  refine Call_ (ld_blt I hg2 hm2 boot_set ?_)
  refine PyProof.Rows.callWith_type1 (PyProof.Rows.args_cons (thn (ha.run pins s σ H _ I h) fun v s1 ⟨x, H1, I1, r1, q1⟩ => PyProof.Rows.args_nil ?_) na) na rfl
  obtain ⟨l, ns, rfl, hq, hl, q1⟩ := q1
  cases r1
  obtain ⟨its, rv, pt, hz⟩ := I1.tuple hq
  have hi : PyProof.Rows.IntsAre its.toArray.toList ns := ints_of_vals rv
  refine call_set_tupI ns (I1.ok.hd hc) (show s1.heap.IsTuple l its.toArray from pt) hi (by unfold scanBound; omega) fun h' tk c R1 hcn k => ?_
  refine PyProof.Rows.args_nil ?_
  have I2 : Inv X pins σ H1 { s1 with heap := h', toks := tk } := I1.kept fun b o e => k b o e
  have R2 : SetR X.w ({ s1 with heap := h', toks := tk } : Shared).heap s1.heap.objs.size (fun j => decide (j ∈ ns)) c := R1
  clear R1 k
  generalize ({ s1 with heap := h', toks := tk } : Shared) = s2 at *
  refine sorted_set R2 (I2.ok.hd hc) (by omega) fun s' p out c os k g o hp hg hi hs hm hl => ?_
  have hlen : (os.map V.int).length ≤ sizeLine := by rw [List.length_map, hl, sizeLine_eq]; omega
  have hn : H1 p = none := I2.hok.fresh hp
  have J : Inv X pins σ (upd H1 p (.lst (os.map V.int))) { s2 with heap := s'.heap, gens := s'.gens, drawn := s'.drawn, toks := s'.toks } :=
    I2.call (ch := []) (Un.laid k hp hn) (I2.hok.laid k hp ⟨hlen, out.toList, c, vals_of_ints hi, hg⟩) (by rw [g]; exact I2.bare) (fun _ z => nomatch z)
  have e : s' = { s2 with heap := s'.heap, gens := s'.gens, drawn := s'.drawn, toks := s'.toks } := by
    cases s'
    cases s2
    cases o
    rfl
  rw [e]
  exact ⟨.ref p, _, J, rfl, q1 os p hs (fun k => (hm k).trans (by simp)) hn⟩
def dSortedSet (f : XD) : XD := fun ρ m => (f ρ m).bind fun u m1 => match u with
  | .tup us => match nums us with
    | some ns => if ns.length < 60 then .ok (.ref m1.length) (m1 ++ [.lst ((dsort ns).map .int)]) else .bad
    | none => .bad
  | _ => .bad
section
variable {X : Cx} {c : Nat → Addr} {W : WX} {f : XD}
theorem se_sortedSet {st : Expr} (h : PE X st (tSortedSetT X.K (rdE (wX X c) W f))) : SE X c W st (dSortedSet f) :=
  h.imp fun σ H Q ⟨ρ, m, μ, E, M, p⟩ => ⟨ρ, m, μ, E, M, p.bind.imp fun μ1 H1 m1 u s1 M1 p1 v r => by
    cases u with
    | tup us =>
      simp only at p1
      cases e : nums us with
      | none => rw [e] at p1; exact False.elim p1
      | some ns =>
        rw [e] at p1
        simp only at p1
        split at p1
        · rename_i hl
          have hu := nums_u e
          subst hu
          cases r with
          | tup hs t =>
            rw [t.vints] at hs
            refine ⟨_, ns, rfl, hs, hl, fun os p ho hm hp => ?_⟩
            have eo : os = dsort ns := inc_uniq ho (dsort_pw ns) fun k => (hm k).trans (dsort_mem k ns).symm
            subst eo
            exact (Post.o (o := some (U.ref m1.length, m1 ++ [.lst ((dsort ns).map .int)])) p1).lst M1 (RUs.ints _) hp
        · exact False.elim p1
    | _ => exact False.elim p1⟩
end
/-! ### t[::-1] -/
theorem fm_some {α β : Type} {f : α → Option β} {g : α → β} : ∀ l : List α, (∀ m ∈ l, f m = some (g m)) → l.filterMap f = l.map g
  | [], _ => rfl
  | a :: r, h => by rw [List.filterMap_cons, h a List.mem_cons_self, List.map_cons, fm_some r fun m hm => h m (List.mem_cons_of_mem _ hm)]
theorem pick_rev (xs : Array Value) : ((List.range xs.size).filterMap fun (m : Nat) => xs[((xs.size : Int) - 1 + (m : Int) * (-1)).toNat]?).toArray = xs.toList.reverse.toArray := by
  congr 1
  have h : ∀ m ∈ List.range xs.size, xs[((xs.size : Int) - 1 + (m : Int) * (-1)).toNat]? = some (xs.toList.reverse.getD m .none) := by
    intro m hm
    have hm := List.mem_range.mp hm
    have e : ((xs.size : Int) - 1 + (m : Int) * (-1)).toNat = xs.size - 1 - m := by omega
    rw [e, List.getD_eq_getElem?_getD, List.getElem?_reverse (by simpa using hm), Array.getElem?_toList]
    have : xs.size - 1 - m < xs.size := by omega
    simp [this]
  rw [fm_some _ h]
  refine List.ext_getElem (by simp) fun i h1 h2 => ?_
  rw [List.getElem_map, List.getElem_range, List.getD_eq_getElem?_getD, List.getElem?_eq_getElem h2]
  rfl
theorem adjust_rev (n : Nat) : Builtin.Slice.sliceAdjust none none (-1) (n : Int) = ((n : Int) - 1, -1) := by
  unfold Builtin.Slice.sliceAdjust
  simp
theorem places_rev (n : Nat) : Builtin.Slice.slicePlaces ((n : Int) - 1) (-1) (-1) = n := by
  unfold Builtin.Slice.slicePlaces
  simp
  try omega
section
variable {prog : Program} {w : World} {A : Around} {E : Value → Shared → Prop} {s : Shared}
theorem sliceApplied_rev {sl : Addr} {vl vu vs : Value} {n : Nat} {Q : Int × Int × Nat → Shared → Prop} (hs : s.heap.IsSliceOf sl vl vu vs) (pl : IsPart vl none) (pu : IsPart vu none) (ps : IsPart vs (some (-1)))
    (h : Q ((n : Int) - 1, -1, n) s) : wpAny (model prog w) A (Builtin.Slice.sliceApplied (.ref sl) (pure (n : Int))) Q E s := by
  obtain ⟨os, hos, hcs, hds⟩ := id hs
  unfold Builtin.Slice.sliceApplied Builtin.Slice.sliceFields
  refine wpAny_bind (wpAny_bind (wpAny_field hos hds (x := vl) rfl (wpAny_bind (wpAny_field hos hds (x := vu) rfl (wpAny_bind (wpAny_field hos hds (x := vs) rfl (wpAny_pure ?_)))))))
  refine wpAny_bind (HT.slicePart_ ps ?_)
  show wpAny _ _ (if ((-1 : Int) == 0) = true then _ else _) _ _ s
  rw [if_neg (by decide)]
  refine wpAny_bind (HT.slicePart_ pl (wpAny_bind (HT.slicePart_ pu (wpAny_bind (wpAny_pure ?_)))))
  show wpAny _ _ (match Builtin.Slice.sliceAdjust none none (-1) (n : Int) with | (lo, hi) => pure (lo, (-1 : Int), Builtin.Slice.slicePlaces lo hi (-1))) _ _ s
  rw [adjust_rev n]
  show wpAny _ _ (pure ((n : Int) - 1, (-1 : Int), Builtin.Slice.slicePlaces ((n : Int) - 1) (-1) (-1))) _ _ s
  rw [places_rev]
  exact wpAny_pure h
theorem getItem_tuple_rev {t sl : Addr} {items : Array Value} {vl vu vs : Value} {Q : Value → Shared → Prop} (ht : IsTup s.heap t items) (hs : s.heap.IsSliceOf sl vl vu vs) (pl : IsPart vl none) (pu : IsPart vu none) (ps : IsPart vs (some (-1)))
    (h : Q (.ref s.heap.objs.size) { s with heap := s.heap.push { cls := .type "tuple", data := .seq items.toList.reverse.toArray } })
    (hsz : items.size ≤ sizeLine) : wpAny (model prog w) A (getItem (.ref t) (.ref sl)) Q E s := by
  have htake : sizeOk (.seq items.toList.reverse.toArray) := by
    show (items.toList.reverse.toArray).size ≤ sizeLine
    simpa using hsz
  obtain ⟨os, hos, hcs, hds⟩ := id hs
  have hTs : s.TypeIs (.ref sl) "slice" := ⟨os, hos, hcs⟩
  unfold getItem
  try with_reducible refine wpAny_holding ?_
  first | refine wpAny_bind (wpAny_pure ?_) | skip
  refine wpAny_bind (wpAny_sequenceKey ht.typeIs (by decide) ?_)
  refine wpAny_bind (wpAny_callSpecial?_slot (name := Str.ofString "__getitem__") ht.typeIs PyProof.Rows.slot_tuple_getitem
    (wpAny_call_entry PyProof.Rows.slot_tuple_getitem ht.typeIs entry_tuple_getitem ?_ (args_tuple_getitem _ _)))
  show wpAny _ _ (Builtin.Tuple.tupleItemsOf (.ref t) >>= _) _ _ s
  refine wpAny_bind (tupleItemsOf_ ht ?_)
  refine wpAny_bind (wpAny_typeOf hTs ?_)
  rw [if_pos (by decide)]
  refine wpAny_bind (sliceApplied_rev hs pl pu ps ?_)
  have hno : ¬ ((((items.size : Int) - 1) == 0 && (-1 : Int) == 1 && items.size == items.size) = true) := by
    intro q
    rw [Bool.and_eq_true, Bool.and_eq_true] at q
    exact absurd q.1.2 (by decide)
  show wpAny _ _ (if (((items.size : Int) - 1) == 0 && (-1 : Int) == 1 && items.size == items.size) = true then _ else _) _ _ s
  rw [if_neg hno, pick_rev]
  first
    | exact wpAny_bind (m := Builtin.Tuple.tupleExact _) (wpAny_newObj_type (wpAny_pure ⟨_, rfl, wpAny_pure h⟩) htake)
    | exact wpAny_bind (m := Builtin.Tuple.tupleExact _) (wpAny_newObj_type (wpAny_bind (wpAny_pure (wpAny_pure ⟨_, rfl, wpAny_pure h⟩))) htake)
    | exact wpAny_bind (wpAny_bind (m := Builtin.Tuple.tupleExact _) (wpAny_newObj_type (wpAny_pure (wpAny_pure ⟨_, rfl, wpAny_pure h⟩)) htake))
    | exact wpAny_bind (wpAny_bind (m := Builtin.Tuple.tupleExact _) (wpAny_newObj_type (wpAny_pure ⟨_, rfl, wpAny_pure h⟩) htake))
end
section
variable {X : Cx}
def tRevT (K : PySem.W.Frag) (te : TE) : TE := fun σ H Q => te σ H fun x H1 => ∃ a xs, x = .ref a ∧ SqT K H1 a xs ∧ ∀ p, H1 p = none → Q (.ref p) (upd H1 p (.tup xs.reverse))
theorem pe_revT {e : Expr} {te : TE} {k : Nat} {p1 p2 p3 pos : Pos} (he : PE X e te) : PE X (.Subscript e (.Slice none none (some (.UnaryOp .USub (.Constant (.int 1) k p1) p2)) p3) pos) (tRevT X.K te) := by
  refine ⟨fun pins s σ H Q I h => ?_⟩
  refine Subscript_ (thn (he.run pins s σ H _ I h) fun v s1 ⟨x, H1, I1, r1, q1⟩ => ?_)
  obtain ⟨a, xs, ex, hx, q⟩ := q1
  subst ex
  cases r1
  have hst : PO X (some (.UnaryOp .USub (.Constant (.int 1) k p1) p2)) (tPart (tUn (rU fun i => .int (-i)) (tC (.int 1)))) := po_some (pe_un un_neg pe_int)
  refine wpAny_Slice (thn (po_none.run pins s1 σ H1 (fun o H2 => o = none ∧ H2 = H1) I1 ⟨rfl, rfl⟩) fun vl s2 ⟨l, H2, I2, pl, el, e2⟩ => ?_)
  subst el e2
  refine thn (po_none.run pins s2 σ H2 (fun o H3 => o = none ∧ H3 = H2) I2 ⟨rfl, rfl⟩) fun vu s3 ⟨u, H3, I3, pu, eu, e3⟩ => ?_
  subst eu e3
  refine thn (hst.run pins s3 σ H3 (fun o H4 => o = some (-1) ∧ H4 = H3) I3 ⟨1, rfl, -1, rfl, rfl, rfl⟩) fun vs s4 ⟨o, H4, I4, ps, eo, e4⟩ => ?_
  subst eo e4
  have I5 : Inv X pins σ H4 { s4 with heap := s4.heap.push { cls := .type "slice", data := .fields #[vl, vu, vs] } } := I4.kept (t' := s4.toks) fun b ob q => Heap.get?_push_of_some _ q
  obtain ⟨its, r, ht, hz⟩ := I5.tuple hx
  have hlen := r.length
  show wpAny (model X.prog X.w) X.A (subscriptTail e (.Slice none none (some (.UnaryOp .USub (.Constant (.int 1) k p1) p2)) p3) (.ref a) (.ref s4.heap.objs.size)) (EP X pins σ Q) X.xe { s4 with heap := s4.heap.push { cls := .type "slice", data := .fields #[vl, vu, vs] } }
  refine tail_any (ops := [.ref a, .ref s4.heap.objs.size]) ht.typeIs (PyProof.Rows.slot_tuple_getitem.lookup) ?_ (by with_unfolding_all rfl)
  refine getItem_tuple_rev ht (Heap.IsSliceOf.new _ vl vu vs) pl pu ps ?_ (by rw [List.size_toArray]; omega)
  refine ⟨.ref _, _, I5.laid (t' := s4.toks) (o := .tup xs.reverse) (fun b ob q => Heap.get?_push_of_some _ q) (Nat.le_refl _) ?_, rfl, q _ (I5.hok.fresh (Nat.le_refl _))⟩
  exact ⟨by rw [List.length_reverse]; exact hz, _, by simpa using r.reverse, IsTup.new _ _⟩
variable {c : Nat → Addr} {W : WX} {f : XD}
def dRevT (f : XD) : XD := fun ρ m => (f ρ m).bind fun u m1 => match u with
  | .tup us => .ok (.tup us.reverse) m1
  | _ => .bad
theorem se_revT {st : Expr} (h : PE X st (tRevT X.K (rdE (wX X c) W f))) : SE X c W st (dRevT f) :=
  h.imp fun σ H Q ⟨ρ, m, μ, E, M, p⟩ => ⟨ρ, m, μ, E, M, p.bind.imp fun μ1 H1 m1 u s1 M1 p1 v r => by
    cases u with
    | tup us =>
      cases r with
      | tup hs t => exact ⟨_, _, rfl, hs, fun p hp => (Post.o (o := some (U.tup us.reverse, m1)) p1).tup M1 t.reverse hp⟩
    | _ => exact False.elim p1⟩
end
/-! ### sorted(t) of a tuple of ints -/
def sortI (ns : List Int) : List Int := ns.mergeSort fun a b => decide (a ≤ b)
theorem sortI_uniq {ns os : List Int} (hp : os.Perm ns) (hs : os.Pairwise (· ≤ ·)) : os = sortI ns := by
  have h1 : (sortI ns).Pairwise (fun a b => decide (a ≤ b) = true) := List.pairwise_mergeSort (fun a b c h1 h2 => by simp only [decide_eq_true_eq] at *; omega) (fun a b => by simp only [Bool.or_eq_true, decide_eq_true_eq]; omega) ns
  exact List.Perm.eq_of_pairwise (le := fun a b => a ≤ b) (fun a b _ _ h1 h2 => by omega) hs (h1.imp fun h => of_decide_eq_true h) (hp.trans (List.mergeSort_perm _ _).symm)
section
variable {X : Cx}
theorem call_sortedTI : CallR X (.builtin "sorted") (fun xs H Q => ∃ (a : Addr) (ks : List Int), xs = [.ref a] ∧ SqT X.K H a (ks.map V.int) ∧ ks.length < 64 ∧
    ∀ (ys : List Int) (p : Addr), ys.Perm ks → ys.Pairwise (· ≤ ·) → H p = none → Q (.ref p) (upd H p (.lst (ys.map V.int)))) := by
  intro pins s σ H xs us Q I r q
  obtain ⟨a, ks, ex, hd, h64, q⟩ := q
  subst ex
  obtain ⟨u, eu, rx⟩ := vals1 r
  subst eu
  cases rx
  obtain ⟨its, rv, ⟨o, ho, hcl, n, hdat⟩, hz⟩ := I.tuple hd
  have hS := rv.ints
  have hal : its.toArray.toList.length = ks.length := by
    have z := rv.length
    rw [List.length_map] at z
    simpa using z.symm
  have hS' : IntsAre its.toArray.toList ks := by simpa using hS
  refine Calls.call_function_entry PyProof.Rows.kind_sorted PyProof.Rows.plain_sorted PyProof.Rows.entry_sorted (PyProof.Rows.args_sorted1 _) ?_
  unfold Builtin.«sorted»
  refine wpAny_bind (m := checkCount "sorted" 1 1 _) (wpAny_pure ?_)
  refine wpAny_bind (wpAny_collect_seq a (T := "tuple") (.inr rfl) ho hcl hdat (fun h' hk => ?_) (by rw [List.size_toArray, ← rv.length]; exact hz))
  have I1 : Inv X pins σ H { s with heap := h' } := I.kept (t' := s.toks) hk
  refine wpAny_bind (wpAny_newList ?_ (by rw [hal, sizeLine_eq]; omega))
  have hoL : (h'.push (seqObj "list" its.toArray.toList.toArray 0)).get? h'.objs.size = some (seqObj "list" its.toArray.toList.toArray 0) := Heap.get?_push_size _ rfl
  show wpAny _ _ _ _ _ { s with heap := h'.push (seqObj "list" its.toArray.toList.toArray 0) }
  refine wpAny_bind (wpAny_holding (wpAny_call_entry PyProof.Rows.slot_list_sort ⟨_, hoL, rfl⟩ PyProof.Rows.entry_list_sort
    (list_sort_tree (s := { s with heap := h'.push (seqObj "list" its.toArray.toList.toArray 0) }) hoL hS' (by rw [hal]; exact h64) fun st' ys g1 g2 g3 => ⟨_, rfl, ?_⟩)
    (PyProof.Rows.args_list_sort _)))
  obtain ⟨e', he'⟩ := PyProof.Rows.sortedHeap_at (vs := its.toArray.toList) (out := st') hoL
  have hlen : (ys.map V.int).length ≤ sizeLine := by
    rw [List.length_map, g2.length_eq]
    exact Nat.le_trans (Nat.le_of_lt h64) (by decide)
  refine wpAny_pure ⟨_, rfl, .ref h'.objs.size, upd H h'.objs.size (.lst (ys.map V.int)), I1.laid (t' := s.toks) (fun b u e => ?_) (Nat.le_refl _)
    (show ObjOk X.prog X.w _ _ _ (.lst (ys.map V.int)) from ⟨hlen, st'.toList, e', vals_of_ints g1, by rw [Array.toArray_toList]; exact he'⟩), rfl, q ys _ g2 g3 (I1.hok.fresh (Nat.le_refl _))⟩
  have hb : b < h'.objs.size := Heap.lt_size e
  rw [PyProof.Rows.sortedHeap_old (Nat.ne_of_lt hb) (by rw [size_push']; exact Nat.lt_succ_of_lt hb)]
  exact Heap.get?_push_of_some _ e
/-- sorted(t), t a tuple of ints; sorted(xs), a list of them -/
def oSortedI : List U → Mem → O U
  | [u], m => match itemsOf m u with
    | some us => match nums us with
      | some ns => if ns.length < 64 then some (.ref m.length, m ++ [.lst ((sortI ns).map .int)]) else none
      | none => none
    | none => none
  | _, _ => none
theorem b_sortedI : CallR X (.builtin "sorted") (rdC X.K oSortedI) := by
  intro pins s σ H xs us Q I rx h
  obtain ⟨vs, m, μ, r, M, p⟩ := h
  unfold oSortedI at p
  split at p
  · obtain ⟨v, rfl, r1⟩ := r.one
    split at p
    · rename_i us1 e
      split at p
      · rename_i ns e2
        split at p
        · rename_i hz
          obtain ⟨a, ws, rfl, hq, t, h1, h2⟩ := items_ok M r1 e
          cases nums_u e2
          have ev := t.vints
          subst ev
          cases hT : isT _ with
          | true =>
            refine call_sortedTI pins s σ H _ us Q I rx ⟨a, ns, rfl, h1 hT, hz, fun ys b hp hs hb => ?_⟩
            rw [sortI_uniq hp hs]
            exact p.lst M (RUs.ints _) hb
          | false =>
            refine cr_sorted pins s σ H _ us Q I rx ⟨a, ns, rfl, h2 hT, hz, fun ys b hp hs hb => ?_⟩
            rw [sortI_uniq hp hs]
            exact p.lst M (RUs.ints _) hb
        · exact no_op p
      · exact no_op p
    · exact no_op p
  · exact no_op p
end
/-! ### a statement while a dict is held fast (for k, v in d.items()) -/
def lockS (i : Nat) (f : SD) : SD := fun ρ m => match ρ[i]? with
  | some (some (.ref n)) => match m[n]? with
    | some (.dK kvs) => match f ρ (m.set n (.dF kvs)) with
      | .ok k ρ' m' => .ok k ρ' (m'.set n (.dK kvs))
      | _ => .bad
    | _ => .bad
  | _ => .bad
theorem EOk.mw {K : PySem.W.Frag} {H H' : Hp} {μ μ' : List Addr} {ρ : Env} {σ : L2.St} (E : EOk K H μ ρ σ) (s : MonoW K μ H μ' H') : EOk K H' μ' ρ σ := ⟨E.len, fun i u h => let ⟨v, e, r⟩ := E.at_ i u h; ⟨v, e, r.mw s⟩⟩
section
variable {X : Cx} {c : Nat → Addr} {W : WX} {f : SD}
theorem ss_lock {st : Stmt} {i : Nat} (h : SS X c W st f) : SS X c W st (lockS i f) :=
  (ps_lock h).imp fun D σ H ⟨ρ, m, μ, E, M, p⟩ => by
    unfold lockS at p
    split at p
    · rename_i n hρ
      split at p
      · rename_i kvs hm
        obtain ⟨v, hv, rv⟩ := E.at_ i _ hρ
        cases rv with
        | @ref _ a hn =>
          obtain ⟨vs, hq, t⟩ := M.cell _ _ _ hn hm
          have ha := List.mem_of_getElem? hn
          refine ⟨a, .dK vs, hq, trivial, fun od => ?_⟩
          have s : Step X.K μ H μ (upd H a (.frz od (.dK vs))) := .set ha hq rfl
          refine ⟨ρ, m.set n (.dF kvs), μ, E.step s, M.set hn hq rfl ⟨od, vs, upd_same, PU.step t s⟩, ?_⟩
          cases q : f ρ (m.set n (.dF kvs)) with
          | bad => rw [q] at p; exact p
          | err x ρ1 m1 => rw [q] at p; exact False.elim p
          | ok k ρ' m' =>
            rw [q] at p
            intro μ' H' σ' s1 M' E'
            have hf : H' a = some (.frz od (.dK vs)) := s1.fz _ _ _ upd_same
            have hn' := s1.mono.at hn
            have mw := MonoW.unlock (K := X.K) (μ := μ') hf
            have p' := p μ' _ σ' (Step.unlock ha hq s1) (M'.unlock hn' hf (Paired.mapP (PU.step (PU.step t s) s1) fun _ _ z => ⟨z.1, z.2.mw mw⟩)) (E'.mw mw)
            cases k with
            | nx => exact ⟨hf, p'⟩
            | bk => exact ⟨hf, p'⟩
            | ct => exact ⟨hf, p'⟩
            | rt u => exact fun v r => ⟨hf, p' v (r.mw mw)⟩
      · exact False.elim p
    · exact False.elim p
end
end Ev

set_option Elab.async false
set_option linter.all false
set_option maxRecDepth 100000
set_option maxHeartbeats 2000000
/-! Ev: what is wanted of a run, walked forward (weakest preconditions). -/
namespace Ev
open PySem PySem.Spec L2

@[irreducible] def WR {α : Type} (r : R α) (Q : α → Mem → Prop) (E : Ex → Mem → Prop) : Prop := match r with
  | .ok a m => Q a m
  | .err x m => E x m
  | .bad => False
@[irreducible] def WO {α : Type} (o : O α) (Q : α → Mem → Prop) : Prop := match o with
  | some (a, m) => Q a m
  | none => False
structure Dn where
  nx : Env → Mem → Prop
  rt : U → Mem → Prop
  bk : Env → Mem → Prop
  ct : Env → Mem → Prop
  er : Ex → Env → Mem → Prop
@[irreducible] def WS (r : RS) (D : Dn) : Prop := match r with
  | .ok .nx ρ m => D.nx ρ m
  | .ok (.rt u) _ m => D.rt u m
  | .ok .bk ρ m => D.bk ρ m
  | .ok .ct ρ m => D.ct ρ m
  | .err x ρ m => D.er x ρ m
  | .bad => False
abbrev noE : Ex → Mem → Prop := fun _ _ => False
def AsB (z : U) (k : Bool → Prop) : Prop := match z with
  | .bl b => k b
  | _ => False
def AsI (z : U) (k : Int → Prop) : Prop := match z with
  | .int b => k b
  | _ => False
def IfP (b : Bool) (X Y : Prop) : Prop := (b = true → X) ∧ (b = false → Y)
def SomeP {α : Type} (o : Option α) (k : α → Prop) : Prop := ∃ a, o = some a ∧ k a
def Two (us : List U) (k : U → U → Prop) : Prop := match us with
  | [u, v] => k u v
  | _ => False
def Three (us : List U) (k : U → U → U → Prop) : Prop := match us with
  | [u, v, w] => k u v w
  | _ => False
def TupP (u : U) (k : List U → Prop) : Prop := match u with
  | .tup us => k us
  | _ => False
def IsM (b : Bool) (X : Prop) : Prop := b = true ∧ X

section
variable {α β : Type} {r : R α} {k : α → Mem → R β} {a : α} {m m' : Mem} {ρ : Env} {E : Ex → Mem → Prop} {D : Dn}
theorem wr_ok {Q : α → Mem → Prop} (h : Q a m) : WR (.ok a m) Q E := by with_unfolding_all exact h
theorem wr_eq {Q : α → Mem → Prop} (h : r = .ok a m) (q : Q a m) : WR r Q E := by rw [h]; with_unfolding_all exact q
theorem wr_err {Q : α → Mem → Prop} {x : Ex} (h : r = .err x m) (q : E x m) : WR r Q E := by rw [h]; with_unfolding_all exact q
theorem wr_imp {Q Q' : α → Mem → Prop} (h : WR r Q E) (i : ∀ a m, Q a m → Q' a m) : WR r Q' E := by
  cases r with
  | ok a m => with_unfolding_all exact i _ _ h
  | err x m => with_unfolding_all exact h
  | bad => with_unfolding_all exact h
theorem wr_imp2 {Q Q' : α → Mem → Prop} {E' : Ex → Mem → Prop} (h : WR r Q E) (i : ∀ a m, Q a m → Q' a m) (j : ∀ x m, E x m → E' x m) : WR r Q' E' := by
  cases r with
  | ok a m => with_unfolding_all exact i _ _ h
  | err x m => with_unfolding_all exact j _ _ h
  | bad => with_unfolding_all exact h
theorem wr_no {Q Q' : α → Mem → Prop} (h : WR r Q noE) (i : ∀ a m, Q a m → Q' a m) : WR r Q' E := wr_imp2 h i fun _ _ z => z.elim
theorem wr_get {Q : α → Mem → Prop} (h : WR r Q noE) : ∃ a m, r = .ok a m ∧ Q a m := by
  cases r with
  | ok a m => exact ⟨a, m, rfl, by with_unfolding_all exact h⟩
  | err x m => exact (show False by with_unfolding_all exact h).elim
  | bad => exact (show False by with_unfolding_all exact h).elim
theorem wo_imp {o : O α} {Q Q' : α → Mem → Prop} (h : WO o Q) (i : ∀ a m, Q a m → Q' a m) : WO o Q' := by
  cases o with
  | some p => with_unfolding_all exact i _ _ h
  | none => with_unfolding_all exact h
theorem wo_eq_ {o : O α} {Q : α → Mem → Prop} (h : o = some (a, m)) (q : Q a m) : WO o Q := by rw [h]; with_unfolding_all exact q
theorem wo_some_ {Q : α → Mem → Prop} (h : Q a m) : WO (some (a, m)) Q := by with_unfolding_all exact h
theorem wo_get {Q : α → Mem → Prop} (h : WO (some (a, m)) Q) : Q a m := by with_unfolding_all exact h
theorem wo_no {Q : α → Mem → Prop} (h : WO (none : O α) Q) : False := by with_unfolding_all exact h
theorem wr_bind {Q : β → Mem → Prop} (h : WR r (fun a m => WR (k a m) Q E) E) : WR (r.bind k) Q E := by
  cases r with
  | ok a m => with_unfolding_all exact h
  | err x m => with_unfolding_all exact h
  | bad => with_unfolding_all exact h
theorem wr_bi {Q : β → Mem → Prop} {Q' : α → Mem → Prop} (h : WR r Q' E) (i : ∀ a m, Q' a m → WR (k a m) Q E) : WR (r.bind k) Q E := wr_bind (wr_imp h i)
theorem wr_ofO {o : O α} {Q : α → Mem → Prop} (h : WO o Q) : WR (ofO o) Q E := by
  cases o with
  | some p => with_unfolding_all exact h
  | none => exact (show False by with_unfolding_all exact h).elim
theorem wr_ofB {o : Option α} {Q : α → Mem → Prop} (h : SomeP o fun a => Q a m) : WR (ofB o m) Q E := by
  obtain ⟨a, e, q⟩ := by with_unfolding_all exact h
  rw [e]; with_unfolding_all exact q
theorem asb {b : Bool} {k : Bool → Prop} (h : k b) : AsB (.bl b) k := by with_unfolding_all exact h
theorem asi {b : Int} {k : Int → Prop} (h : k b) : AsI (.int b) k := by with_unfolding_all exact h
theorem two {u v : U} {k : U → U → Prop} (h : k u v) : Two [u, v] k := by with_unfolding_all exact h
theorem tupp {us : List U} {k : List U → Prop} (h : k us) : TupP (.tup us) k := by with_unfolding_all exact h
theorem three {u v w : U} {k : U → U → U → Prop} (h : k u v w) : Three [u, v, w] k := by with_unfolding_all exact h
theorem ifp_t {b : Bool} {X Y : Prop} (h : b = true) (x : X) : IfP b X Y := ⟨fun _ => x, fun z => by rw [h] at z; cases z⟩
theorem ifp_f {b : Bool} {X Y : Prop} (h : b = false) (x : Y) : IfP b X Y := ⟨fun z => (by rw [h] at z; cases z), fun _ => x⟩
theorem ifp_T {X Y : Prop} (x : X) : IfP true X Y := ifp_t rfl x
theorem ifp_F {X Y : Prop} (x : Y) : IfP false X Y := ifp_f rfl x
theorem somep {o : Option α} {k : α → Prop} (h : o = some a) (q : k a) : SomeP o k := ⟨a, h, q⟩
theorem ism {b : Bool} {X : Prop} (h : b = true) (x : X) : IsM b X := ⟨h, x⟩
theorem wr_asB {z : U} {k : Bool → R α} {Q : α → Mem → Prop} (h : AsB z fun b => WR (k b) Q E) : WR (asB z k) Q E := by
  cases z with
  | bl b => with_unfolding_all exact h
  | _ => exact (show False by with_unfolding_all exact h).elim
theorem wr_ite {b : Bool} {x y : R α} {Q : α → Mem → Prop} (h : IfP b (WR x Q E) (WR y Q E)) : WR (if b = true then x else y) Q E := by
  cases b with
  | true => with_unfolding_all exact h.1 rfl
  | false => with_unfolding_all exact h.2 rfl
end

/-! ### expressions -/
section
variable {m : Mem} {ρ : Env} {E : Ex → Mem → Prop} {Q : U → Mem → Prop} {fa fb fc fo fi ff : XD} {fr : XL} {t u : XT}
theorem wr_slot {i : Nat} {x : U} (h : ρ[i]? = some (some x)) (q : Q x m) : WR (dSlot i ρ m) Q E := wr_eq (dSlot_e h) q
theorem wr_C {x : U} (q : Q x m) : WR (dC x ρ m) Q E := by with_unfolding_all exact q
theorem wr_op {F : U → U → Mem → O U} (h : WR (fa ρ m) (fun u m1 => WR (fb ρ m1) (fun v m2 => WO (F u v m2) Q) E) E) : WR (dOp F fa fb ρ m) Q E :=
  wr_bi h fun _ _ h => wr_bi h fun _ _ h => wr_ofO h
theorem wr_un {F : U → Mem → O U} (h : WR (fa ρ m) (fun u m1 => WO (F u m1) Q) E) : WR (dUn F fa ρ m) Q E := wr_bi h fun _ _ h => wr_ofO h
theorem wr_and (h : WR (fa ρ m) (fun z m1 => AsB z fun b => IfP b (WR (fb ρ m1) Q E) (Q (.bl false) m1)) E) : WR (dAnd fa fb ρ m) Q E :=
  wr_bi h fun z _ h => wr_asB (by cases z with
    | bl b => with_unfolding_all exact wr_ite h
    | _ => exact (show False by with_unfolding_all exact h).elim)
theorem wr_or (h : WR (fa ρ m) (fun z m1 => AsB z fun b => IfP b (Q (.bl true) m1) (WR (fb ρ m1) Q E)) E) : WR (dOr fa fb ρ m) Q E :=
  wr_bi h fun z _ h => wr_asB (by cases z with
    | bl b => with_unfolding_all exact wr_ite h
    | _ => exact (show False by with_unfolding_all exact h).elim)
theorem wr_not (h : WR (fa ρ m) (fun z m1 => AsB z fun b => Q (.bl (!b)) m1) E) : WR (dNot fa ρ m) Q E :=
  wr_bi h fun z _ h => wr_asB (by cases z with
    | bl b => with_unfolding_all exact h
    | _ => exact (show False by with_unfolding_all exact h).elim)
theorem wr_if (h : WR (t ρ m) (fun b m1 => IfP b (WR (fa ρ m1) Q E) (WR (fb ρ m1) Q E)) E) : WR (dIf t fa fb ρ m) Q E := wr_bi h fun _ _ h => wr_ite h
theorem wr_chain {F F' : U → U → Mem → O U} (h : WR (fa ρ m) (fun u m1 => WR (fb ρ m1) (fun v m2 => WO (F u v m2) fun z m3 => AsB z fun b => IfP b (WR (fc ρ m3) (fun t m4 => WO (F' v t m4) Q) E) (Q (.bl false) m3)) E) E) : WR (dChain F F' fa fb fc ρ m) Q E :=
  wr_bi h fun _ _ h => wr_bi h fun _ _ h => wr_bi (wr_ofO h) fun z m3 h => by
    cases z with
    | bl b =>
      cases b with
      | true => exact wr_bi (And.left h rfl) fun _ _ h => wr_ofO h
      | false => with_unfolding_all exact And.right h rfl
    | _ => exact (show False by with_unfolding_all exact h).elim
theorem wl_nil {Q : List U → Mem → Prop} (q : Q [] m) : WR (lNil ρ m) Q E := by with_unfolding_all exact q
theorem wl_cons {Q : List U → Mem → Prop} (h : WR (fa ρ m) (fun u m1 => WR (fr ρ m1) (fun us m2 => Q (u :: us) m2) E) E) : WR (lCons fa fr ρ m) Q E := by with_unfolding_all exact (wr_bi h fun _ _ h => wr_bi h fun _ _ h => h)
theorem wr_tup (h : WR (fr ρ m) (fun us m1 => WO (oTup us m1) Q) E) : WR (dTup fr ρ m) Q E := wr_bi h fun _ _ h => wr_ofO h
theorem wr_lst (h : WR (fr ρ m) (fun us m1 => WO (oLst us m1) Q) E) : WR (dLst fr ρ m) Q E := wr_bi h fun _ _ h => wr_ofO h
theorem wr_call {F : List U → Mem → R U} (h : WR (fr ρ m) (fun us m1 => WR (F us m1) Q E) E) : WR (dCall F fr ρ m) Q E := wr_bi h fun _ _ h => h
theorem wr_B {F : List U → Mem → O U} (h : WR (fr ρ m) (fun us m1 => WO (F us m1) Q) E) : WR (dB F fr ρ m) Q E := wr_bi h fun _ _ h => wr_ofO h
theorem wp_none {Q : Option Int → Mem → Prop} (q : Q none m) : WR (pNone ρ m) Q E := by with_unfolding_all exact q
theorem wp_some {Q : Option Int → Mem → Prop} (h : WR (fa ρ m) (fun z m1 => AsI z fun i => Q (some i) m1) E) : WR (pSome fa ρ m) Q E := wr_bi h fun z _ h => by
  cases z with
  | int i => with_unfolding_all exact h
  | _ => exact (show False by with_unfolding_all exact h).elim
theorem wr_slice {lo hi : Env → Mem → R (Option Int)} (h : WR (fa ρ m) (fun u m1 => WR (lo ρ m1) (fun l m2 => WR (hi ρ m2) (fun x m3 => WO (oSlice u l x m3) Q) E) E) E) : WR (dSlice fa lo hi ρ m) Q E :=
  wr_bi h fun _ _ h => wr_bi h fun _ _ h => wr_bi h fun _ _ h => wr_ofO h
theorem wr_isi {T : Ty} (h : WR (fa ρ m) (fun u m1 => SomeP (isTy m1 T u) fun b => Q (.bl b) m1) E) : WR (dIsi T fa ρ m) Q E := wr_bi h fun u m1 h => by
  obtain ⟨b, e, q⟩ := by with_unfolding_all exact h
  simp only [e]; with_unfolding_all exact q
theorem wr_m {T : MTy} {F : U → List U → Mem → O U} (h : WR (fo ρ m) (fun o m1 => IsM (isMT m1 T o) (WR (fr ρ m1) (fun us m2 => WO (F o us m2) Q) E)) E) : WR (dM T F fo fr ρ m) Q E :=
  wr_bi h fun o m1 h => by
    rw [if_pos h.1]
    exact wr_bi h.2 fun _ _ h => wr_ofO h
theorem wr_m0 {T : MTy} {F : U → List U → Mem → O U} (h : WR (fo ρ m) (fun o m1 => IsM (isMT m1 T o) (WO (F o [] m1) Q)) E) : WR (dM0 T F fo ρ m) Q E :=
  wr_bi h fun o m1 h => by
    rw [if_pos h.1]
    exact wr_ofO h.2
theorem wr_lc {f : ID} {g : GD} {vs : List Nat} (h : WR (f ρ m) (fun s m1 => WO (compR g t fa (wipeU ρ vs) s m1) fun ys m2 => WO (oLst ys m2) Q) E) : WR (dLc f g t fa vs ρ m) Q E :=
  wr_bi h fun s m1 h => by
    cases e : compR g t fa (wipeU ρ vs) s m1 with
    | none => rw [e] at h; exact (show False by with_unfolding_all exact h).elim
    | some p =>
      rw [e] at h
      with_unfolding_all exact wr_ofO h
theorem wt_tru {Q : Bool → Mem → Prop} (h : WR (fa ρ m) (fun z m1 => SomeP (truU m1 z) fun b => Q b m1) E) : WR (tTru fa ρ m) Q E := wr_bi h fun _ _ h => wr_ofB h
theorem wt_bl {Q : Bool → Mem → Prop} (h : WR (fa ρ m) (fun z m1 => AsB z fun b => Q b m1) E) : WR (tBl fa ρ m) Q E := wr_bi h fun z _ h => wr_asB (by cases z with
    | bl b => with_unfolding_all exact h
    | _ => exact (show False by with_unfolding_all exact h).elim)
theorem wt_and {Q : Bool → Mem → Prop} (h : WR (t ρ m) (fun b m1 => IfP b (WR (u ρ m1) Q E) (Q false m1)) E) : WR (tAn t u ρ m) Q E := by with_unfolding_all exact (wr_bi h fun _ _ h => wr_ite h)
theorem wt_or {Q : Bool → Mem → Prop} (h : WR (t ρ m) (fun b m1 => IfP b (Q true m1) (WR (u ρ m1) Q E)) E) : WR (tO t u ρ m) Q E := by with_unfolding_all exact (wr_bi h fun _ _ h => wr_ite h)
theorem wt_not {Q : Bool → Mem → Prop} (h : WR (t ρ m) (fun b m1 => Q (!b) m1) E) : WR (tN t ρ m) Q E := by with_unfolding_all exact (wr_bi h fun _ _ h => h)
theorem wt_yes {Q : Bool → Mem → Prop} (q : Q true m) : WR (tYesU ρ m) Q E := by with_unfolding_all exact q
theorem wr_lenset (h : WR (fa ρ m) (fun u m1 => ∃ ns : List Int, u = tI ns ∧ ns.length ≤ 1000 ∧ Q (.int (dcount ns : Nat)) m1) E) : WR (dLenSet fa ρ m) Q E := wr_bi h fun u m1 h => by
  obtain ⟨ns, rfl, hl, q⟩ := by with_unfolding_all exact h
  simp only [nums_ints]
  rw [if_pos hl]; with_unfolding_all exact q
theorem wr_tupRg (h : WR (fa ρ m) (fun u m1 => AsI u fun n => WO (oTupRg 0 n m1) Q) E) : WR (dTupRg fa ρ m) Q E := wr_bi h fun u m1 h => by
  cases u with
  | int n => exact wr_ofO h
  | _ => exact (show False by with_unfolding_all exact h).elim
theorem wr_lstRg (h : WR (fa ρ m) (fun u m1 => AsI u fun n => WO (oLstRg 0 n m1) Q) E) : WR (dLstRg fa ρ m) Q E := wr_bi h fun u m1 h => by
  cases u with
  | int n => exact wr_ofO h
  | _ => exact (show False by with_unfolding_all exact h).elim
theorem wr_tupRg2 (h : WR (fa ρ m) (fun u m1 => WR (fb ρ m1) (fun v m2 => AsI u fun i => AsI v fun j => WO (oTupRg i j m2) Q) E) E) : WR (dTupRg2 fa fb ρ m) Q E := wr_bi h fun u m1 h => wr_bi h fun v m2 h => by
  cases u with
  | int n => cases v with
    | int k => exact wr_ofO h
    | _ => exact (show False by with_unfolding_all exact h).elim
  | _ => exact (show False by with_unfolding_all exact h).elim
theorem wr_lstRg2 (h : WR (fa ρ m) (fun u m1 => WR (fb ρ m1) (fun v m2 => AsI u fun i => AsI v fun j => WO (oLstRg i j m2) Q) E) E) : WR (dLstRg2 fa fb ρ m) Q E := wr_bi h fun u m1 h => wr_bi h fun v m2 h => by
  cases u with
  | int n => cases v with
    | int k => exact wr_ofO h
    | _ => exact (show False by with_unfolding_all exact h).elim
  | _ => exact (show False by with_unfolding_all exact h).elim
theorem wr_revT (h : WR (fa ρ m) (fun u m1 => TupP u fun us => Q (.tup us.reverse) m1) E) : WR (dRevT fa ρ m) Q E := wr_bi h fun u m1 h => by
  unfold TupP at h
  split at h
  · with_unfolding_all exact h
  · exact (show False by with_unfolding_all exact h).elim
end

/-! ### operations -/
/-- a new cell -/
structure Nw (m m' : Mem) (n : Nat) (c : Cell) : Prop where
  at_ : m'[n]? = some c
  eq : m' = m ++ [c]
  len : n = m.length
theorem Nw.mk' (m : Mem) (c : Cell) : Nw m (m ++ [c]) m.length c := ⟨mem_last m c, rfl, rfl⟩
theorem Nw.old {m m' : Mem} {n k : Nat} {c d : Cell} (h : Nw m m' n c) (e : m[k]? = some d) : m'[k]? = some d := by rw [h.eq]; exact mem_old e
/-- a cell is written -/
structure St (m m' : Mem) (n : Nat) (c : Cell) : Prop where
  at_ : m'[n]? = some c
  ne : ∀ k, k ≠ n → m'[k]? = m[k]?
  len : m'.length = m.length
theorem St.mk' {m : Mem} {n : Nat} {d : Cell} (h : m[n]? = some d) (c : Cell) : St m (m.set n c) n c := by
  have hl := (List.getElem?_eq_some_iff.mp h).1
  exact ⟨by rw [List.getElem?_set_self hl], fun k hk => by rw [List.getElem?_set_ne (Ne.symm hk)], by simp⟩
/-- but for the cells of S, what stood stands -/
structure Sv (S : List Nat) (m m' : Mem) : Prop where
  len : m.length ≤ m'.length
  old : ∀ n, n ∉ S → n < m.length → m'[n]? = m[n]?
theorem Sv.refl {S : List Nat} {m : Mem} : Sv S m m := ⟨Nat.le_refl _, fun _ _ _ => rfl⟩
theorem Sv.trans {S : List Nat} {m m' m'' : Mem} (h : Sv S m m') (h2 : Sv S m' m'') : Sv S m m'' := ⟨Nat.le_trans h.len h2.len, fun n hn hl => (h2.old n hn (Nat.lt_of_lt_of_le hl h.len)).trans (h.old n hn hl)⟩
theorem Sv.get {S : List Nat} {m m' : Mem} {n : Nat} {x : Cell} (h : Sv S m m') (e : m[n]? = some x) (hn : n ∉ S) : m'[n]? = some x := by
  rw [h.old n hn (List.getElem?_eq_some_iff.mp e).1, e]
theorem Sv.get0 {m m' : Mem} {n : Nat} {x : Cell} (h : Sv [] m m') (e : m[n]? = some x) : m'[n]? = some x := h.get e (by simp)
theorem Sv.app {S : List Nat} (m t : Mem) : Sv S m (m ++ t) := ⟨by simp, fun n _ hl => by rw [List.getElem?_append_left hl]⟩
theorem Sv.nw {S : List Nat} {m m' : Mem} {n : Nat} {c : Cell} (h : Nw m m' n c) : Sv S m m' := by rw [h.eq]; exact Sv.app _ _
theorem Sv.st {S : List Nat} {m0 m m' : Mem} {n : Nat} {c : Cell} (h0 : Sv S m0 m) (h : St m m' n c) (hn : n ∈ S ∨ m0.length ≤ n) : Sv S m0 m' := by
  refine ⟨by rw [h.len]; exact h0.len, fun k hk hl => ?_⟩
  rw [h.ne k (by rcases hn with hn | hn
                 · exact fun z => hk (z ▸ hn)
                 · omega)]
  exact h0.old k hk hl
theorem Sv.imp {S T : List Nat} {m m' : Mem} (h : Sv S m m') (i : ∀ n ∈ S, n ∈ T ∨ m.length ≤ n) : Sv T m m' := ⟨h.len, fun n hn hl => h.old n (fun z => by
  rcases i n z with z | z
  · exact hn z
  · omega) hl⟩
theorem Sv.ext {m m' : Mem} (h : Sv [] m m') : ∃ t, m' = m ++ t := by
  refine ⟨m'.drop m.length, ?_⟩
  refine List.ext_getElem? fun i => ?_
  by_cases hi : i < m.length
  · rw [List.getElem?_append_left hi]; exact h.old i (by simp) hi
  · rw [List.getElem?_append_right (by omega), List.getElem?_drop]
    congr 1; omega
theorem lt_of_at {m : Mem} {n : Nat} {c : Cell} (h : m[n]? = some c) : n < m.length := (List.getElem?_eq_some_iff.mp h).1
theorem Sv.gr {c : Nat} {m m' : Mem} (h : Gr c m m') : Sv [c] m m' := ⟨h.len, fun n hn hl => h.old n (by simpa using hn) hl⟩
theorem Sv.toGr {c : Nat} {m m' : Mem} (h : Sv [c] m m') (w : Well c m') : Gr c m m' := ⟨h.len, w, fun n hn hl => h.old n (by simpa using hn) hl⟩
section
variable {m : Mem} {ρ : Env} {Q : U → Mem → Prop}
theorem wo_add {i j : Int} (q : Q (.int (i + j)) m) : WO (oAdd (.int i) (.int j) m) Q := by with_unfolding_all exact q
theorem wo_iadd {i j : Int} (q : Q (.int (i + j)) m) : WO (oIAdd (.int i) (.int j) m) Q := by with_unfolding_all exact q
theorem wo_sub {i j : Int} (q : Q (.int (i - j)) m) : WO (oSub (.int i) (.int j) m) Q := by with_unfolding_all exact q
theorem wo_neg {i : Int} (q : Q (.int (-i)) m) : WO (oNeg (.int i) m) Q := by with_unfolding_all exact q
theorem wo_mulA {i j : Int} (h : -18446744073709551616 < i) (h2 : i < 18446744073709551616) (q : Q (.int (i * j)) m) : WO (oMulG (.int i) (.int j) m) Q := wo_eq_ (oMulG_a h h2) q
theorem wo_mulB {i j : Int} (h : -18446744073709551616 < j) (h2 : j < 18446744073709551616) (q : Q (.int (i * j)) m) : WO (oMulG (.int i) (.int j) m) Q := wo_eq_ (oMulG_b h h2) q
theorem wo_mod {i j : Int} (h : 0 < j) (q : Q (.int (i % j)) m) : WO (oMod (.int i) (.int j) m) Q := wo_eq_ (oMod_e h) q
theorem wo_div {i j : Int} (h : 0 < j) (h2 : j.natAbs.log2 < 9000) (q : Q (.int (i / j)) m) : WO (oDiv (.int i) (.int j) m) Q := wo_eq_ (if_pos ⟨h, h2⟩) q
theorem wo_div' {i j : Int} (h : 0 < j) (h2 : j < 18446744073709551616) (q : Q (.int (i / j)) m) : WO (oDiv (.int i) (.int j) m) Q := wo_div h (Nat.lt_of_lt_of_le (log2_lt (k := 64) (by omega) (by decide)) (by decide)) q
theorem wo_cmp {fi : Int → Int → Bool} {fs : List Nat → List Nat → Bool} {i j : Int} (q : Q (.bl (fi i j)) m) : WO (oCmp fi fs (.int i) (.int j) m) Q := by with_unfolding_all exact q
theorem wo_lt {i j : Int} (q : Q (.bl (decide (i < j))) m) : WO (oLt (.int i) (.int j) m) Q := by with_unfolding_all exact q
theorem wo_le {i j : Int} (q : Q (.bl (decide (i ≤ j))) m) : WO (oLe (.int i) (.int j) m) Q := by with_unfolding_all exact q
theorem wo_gt {i j : Int} (q : Q (.bl (decide (j < i))) m) : WO (oGt (.int i) (.int j) m) Q := by with_unfolding_all exact q
theorem wo_ge {i j : Int} (q : Q (.bl (decide (j ≤ i))) m) : WO (oGe (.int i) (.int j) m) Q := by with_unfolding_all exact q
theorem wo_eq {u v : U} {b : Bool} (h : eqU m u v = some b) (q : Q (.bl b) m) : WO (oEq u v m) Q := by unfold oEq; rw [h]; with_unfolding_all exact q
theorem wo_ne {u v : U} {b : Bool} (h : eqU m u v = some b) (q : Q (.bl (!b)) m) : WO (oNe u v m) Q := by unfold oNe; rw [h]; with_unfolding_all exact q
theorem wo_in {u v : U} {b : Bool} (h : inU m u v = some b) (q : Q (.bl b) m) : WO (oIn u v m) Q := by unfold oIn; rw [h]; with_unfolding_all exact q
theorem wo_notIn {u v : U} {b : Bool} (h : inU m u v = some b) (q : Q (.bl (!b)) m) : WO (oNotIn u v m) Q := by unfold oNotIn; rw [h]; with_unfolding_all exact q
theorem wo_isN {u : U} (h : ∀ v, u ≠ .ob v) (q : Q (.bl (isNon u)) m) : WO (oIsN u .non m) Q := by
  cases u with
  | ob v => exact absurd rfl (h v)
  | _ => with_unfolding_all exact q
theorem wo_notN {u : U} (h : ∀ v, u ≠ .ob v) (q : Q (.bl (!isNon u)) m) : WO (oNotN u .non m) Q := by
  cases u with
  | ob v => exact absurd rfl (h v)
  | _ => with_unfolding_all exact q
theorem wo_tup {us : List U} (h : us.length ≤ 16777216) (q : Q (.tup us) m) : WO (oTup us m) Q := wo_eq_ (oTup_e h) q
theorem wo_lst {us : List U} (h : us.length ≤ 16777216) (q : ∀ n m', Nw m m' n (.lst us) → Q (.ref n) m') : WO (oLst us m) Q := wo_eq_ (oLst_e h) (q _ _ (Nw.mk' _ _))
theorem wo_lenT {us : List U} (q : Q (.int us.length) m) : WO (oLen [.tup us] m) Q := by with_unfolding_all exact q
theorem wo_lenRol {us : List U} (q : Q (.int us.length) m) : WO (oLen [.rol us] m) Q := by with_unfolding_all exact q
theorem wo_lenR {n : Nat} {us : List U} (h : m[n]? = some (.lst us)) (q : Q (.int us.length) m) : WO (oLen [.ref n] m) Q := wo_eq_ (oLen_r h) q
theorem wo_lenS {z : Str} (h : z.length ≤ 16777216) (q : Q (.int z.length) m) : WO (oLen [.str z] m) Q := wo_eq_ (if_pos h) q
theorem wo_intI {i : Int} (q : Q (.int i) m) : WO (oInt [.int i] m) Q := by with_unfolding_all exact q
theorem wo_intB {b : Bool} (q : Q (.int (if b then 1 else 0)) m) : WO (oInt [.bl b] m) Q := by with_unfolding_all exact q
theorem wo_abs {i : Int} (q : Q (.int (if i < 0 then -i else i)) m) : WO (oAbs [.int i] m) Q := by with_unfolding_all exact q
theorem wo_max2 {i j : Int} (q : Q (.int (if j > i then j else i)) m) : WO (oMax2 [.int i, .int j] m) Q := by with_unfolding_all exact q
theorem wo_min2 {i j : Int} (q : Q (.int (if j < i then j else i)) m) : WO (oMin2 [.int i, .int j] m) Q := by with_unfolding_all exact q
theorem wo_tupT {us : List U} (q : Q (.tup us) m) : WO (oToTup [.tup us] m) Q := by with_unfolding_all exact q
theorem wo_tupR {n : Nat} {us : List U} (h : m[n]? = some (.lst us)) (q : Q (.tup us) m) : WO (oToTup [.ref n] m) Q := wo_eq_ (oToTup_r h) q
theorem wo_lstT {us : List U} (q : ∀ n m', Nw m m' n (.lst us) → Q (.ref n) m') : WO (oToLst [.tup us] m) Q := by with_unfolding_all exact (q _ _ (Nw.mk' _ _))
theorem wo_lstRol {us : List U} (q : ∀ n m', Nw m m' n (.lst us) → Q (.ref n) m') : WO (oToLst [.rol us] m) Q := by with_unfolding_all exact (q _ _ (Nw.mk' _ _))
theorem wo_lstR {n : Nat} {us : List U} (h : m[n]? = some (.lst us)) (q : ∀ n m', Nw m m' n (.lst us) → Q (.ref n) m') : WO (oToLst [.ref n] m) Q := by
  refine wo_eq_ (a := .ref m.length) (m := m ++ [Cell.lst us]) ?_ (q _ _ (Nw.mk' _ _))
  show (itemsOf m (.ref n)).map _ = _
  unfold itemsOf; simp only [h]; rfl
theorem wo_all {n : Nat} {us : List U} {bs : List Bool} (h : m[n]? = some (.lst us)) (hb : us = bs.map .bl) (q : Q (.bl (bs.all id)) m) : WO (oAll [.ref n] m) Q := by subst hb; exact wo_eq_ (oAll_r h) q
theorem wo_any {n : Nat} {us : List U} {bs : List Bool} (h : m[n]? = some (.lst us)) (hb : us = bs.map .bl) (q : Q (.bl (bs.any id)) m) : WO (oAny [.ref n] m) Q := by
  subst hb
  refine wo_eq_ (a := .bl (bs.any id)) (m := m) ?_ q
  have e : bools (bs.map U.bl) = some bs := by simpa using bools_map (fun b : Bool => b) bs
  unfold oAny; simp only [h, e]; rfl
theorem wo_ixT {us : List U} {i : Int} {x : U} (h : atI us i = some x) (q : Q x m) : WO (oIx (.tup us) (.int i) m) Q := wo_eq_ (oIx_t h) q
theorem wo_ixRol {us : List U} {i : Int} {x : U} (h : atI us i = some x) (q : Q x m) : WO (oIx (.rol us) (.int i) m) Q := by
  refine wo_eq_ (a := x) (m := m) ?_ q
  show (atI us i).map (fun x => (x, m)) = _
  rw [h]; rfl
theorem wo_ixR {n : Nat} {us : List U} {i : Int} {x : U} (hm : m[n]? = some (.lst us)) (h : atI us i = some x) (q : Q x m) : WO (oIx (.ref n) (.int i) m) Q := wo_eq_ (oIx_r hm h) q
theorem wo_ixS {z : Str} {i : Int} {c : Nat} (hz : z.length ≤ 16777216) (h : atI z.cps.toList i = some c) (q : Q (.str ⟨#[c]⟩) m) : WO (oIx (.str z) (.int i) m) Q := by
  refine wo_eq_ (a := .str ⟨#[c]⟩) (m := m) ?_ q
  show (if z.length ≤ sizeLine then (atI z.cps.toList i).map fun c => (U.str ⟨#[c]⟩, m) else none) = _
  rw [h]
  exact if_pos hz
theorem wo_addT {xs ys : List U} (h : xs.length + ys.length ≤ 16777216) (q : Q (.tup (xs ++ ys)) m) : WO (oAdd (.tup xs) (.tup ys) m) Q := wo_eq_ (oAdd_t h) q
theorem wo_addR {l k : Nat} {xs ys : List U} (hl : m[l]? = some (.lst xs)) (hk : m[k]? = some (.lst ys)) (h : xs.length + ys.length ≤ 16777216) (q : ∀ n m', Nw m m' n (.lst (xs ++ ys)) → Q (.ref n) m') : WO (oAdd (.ref l) (.ref k) m) Q := wo_eq_ (oAdd_r hl hk h) (q _ _ (Nw.mk' _ _))
theorem wo_addS {x y : Str} (h : x.length + y.length ≤ 16777216) (q : Q (.str (x ++ y)) m) : WO (oAdd (.str x) (.str y) m) Q := wo_eq_ (if_pos h) q
theorem wo_mulT {xs : List U} {k : Int} (h : -1000 ≤ k) (h2 : k ≤ 1000) (h3 : xs.length ≤ 1000) (q : Q (.tup (List.replicate k.toNat xs).flatten) m) : WO (oMulG (.tup xs) (.int k) m) Q := wo_eq_ (if_pos ⟨h, h2, h3⟩) q
theorem wo_mulR {n : Nat} {xs : List U} {k : Int} (hm : m[n]? = some (.lst xs)) (h : -9223372036854775808 ≤ k) (h2 : k < 9223372036854775808) (h3 : xs.length * k.toNat ≤ 16777216) (q : ∀ n m', Nw m m' n (.lst (List.replicate k.toNat xs).flatten) → Q (.ref n) m') : WO (oMulG (.ref n) (.int k) m) Q := by
  refine wo_eq_ (a := .ref m.length) (m := m ++ [Cell.lst (List.replicate k.toNat xs).flatten]) ?_ (q _ _ (Nw.mk' _ _))
  show oMul (.ref n) (.int k) m = _
  unfold oMul
  simp only [hm]
  exact if_pos ⟨h, h2, h3⟩
theorem wo_sliceT {us : List U} {lo hi : Option Int} (q : Q (.tup (cutU us lo hi)) m) : WO (oSlice (.tup us) lo hi m) Q := by with_unfolding_all exact q
theorem wo_sliceR {n : Nat} {us : List U} {lo hi : Option Int} (h : m[n]? = some (.lst us)) (q : ∀ n m', Nw m m' n (.lst (cutU us lo hi)) → Q (.ref n) m') : WO (oSlice (.ref n) lo hi m) Q := by
  refine wo_eq_ (a := .ref m.length) (m := m ++ [Cell.lst (cutU us lo hi)]) ?_ (q _ _ (Nw.mk' _ _))
  show (match itemsOf m (.ref n) with | some us => some (U.ref m.length, m ++ [Cell.lst (cutU us lo hi)]) | none => none) = _
  unfold itemsOf; simp only [h]
theorem wo_tupRg {a b : Int} (h1 : -4611686018427387904 ≤ a) (h2 : a < 4611686018427387904) (h3 : -4611686018427387904 ≤ b) (h4 : b < 4611686018427387904) (h5 : (b - a).toNat ≤ 16777216) (q : Q (.tup (runI a (b - a).toNat)) m) : WO (oTupRg a b m) Q := wo_eq_ (if_pos ⟨h1, h2, h3, h4, h5⟩) q
theorem wo_lstRg {a b : Int} (h1 : -4611686018427387904 ≤ a) (h2 : a < 4611686018427387904) (h3 : -4611686018427387904 ≤ b) (h4 : b < 4611686018427387904) (h5 : (b - a).toNat ≤ 16777216) (q : ∀ n m', Nw m m' n (.lst (runI a (b - a).toNat)) → Q (.ref n) m') : WO (oLstRg a b m) Q := wo_eq_ (if_pos ⟨h1, h2, h3, h4, h5⟩) (q _ _ (Nw.mk' _ _))
theorem wo_append {n : Nat} {us : List U} {u : U} (hm : m[n]? = some (.lst us)) (h : us.length < 16777216) (q : ∀ m', St m m' n (.lst (us ++ [u])) → Q .non m') : WO (oAppend (.ref n) [u] m) Q := wo_eq_ (oAppend_r hm h) (q _ (St.mk' hm _))
theorem wo_extend {n k : Nat} {us ws : List U} (hm : m[n]? = some (.lst us)) (hk : m[k]? = some (.lst ws)) (h : us.length + ws.length ≤ 16777216) (q : ∀ m', St m m' n (.lst (us ++ ws)) → Q .non m') : WO (oExtend (.ref n) [.ref k] m) Q := by
  refine wo_eq_ (a := U.non) (m := m.set n (.lst (us ++ ws))) ?_ (q _ (St.mk' hm _))
  unfold oExtend
  simp only [hm, hk]
  exact if_pos h
theorem wo_pop {n : Nat} {us : List U} {u : U} (hm : m[n]? = some (.lst (us ++ [u]))) (q : ∀ m', St m m' n (.lst us) → Q u m') : WO (oPop (.ref n) [] m) Q := wo_eq_ (oPop_r hm) (q _ (St.mk' hm _))
theorem wo_popI {n : Nat} {us : List U} {i : Int} {u : U} (hm : m[n]? = some (.lst us)) (h0 : 0 ≤ i) (h1 : i < us.length) (h2 : us.length ≤ 16777216) (hu : us[i.toNat]? = some u) (q : ∀ m', St m m' n (.lst (us.eraseIdx i.toNat)) → Q u m') : WO (oPop (.ref n) [.int i] m) Q := by
  refine wo_eq_ (a := u) (m := m.set n (.lst (us.eraseIdx i.toNat))) ?_ (q _ (St.mk' hm _))
  have hs : seqIndex? i us.length = some i.toNat := (ixN_seq (ixN_at h0 h1)).1
  show (match m[n]? with | some (.lst us) => if -(2 ^ 63) ≤ i ∧ i < 2 ^ 63 then (match seqIndex? i us.length with | some k => (us[k]?).map fun u => (u, m.set n (.lst (us.eraseIdx k))) | none => none) else none | _ => none) = _
  simp only [hm]
  rw [if_pos ⟨by omega, by omega⟩]
  simp only [hs, hu]; rfl
theorem wo_setL {Q : Unit → Mem → Prop} {n : Nat} {us : List U} {i : Int} {v : U} (hm : m[n]? = some (.lst us)) (h0 : 0 ≤ i) (h : i < us.length) (q : ∀ m', St m m' n (.lst (us.set i.toNat v)) → Q () m') : WO (oSetL (.ref n) (.int i) v m) Q := wo_eq_ (oSetL_r hm h0 h) (q _ (St.mk' hm _))
theorem wo_getL {n : Nat} {us : List U} {i : Int} {x : U} (hm : m[n]? = some (.lst us)) (h : atI us i = some x) (q : Q x m) : WO (oGetL (.ref n) (.int i) m) Q := wo_eq_ (oGetL_r hm h) q
theorem wo_sum {n : Nat} {ns : List Int} {us : List U} (hm : m[n]? = some (.lst us)) (hu : us = ns.map .int) (q : Q (.int ns.sum) m) : WO (oSum [.ref n] m) Q := by
  subst hu
  refine wo_eq_ (a := .int ns.sum) (m := m) ?_ q
  unfold oSum itemsOf
  simp only [hm, nums_ints]; rfl
theorem wo_countI {n : Nat} {ns : List Int} {us : List U} {k : Int} (hm : m[n]? = some (.lst us)) (hu : us = ns.map .int) (q : Q (.int (ns.count k : Nat)) m) : WO (oCountI (.ref n) [.int k] m) Q := by
  subst hu
  refine wo_eq_ (a := .int (ns.count k : Nat)) (m := m) ?_ q
  unfold oCountI itemsOf
  simp only [hm, nums_ints]; rfl
theorem isTy_r {n : Nat} {us : List U} {T : Ty} (h : m[n]? = some (.lst us)) : isTy m T (.ref n) = some T.isL := by
  cases T <;> (unfold isTy; simp only [h])
theorem isMT_dK {n : Nat} {kvs : KU} (h : m[n]? = some (.dK kvs)) : isMT m .dict (.ref n) = true := by
  unfold isMT; simp only [h]
theorem wr_sortedSet {E : Ex → Mem → Prop} {fa : XD} (h : WR (fa ρ m) (fun u m1 => ∃ ns : List Int, u = tI ns ∧ ns.length < 60 ∧ ∀ n m', Nw m1 m' n (.lst ((dsort ns).map .int)) → Q (.ref n) m') E) : WR (dSortedSet fa ρ m) Q E := wr_bi h fun u m1 h => by
  obtain ⟨ns, rfl, hl, q⟩ := by with_unfolding_all exact h
  simp only [nums_ints]
  rw [if_pos hl]
  exact wr_ok (q _ _ (Nw.mk' _ _))
theorem wo_sortedI {us : List U} {ns : List Int} {u : U} (h : itemsOf m u = some us) (hu : us = ns.map .int) (hl : ns.length < 64) (q : ∀ n m', Nw m m' n (.lst ((sortI ns).map .int)) → Q (.ref n) m') : WO (oSortedI [u] m) Q := by
  subst hu
  refine wo_eq_ (a := .ref m.length) (m := m ++ [Cell.lst ((sortI ns).map .int)]) ?_ (q _ _ (Nw.mk' _ _))
  unfold oSortedI
  simp only [h, nums_ints]
  exact if_pos hl
end

/-! ### what is walked, statements -/
section
variable {m : Mem} {ρ : Env} {E : Ex → Mem → Prop} {Q : Src → Mem → Prop} {fa fo fi fe : XD} {fr : XL} {t u : XT} {D : Dn} {a b : SD} {g : GD} {f : ID}
theorem wi_any (h : WR (fa ρ m) (fun u m1 => SomeP (srcA m1 u) fun s => Q s m1) E) : WR (iAny fa ρ m) Q E := wr_bi h fun _ _ h => wr_ofB h
theorem wi_rev (h : WR (fa ρ m) (fun u m1 => SomeP (srcR m1 u) fun s => Q s m1) E) : WR (iRev fa ρ m) Q E := wr_bi h fun _ _ h => wr_ofB h
def One (us : List U) (k : U → Prop) : Prop := match us with
  | [u] => k u
  | _ => False
theorem one {u : U} {k : U → Prop} (h : k u) : One [u] k := by with_unfolding_all exact h
theorem wi_enum (h : WR (fr ρ m) (fun us m1 => One us fun u => SomeP (srcE m1 u) fun s => Q s m1) E) : WR (iEnum fr ρ m) Q E := wr_bi h fun us m1 h => by
  unfold One at h
  split at h
  · exact wr_ofB h
  · exact (show False by with_unfolding_all exact h).elim
theorem wi_zip (h : WR (fr ρ m) (fun us m1 => Two us fun u v => SomeP (srcZ m1 u v) fun s => Q s m1) E) : WR (iZip fr ρ m) Q E := wr_bi h fun us m1 h => by
  unfold Two at h
  split at h
  · exact wr_ofB h
  · exact (show False by with_unfolding_all exact h).elim
theorem wi_range1 (h : WR (fr ρ m) (fun us m1 => One us fun u => AsI u fun j => (-4611686018427387904 ≤ j ∧ j < 4611686018427387904) ∧ Q (.fix (runI 0 j.toNat)) m1) E) : WR (iRange1 fr ρ m) Q E := wr_bi h fun us m1 h => by
  unfold One at h
  split at h
  · rename_i u
    unfold AsI at h
    split at h
    · rename_i j
      show WR (if -4611686018427387904 ≤ j ∧ j < 4611686018427387904 then _ else _) _ _
      exact wr_eq (if_pos h.1) h.2
    · exact (show False by with_unfolding_all exact h).elim
  · exact (show False by with_unfolding_all exact h).elim
theorem wi_range2 (h : WR (fr ρ m) (fun us m1 => Two us fun u v => AsI u fun i => AsI v fun j => (-4611686018427387904 ≤ i ∧ i < 4611686018427387904 ∧ -4611686018427387904 ≤ j ∧ j < 4611686018427387904) ∧ Q (.fix (runI i (j - i).toNat)) m1) E) : WR (iRange2 fr ρ m) Q E := wr_bi h fun us m1 h => by
  unfold Two at h
  split at h
  · rename_i u v
    unfold AsI at h
    split at h
    · rename_i i
      split at h
      · rename_i j
        show WR (if -4611686018427387904 ≤ i ∧ i < 4611686018427387904 ∧ -4611686018427387904 ≤ j ∧ j < 4611686018427387904 then _ else _) _ _
        exact wr_eq (if_pos h.1) h.2
      · exact (show False by with_unfolding_all exact h).elim
    · exact (show False by with_unfolding_all exact h).elim
  · exact (show False by with_unfolding_all exact h).elim
theorem wi_revR1 (h : WR (fa ρ m) (fun u m1 => AsI u fun j => (-4611686018427387904 ≤ j ∧ j < 4611686018427387904) ∧ Q (.fix (runI 0 (j - 0).toNat).reverse) m1) E) : WR (iRevR1 fa ρ m) Q E := wr_bi h fun u m1 h => by
  unfold AsI at h
  split at h
  · rename_i j
    show WR (if -4611686018427387904 ≤ j ∧ j < 4611686018427387904 then _ else _) _ _
    exact wr_eq (if_pos h.1) h.2
  · exact (show False by with_unfolding_all exact h).elim
theorem nxL_at {n i : Nat} {us : List U} (h : m[n]? = some (.lst us)) : nxL n i m = some us[i]? := by unfold nxL; rw [h]
theorem srcA_r {n : Nat} {us : List U} (h : m[n]? = some (.lst us)) : srcA m (.ref n) = some (.dyn (us.length + 1) (nxL n)) := by
  show srcOf m (.ref n) = _
  unfold srcOf; simp only [h]; rfl
theorem ws_thenE {α : Type} {r : R α} {k : α → Mem → RS} (h : WR r (fun a m => WS (k a m) D) fun x m => D.er x ρ m) : WS (thenE r ρ k) D := by
  cases r with
  | ok a m => with_unfolding_all exact h
  | err x m => with_unfolding_all exact h
  | bad => with_unfolding_all exact h
theorem ws_thenO {α : Type} {r : O α} {k : α → Mem → RS} (h : WO r (fun a m => WS (k a m) D)) : WS (thenO r k) D := by
  cases r with
  | some p => with_unfolding_all exact h
  | none => with_unfolding_all exact h
theorem ws_te {α : Type} {r : R α} {Q : α → Mem → Prop} {k : α → Mem → RS} (h : WR r Q fun x m => D.er x ρ m) (i : ∀ a m, Q a m → WS (k a m) D) : WS (thenE r ρ k) D := ws_thenE (wr_imp h i)
theorem ws_to {α : Type} {r : O α} {Q : α → Mem → Prop} {k : α → Mem → RS} (h : WO r Q) (i : ∀ a m, Q a m → WS (k a m) D) : WS (thenO r k) D := ws_thenO (wo_imp h i)
variable {N B C : Env → Mem → Prop} {T : U → Mem → Prop} {Er : Ex → Env → Mem → Prop}
theorem ws_next (q : N ρ m) : WS (sNext ρ m) ⟨N, T, B, C, Er⟩ := by with_unfolding_all exact q
theorem ws_break (q : B ρ m) : WS (sBreak ρ m) ⟨N, T, B, C, Er⟩ := by with_unfolding_all exact q
theorem ws_cont (q : C ρ m) : WS (sCont ρ m) ⟨N, T, B, C, Er⟩ := by with_unfolding_all exact q
theorem ws_expr (h : WR (fa ρ m) (fun _ m1 => N ρ m1) fun x m => Er x ρ m) : WS (sExpr fa ρ m) ⟨N, T, B, C, Er⟩ := by with_unfolding_all exact (ws_te h fun _ _ h => h)
theorem ws_ret (h : WR (fa ρ m) (fun u m1 => T u m1) fun x m => Er x ρ m) : WS (sRet fa ρ m) ⟨N, T, B, C, Er⟩ := by with_unfolding_all exact (ws_te h fun _ _ h => h)
theorem ws_retN (q : T .non m) : WS (sRetN ρ m) ⟨N, T, B, C, Er⟩ := by with_unfolding_all exact q
theorem ws_raise {k : Nat} (q : Er ⟨k, none⟩ ρ m) : WS (sRaise k ρ m) ⟨N, T, B, C, Er⟩ := by with_unfolding_all exact q
theorem ws_imp {r : RS} {D D' : Dn} (h : WS r D) (n : ∀ ρ m, D.nx ρ m → D'.nx ρ m) (rt : ∀ u m, D.rt u m → D'.rt u m) (b : ∀ ρ m, D.bk ρ m → D'.bk ρ m) (c : ∀ ρ m, D.ct ρ m → D'.ct ρ m) (e : ∀ x ρ m, D.er x ρ m → D'.er x ρ m) : WS r D' := by
  cases r with
  | ok f ρ m =>
    cases f with
    | nx => with_unfolding_all exact n _ _ h
    | rt u => with_unfolding_all exact rt _ _ h
    | bk => with_unfolding_all exact b _ _ h
    | ct => with_unfolding_all exact c _ _ h
  | err x ρ m => with_unfolding_all exact e _ _ _ h
  | bad => with_unfolding_all exact h
theorem ws_thenS {r : RS} {k : Env → Mem → RS} (h : WS r ⟨fun ρ m => WS (k ρ m) D, D.rt, D.bk, D.ct, D.er⟩) : WS (thenS r k) D := by
  cases r with
  | ok f ρ m =>
    cases f with
    | nx => with_unfolding_all exact h
    | rt u => with_unfolding_all exact h
    | bk => with_unfolding_all exact h
    | ct => with_unfolding_all exact h
  | err x ρ m => with_unfolding_all exact h
  | bad => with_unfolding_all exact h
theorem ws_seq (h : WS (a ρ m) ⟨fun ρ m => WS (b ρ m) ⟨N, T, B, C, Er⟩, T, B, C, Er⟩) : WS (sSeq a b ρ m) ⟨N, T, B, C, Er⟩ := ws_thenS h
theorem ws_ite {c : Bool} {x y : RS} (h : IfP c (WS x D) (WS y D)) : WS (if c = true then x else y) D := by
  cases c with
  | true => with_unfolding_all exact h.1 rfl
  | false => with_unfolding_all exact h.2 rfl
theorem ws_nxD (h : D.nx ρ m) : WS (.ok .nx ρ m) D := by with_unfolding_all exact h
theorem ws_if (h : WR (t ρ m) (fun c m1 => IfP c (WS (a ρ m1) ⟨N, T, B, C, Er⟩) (WS (b ρ m1) ⟨N, T, B, C, Er⟩)) fun x m => Er x ρ m) : WS (sIf t a b ρ m) ⟨N, T, B, C, Er⟩ := ws_te h fun _ _ h => ws_ite h
theorem ws_asg (h : WR (fa ρ m) (fun u m1 => WO (g u ρ m1) N) fun x m => Er x ρ m) : WS (sAsg fa g ρ m) ⟨N, T, B, C, Er⟩ := by with_unfolding_all exact (ws_te h fun _ _ h => ws_to h fun _ _ h => h)
theorem wg_name {Q : Env → Mem → Prop} {i : Nat} {u : U} (q : Q (ρ.set i (some u)) m) : WO (gName i u ρ m) Q := by with_unfolding_all exact q
theorem wg_nil {Q : Env → Mem → Prop} (q : Q ρ m) : WO (gNil [] ρ m) Q := by with_unfolding_all exact q
theorem wg_cons {Q : Env → Mem → Prop} {gs : GL} {u : U} {us : List U} (h : WO (g u ρ m) fun ρ1 m1 => WO (gs us ρ1 m1) Q) : WO (gCons g gs (u :: us) ρ m) Q := by
  show WO (match g u ρ m with | some (ρ1, m1) => gs us ρ1 m1 | none => none) Q
  cases e : g u ρ m with
  | none => rw [e] at h; with_unfolding_all exact h
  | some p => rw [e] at h; with_unfolding_all exact h
theorem wg_cons' {Q : Env → Mem → Prop} {gs : GL} {u : U} {us vs : List U} (e : vs = u :: us) (h : WO (g u ρ m) fun ρ1 m1 => WO (gs us ρ1 m1) Q) : WO (gCons g gs vs ρ m) Q := by subst e; exact wg_cons h
theorem wg_nil' {Q : Env → Mem → Prop} {vs : List U} (e : vs = []) (q : Q ρ m) : WO (gNil vs ρ m) Q := by subst e; with_unfolding_all exact q
theorem wg_tup {Q : Env → Mem → Prop} {n : Nat} {gs : GL} {us : List U} (hl : us.length = n) (h : WO (gs us ρ m) Q) : WO (gTup n gs (.tup us) ρ m) Q := by
  show WO (if us.length = n then gs us ρ m else none) Q
  rw [if_pos hl]; with_unfolding_all exact h
theorem wg_sub {Q : Env → Mem → Prop} {S : U → U → U → Mem → O Unit} {u : U} (h : WR (fo ρ m) (fun o m1 => WR (fi ρ m1) (fun i m2 => WO (S o i u m2) fun _ m3 => Q ρ m3) noE) noE) : WO (gSub S fo fi u ρ m) Q := by
  obtain ⟨o, m1, e1, h⟩ := wr_get h
  obtain ⟨i, m2, e2, h⟩ := wr_get h
  unfold gSub
  simp only [e1, toO, e2]
  cases e : S o i u m2 with
  | none => rw [e] at h; with_unfolding_all exact h
  | some p => rw [e] at h; with_unfolding_all exact h
theorem ws_par {i j : Nat} (h : WR (fr ρ m) (fun us m1 => Two us fun u v => N ((ρ.set i (some u)).set j (some v)) m1) fun x m => Er x ρ m) : WS (sPar i j fr ρ m) ⟨N, T, B, C, Er⟩ := ws_te h fun us m1 h => by
  unfold Two at h
  split at h
  · with_unfolding_all exact h
  · exact (show False by with_unfolding_all exact h).elim
theorem ws_par3 {i j l : Nat} (h : WR (fr ρ m) (fun us m1 => Three us fun u v w => N (((ρ.set i (some u)).set j (some v)).set l (some w)) m1) fun x m => Er x ρ m) : WS (sPar3 i j l fr ρ m) ⟨N, T, B, C, Er⟩ := ws_te h fun us m1 h => by
  unfold Three at h
  split at h
  · with_unfolding_all exact h
  · exact (show False by with_unfolding_all exact h).elim
theorem ws_aug {i : Nat} {F : U → U → Mem → O U} {x : U} (hx : ρ[i]? = some (some x)) (h : WR (fa ρ m) (fun v m1 => WO (F x v m1) fun z m2 => N (ρ.set i (some z)) m2) fun x m => Er x ρ m) : WS (sAug i F fa ρ m) ⟨N, T, B, C, Er⟩ := by
  unfold sAug
  simp only [hx]
  exact ws_te h fun _ _ h => ws_to h fun _ _ h => ws_nxD h
theorem ws_augS {G F : U → U → Mem → O U} {S : U → U → U → Mem → O Unit} (h : WR (fo ρ m) (fun o m1 => WR (fi ρ m1) (fun i m2 => WO (G o i m2) fun x m3 => WR (fe ρ m3) (fun y m4 => WO (F x y m4) fun z m5 => WO (S o i z m5) fun _ m6 => N ρ m6) fun x m => Er x ρ m) fun x m => Er x ρ m) fun x m => Er x ρ m) : WS (sAugS G F S fo fi fe ρ m) ⟨N, T, B, C, Er⟩ :=
  ws_te h fun _ _ h => ws_te h fun _ _ h => ws_to h fun _ _ h => ws_te h fun _ _ h => ws_to h fun _ _ h => ws_to h fun _ _ h => ws_nxD h
theorem ws_for (h : WR (f ρ m) (fun s m1 => WS (forR g b s ρ m1) ⟨N, T, B, C, Er⟩) fun x m => Er x ρ m) : WS (sFor f g b ρ m) ⟨N, T, B, C, Er⟩ := ws_te h fun _ _ h => h
theorem ws_loopS {r : RS} {k : Env → Mem → RS} (h : WS r ⟨fun ρ m => WS (k ρ m) D, D.rt, D.nx, fun ρ m => WS (k ρ m) D, D.er⟩) : WS (loopS r k) D := by
  cases r with
  | ok f ρ m =>
    cases f with
    | nx => with_unfolding_all exact h
    | rt u => with_unfolding_all exact h
    | bk => with_unfolding_all exact h
    | ct => with_unfolding_all exact h
  | err x ρ m => with_unfolding_all exact h
  | bad => with_unfolding_all exact h
/-- a loop over what is fixed, by the number of the turn -/
theorem ws_forL {us : List U} (I : Nat → Env → Mem → Prop) (h0 : I 0 ρ m)
    (hs : ∀ i u ρ m, us[i]? = some u → I i ρ m → WO (g u ρ m) fun ρ1 m1 => WS (b ρ1 m1) ⟨I (i + 1), D.rt, D.nx, I (i + 1), D.er⟩)
    (he : ∀ ρ m, I us.length ρ m → D.nx ρ m) : WS (forL g b us ρ m) D := by
  have key : ∀ (k i : Nat) (ρ : Env) (m : Mem), us.length = i + k → I i ρ m → WS (forL g b (us.drop i) ρ m) D := by
    intro k
    induction k with
    | zero =>
      intro i ρ m hk hi
      rw [List.drop_eq_nil_of_le (by omega)]
      show WS (.ok .nx ρ m) D
      exact ws_nxD (he _ _ (by rw [show us.length = i by omega]; exact hi))
    | succ k ih =>
      intro i ρ m hk hi
      have hl : i < us.length := by omega
      rw [List.drop_eq_getElem_cons hl]
      exact ws_to (hs i us[i] ρ m (List.getElem?_eq_getElem hl) hi) fun ρ1 m1 h1 => ws_loopS (ws_imp h1 (fun ρ m z => ih (i + 1) ρ m (by omega) z) (fun _ _ z => z) (fun _ _ z => z) (fun ρ m z => ih (i + 1) ρ m (by omega) z) fun _ _ _ z => z)
  simpa using key us.length 0 ρ m (by omega) h0
theorem ws_fix {us : List U} (h : WS (forL g b us ρ m) D) : WS (forR g b (.fix us) ρ m) D := by with_unfolding_all exact h
/-- a loop over a cell that stays -/
theorem ws_dyn {us : List U} {nx : Nat → Mem → Option (Option U)} {k : Nat} (I : Nat → Env → Mem → Prop) (hk : us.length < k) (hn : ∀ i ρ m, I i ρ m → nx i m = some us[i]?) (h0 : I 0 ρ m)
    (hs : ∀ i u ρ m, us[i]? = some u → I i ρ m → WO (g u ρ m) fun ρ1 m1 => WS (b ρ1 m1) ⟨I (i + 1), D.rt, D.nx, I (i + 1), D.er⟩)
    (he : ∀ ρ m, I us.length ρ m → D.nx ρ m) : WS (forR g b (.dyn k nx) ρ m) D := by
  have key : ∀ (k i : Nat) (ρ : Env) (m : Mem), us.length < i + k → i ≤ us.length → I i ρ m → WS (forN nx g b k i ρ m) D := by
    intro k
    induction k with
    | zero => intro i ρ m hk hi; omega
    | succ k ih =>
      intro i ρ m hk hi hI
      show WS (match nx i m with | none => .bad | some none => .ok .nx ρ m | some (some u) => thenO (g u ρ m) fun ρ1 m1 => loopS (b ρ1 m1) (forN nx g b k (i + 1))) D
      rw [hn i ρ m hI]
      by_cases hl : i < us.length
      · rw [List.getElem?_eq_getElem hl]
        exact ws_to (hs i us[i] ρ m (List.getElem?_eq_getElem hl) hI) fun ρ1 m1 h1 => ws_loopS (ws_imp h1 (fun ρ m z => ih (i + 1) ρ m (by omega) (by omega) z) (fun _ _ z => z) (fun _ _ z => z) (fun ρ m z => ih (i + 1) ρ m (by omega) (by omega) z) fun _ _ _ z => z)
      · rw [List.getElem?_eq_none (by omega)]
        show WS (.ok .nx ρ m) D
        exact ws_nxD (he _ _ (by rw [show us.length = i by omega]; exact hI))
  exact key k 0 ρ m (by omega) (Nat.zero_le _) h0
/-- while, by what falls -/
theorem ws_while (I : Nat → Env → Mem → Prop) {n0 : Nat} (hn : n0 < 1000000) (h0 : I n0 ρ m)
    (hs : ∀ n ρ m, I n ρ m → WR (t ρ m) (fun c m1 => IfP c (WS (b ρ m1) ⟨fun ρ m => ∃ n' < n, I n' ρ m, D.rt, D.nx, fun ρ m => ∃ n' < n, I n' ρ m, D.er⟩) (D.nx ρ m1)) fun x m => D.er x ρ m) : WS (sWhile t b ρ m) D := by
  have key : ∀ (k n : Nat) (ρ : Env) (m : Mem), n < k → I n ρ m → WS (whileN t b k ρ m) D := by
    intro k
    induction k with
    | zero => intro n ρ m hk; omega
    | succ k ih =>
      intro n ρ m hk hI
      exact ws_te (hs n ρ m hI) fun c m1 h1 => ws_ite ⟨fun hc => ws_loopS (ws_imp (h1.1 hc) (fun ρ m ⟨n', hn', z⟩ => ih n' ρ m (by omega) z) (fun _ _ z => z) (fun _ _ z => z) (fun ρ m ⟨n', hn', z⟩ => ih n' ρ m (by omega) z) fun _ _ _ z => z), fun hc => ws_nxD (h1.2 hc)⟩
  exact key 1000000 n0 ρ m hn h0
/-- a call -/
theorem wr_run {l n : Nat} {b : SD} {us : List U} {Q : U → Mem → Prop} (hl : us.length = n) (h : WS (b (us.map some ++ List.replicate (l - us.length) none) m) ⟨fun _ m => Q .non m, Q, fun _ _ => False, fun _ _ => False, fun x _ m => E x m⟩) : WR (runB l n b us m) Q E := by
  rw [runB_e hl]
  cases hb : b (us.map some ++ List.replicate (l - us.length) none) m with
  | ok f ρ m => rw [hb] at h; cases f <;> with_unfolding_all exact h
  | err x ρ m => rw [hb] at h; with_unfolding_all exact h
  | bad => rw [hb] at h; with_unfolding_all exact h
end

/-! ### comprehensions -/
section
variable {ρ : Env} {g : GD} {t : XT} {e : XD}
/-- over what is fixed: the items that pass, in a row; I may speak of the memory -/
theorem wc_fix {us : List U} {m : Mem} {Q : List U → Mem → Prop} (I : Nat → List U → Mem → Prop) (h0 : I 0 [] m)
    (hs : ∀ i u ys m, us[i]? = some u → I i ys m → WO (g u ρ m) fun ρ1 m1 => WR (t ρ1 m1) (fun c m2 => IfP c (WR (e ρ1 m2) (fun y m3 => I (i + 1) (ys ++ [y]) m3) noE) (I (i + 1) ys m2)) noE)
    (he : ∀ ys m, I us.length ys m → Q ys m) : WO (compR g t e ρ (.fix us) m) Q := by
  have key : ∀ (k i : Nat) (ys : List U) (m : Mem), us.length = i + k → I i ys m → WO (compL g t e ρ (us.drop i) m) fun zs m' => Q (ys ++ zs) m' := by
    intro k
    induction k with
    | zero =>
      intro i ys m hk hi
      rw [List.drop_eq_nil_of_le (by omega)]
      refine wo_some_ (a := []) ?_
      show Q (ys ++ []) m
      rw [List.append_nil]
      exact he _ _ (by rw [show us.length = i by omega]; exact hi)
    | succ k ih =>
      intro i ys m hk hi
      have hl : i < us.length := by omega
      rw [List.drop_eq_getElem_cons hl]
      have h := hs i us[i] ys m (List.getElem?_eq_getElem hl) hi
      unfold compL
      cases e1 : g us[i] ρ m with
      | none => rw [e1] at h; exact (show False by with_unfolding_all exact h).elim
      | some p =>
        obtain ⟨ρ1, m1⟩ := p
        rw [e1] at h
        obtain ⟨c, m2, e2, h⟩ := wr_get (wo_get h)
        simp only [e2, toO]
        cases c with
        | false => exact ih (i + 1) ys m2 (by omega) (h.2 rfl)
        | true =>
          obtain ⟨y, m3, e3, h⟩ := wr_get (h.1 rfl)
          simp only [if_true, e3]
          have := ih (i + 1) (ys ++ [y]) m3 (by omega) h
          cases e4 : compL g t e ρ (us.drop (i + 1)) m3 with
          | none => rw [e4] at this; exact (show False by with_unfolding_all exact this).elim
          | some p =>
            rw [e4] at this
            refine wo_some_ (a := y :: p.1) ?_
            show Q (ys ++ y :: p.1) p.2
            have z : Q (ys ++ [y] ++ p.1) p.2 := wo_get (Q := fun zs m => Q (ys ++ [y] ++ zs) m) this
            rwa [List.append_assoc] at z
  exact wo_imp (key us.length 0 [] m (by omega) h0) fun ys m q => q
/-- over a cell that stays -/
theorem wc_dyn {us : List U} {nx : Nat → Mem → Option (Option U)} {k : Nat} {m : Mem} {Q : List U → Mem → Prop} (I : Nat → List U → Mem → Prop) (hk : us.length < k) (hn : ∀ i ys m, I i ys m → nx i m = some us[i]?) (h0 : I 0 [] m)
    (hs : ∀ i u ys m, us[i]? = some u → I i ys m → WO (g u ρ m) fun ρ1 m1 => WR (t ρ1 m1) (fun c m2 => IfP c (WR (e ρ1 m2) (fun y m3 => I (i + 1) (ys ++ [y]) m3) noE) (I (i + 1) ys m2)) noE)
    (he : ∀ ys m, I us.length ys m → Q ys m) : WO (compR g t e ρ (.dyn k nx) m) Q := by
  have key : ∀ (k i : Nat) (ys : List U) (m : Mem), us.length < i + k → i ≤ us.length → I i ys m → WO (compN nx g t e ρ k i m) fun zs m' => Q (ys ++ zs) m' := by
    intro k
    induction k with
    | zero => intro i ys m hk hi; omega
    | succ k ih =>
      intro i ys m hk hle hi
      unfold compN
      rw [hn i ys m hi]
      by_cases hl : i < us.length
      · rw [List.getElem?_eq_getElem hl]
        have h := hs i us[i] ys m (List.getElem?_eq_getElem hl) hi
        cases e1 : g us[i] ρ m with
        | none => rw [e1] at h; exact (show False by with_unfolding_all exact h).elim
        | some p =>
          obtain ⟨ρ1, m1⟩ := p
          rw [e1] at h
          obtain ⟨c, m2, e2, h⟩ := wr_get (wo_get h)
          simp only [e1, e2, toO]
          cases c with
          | false => exact ih (i + 1) ys m2 (by omega) (by omega) (h.2 rfl)
          | true =>
            obtain ⟨y, m3, e3, h⟩ := wr_get (h.1 rfl)
            simp only [if_true, e3]
            have := ih (i + 1) (ys ++ [y]) m3 (by omega) (by omega) h
            cases e4 : compN nx g t e ρ k (i + 1) m3 with
            | none => rw [e4] at this; exact (show False by with_unfolding_all exact this).elim
            | some p =>
              rw [e4] at this
              refine wo_some_ (a := y :: p.1) ?_
              show Q (ys ++ y :: p.1) p.2
              have z : Q (ys ++ [y] ++ p.1) p.2 := wo_get (Q := fun zs m => Q (ys ++ [y] ++ zs) m) this
              rwa [List.append_assoc] at z
      · rw [List.getElem?_eq_none (by omega)]
        refine wo_some_ (a := []) ?_
        show Q (ys ++ []) m
        rw [List.append_nil]
        exact he _ _ (by rw [show us.length = i by omega]; exact hi)
  exact wo_imp (key k 0 [] m (by omega) (Nat.zero_le _) h0) fun ys m q => q

/-- [e for x in us if t], F and p by the item -/
theorem wc_filt {us : List U} {m : Mem} {Q : List U → Mem → Prop} (S : List Nat) (p : U → Bool) (F : U → U)
    (hs : ∀ (i : Nat) u m1, us[i]? = some u → Sv S m m1 → WO (g u ρ m1) fun ρ1 m2 => WR (t ρ1 m2) (fun c m3 => c = p u ∧ IfP c (WR (e ρ1 m3) (fun y m4 => y = F u ∧ Sv S m m4) noE) (Sv S m m3)) noE)
    (he : ∀ m', Sv S m m' → Q ((us.filter p).map F) m') : WO (compR g t e ρ (.fix us) m) Q := by
  refine wc_fix (fun i ys m' => ys = ((us.take i).filter p).map F ∧ Sv S m m') ⟨rfl, Sv.refl⟩ ?_ ?_
  · rintro i u ys m1 hu ⟨rfl, hS⟩
    refine wo_imp (hs i u m1 hu hS) fun ρ1 m2 h => wr_imp h ?_
    rintro c m3 ⟨hc, h⟩
    have hl := (List.getElem?_eq_some_iff.mp hu).1
    have hue : us[i] = u := (List.getElem?_eq_some_iff.mp hu).2
    have ht : us.take (i + 1) = us.take i ++ [u] := by rw [List.take_succ_eq_append_getElem hl, hue]
    refine ⟨fun hc' => wr_imp (h.1 hc') ?_, fun hc' => ⟨?_, h.2 hc'⟩⟩
    · rintro y m4 ⟨rfl, hS4⟩
      refine ⟨?_, hS4⟩
      rw [ht, List.filter_append, List.map_append, List.filter_cons, ← hc, hc']; rfl
    · rw [ht, List.filter_append, List.map_append, List.filter_cons, ← hc, hc']; simp
  · rintro ys m' ⟨rfl, hS⟩
    rw [List.take_length]
    exact he _ hS
theorem wc_filtD {us : List U} {m : Mem} {k : Nat} {Q : List U → Mem → Prop} (hk : m[k]? = some (.lst us)) (S : List Nat) (hkS : k ∉ S) (p : U → Bool) (F : U → U)
    (hs : ∀ (i : Nat) u m1, us[i]? = some u → Sv S m m1 → WO (g u ρ m1) fun ρ1 m2 => WR (t ρ1 m2) (fun c m3 => c = p u ∧ IfP c (WR (e ρ1 m3) (fun y m4 => y = F u ∧ Sv S m m4) noE) (Sv S m m3)) noE)
    (he : ∀ m', Sv S m m' → Q ((us.filter p).map F) m') : WO (compR g t e ρ (.dyn (us.length + 1) (nxL k)) m) Q := by
  refine wc_dyn (us := us) (fun i ys m' => ys = ((us.take i).filter p).map F ∧ Sv S m m') (by omega) ?_ ⟨rfl, Sv.refl⟩ ?_ ?_
  · rintro i ys m' ⟨_, hS⟩
    unfold nxL; rw [hS.get hk hkS]
  · rintro i u ys m1 hu ⟨rfl, hS⟩
    refine wo_imp (hs i u m1 hu hS) fun ρ1 m2 h => wr_imp h ?_
    rintro c m3 ⟨hc, h⟩
    have hl := (List.getElem?_eq_some_iff.mp hu).1
    have hue : us[i] = u := (List.getElem?_eq_some_iff.mp hu).2
    have ht : us.take (i + 1) = us.take i ++ [u] := by rw [List.take_succ_eq_append_getElem hl, hue]
    refine ⟨fun hc' => wr_imp (h.1 hc') ?_, fun hc' => ⟨?_, h.2 hc'⟩⟩
    · rintro y m4 ⟨rfl, hS4⟩
      refine ⟨?_, hS4⟩
      rw [ht, List.filter_append, List.map_append, List.filter_cons, ← hc, hc']; rfl
    · rw [ht, List.filter_append, List.map_append, List.filter_cons, ← hc, hc']; simp
  · rintro ys m' ⟨rfl, hS⟩
    rw [List.take_length]
    exact he _ hS
theorem wc_map {us : List U} {m : Mem} {Q : List U → Mem → Prop} (S : List Nat) (F : U → U)
    (hs : ∀ (i : Nat) u m1, us[i]? = some u → Sv S m m1 → WO (g u ρ m1) fun ρ1 m2 => WR (e ρ1 m2) (fun y m3 => y = F u ∧ Sv S m m3) noE)
    (he : ∀ m', Sv S m m' → Q (us.map F) m') : WO (compR g tYesU e ρ (.fix us) m) Q :=
  wc_filt S (fun _ => true) F (fun i u m1 hu hS => wo_imp (hs i u m1 hu hS) fun ρ1 m2 h => wt_yes ⟨rfl, ifp_T h⟩) fun m' hS => by
    rw [List.filter_eq_self.mpr fun _ _ => rfl]; exact he m' hS
theorem wc_mapD {us : List U} {m : Mem} {k : Nat} {Q : List U → Mem → Prop} (hk : m[k]? = some (.lst us)) (S : List Nat) (hkS : k ∉ S) (F : U → U)
    (hs : ∀ (i : Nat) u m1, us[i]? = some u → Sv S m m1 → WO (g u ρ m1) fun ρ1 m2 => WR (e ρ1 m2) (fun y m3 => y = F u ∧ Sv S m m3) noE)
    (he : ∀ m', Sv S m m' → Q (us.map F) m') : WO (compR g tYesU e ρ (.dyn (us.length + 1) (nxL k)) m) Q :=
  wc_filtD hk S hkS (fun _ => true) F (fun i u m1 hu hS => wo_imp (hs i u m1 hu hS) fun ρ1 m2 h => wt_yes ⟨rfl, ifp_T h⟩) fun m' hS => by
    rw [List.filter_eq_self.mpr fun _ _ => rfl]; exact he m' hS
/-- the items drawn one by one, each as P says -/
theorem wc_all {us : List U} {m : Mem} {Q : List U → Mem → Prop} (S : List Nat) (P : Nat → U → Prop) (J : Mem → Prop) (hJ : J m)
    (hs : ∀ (i : Nat) u m1, us[i]? = some u → Sv S m m1 → J m1 → WO (g u ρ m1) fun ρ1 m2 => WR (e ρ1 m2) (fun y m3 => P i y ∧ Sv S m m3 ∧ J m3) noE)
    (he : ∀ ys m', ys.length = us.length → (∀ i y, ys[i]? = some y → P i y) → Sv S m m' → J m' → Q ys m') : WO (compR g tYesU e ρ (.fix us) m) Q := by
  refine wc_fix (fun i ys m' => ys.length = i ∧ (∀ j y, ys[j]? = some y → P j y) ∧ Sv S m m' ∧ J m') ⟨rfl, (fun j y h => by simp at h), Sv.refl, hJ⟩ ?_ ?_
  · rintro i u ys m1 hu ⟨hl, hP, hS, hJ1⟩
    refine wo_imp (hs i u m1 hu hS hJ1) fun ρ1 m2 h => wt_yes (ifp_T (wr_imp h ?_))
    rintro y m3 ⟨hy, hS3, hJ3⟩
    refine ⟨by simp [hl], fun j z hz => ?_, hS3, hJ3⟩
    by_cases hj : j < ys.length
    · rw [List.getElem?_append_left hj] at hz; exact hP j z hz
    · have : j = ys.length := by
        have := (List.getElem?_eq_some_iff.mp hz).1
        simp at this; omega
      subst this
      rw [List.getElem?_append_right (Nat.le_refl _)] at hz
      simp at hz
      subst hz
      rw [hl]; exact hy
  · rintro ys m' ⟨hl, hP, hS, hJ1⟩
    exact he ys m' hl hP hS hJ1
end
end Ev

set_option Elab.async false
set_option linter.all false
set_option maxRecDepth 100000
set_option maxHeartbeats 4000000
/-! Ev: defs whose calls know that no object's text is under way (guards = some []). -/
namespace Ev
open PySem PySem.Spec L2 PyProof.Rows

structure FnG (P : Program) (w : World) (K : PySem.W.Frag) (mg : Str → Option Value) (base : Heap) (CX : CXT) (k : Nat) (f : Addr) (fd : FuncData) (ps : List Str) (sp : Sp) : Prop where
  lenG : ∀ vs H Q E, sp vs H Q E → vs.length = ps.length
  go : ∀ (A : Around) (outer : List PySem.Env) (s : Shared) (H : Hp) (args : Args) (us : List Value) (vs : List V) (Q : VK) (E : XK), Room k A → A.guards = some [] → Env0 P w K mg base A outer s H →
    BindsTo s fd args (ps.zip us) → Vals vs us → sp vs H Q E → codeAny (model P w) A (.call (.ref f) args) (CR CX outer P w H s Q E) s
section
variable {P : Program} {w : World} {K : PySem.W.Frag} {mg : Str → Option Value} {base : Heap} {c : Nat → Addr}
theorem FnG.mono {CX : CXT} {j k : Nat} {f : Addr} {fd : FuncData} {ps : List Str} {sp : Sp} (F : FnG P w K mg base CX j f fd ps sp) (h : j ≤ k) : FnG P w K mg base CX k f fd ps sp :=
  ⟨F.lenG, fun A outer s H args us vs Q E hr => F.go A outer s H args us vs Q E (hr.mono h)⟩
theorem FnG.imp {CX : CXT} {k : Nat} {f : Addr} {fd : FuncData} {ps : List Str} {sp sp' : Sp} (F : FnG P w K mg base CX k f fd ps sp) (h : ∀ vs H Q E, sp' vs H Q E → sp vs H Q E) : FnG P w K mg base CX k f fd ps sp' :=
  ⟨fun vs H Q E q => F.lenG _ _ _ _ (h vs H Q E q), fun A outer s H args us vs Q E hr hg he hb hv hs => F.go A outer s H args us vs Q E hr hg he hb hv (h vs H Q E hs)⟩
theorem fn_evG {x qual : Str} {st : Stmt} {f : Addr} {fd : FuncData} {N ps : List Str} {k l n : Nat} {b : SD} {F0 : List U → Mem → R U} (F : Fun K x qual st f fd) (S : FnScope N ps (defScope st)) (hl : N.length = l) (hn : ps.length = n) (hF : F0 = runB l n b)
    (hbody : ∀ (cdv : Value) (A : Around) (outer : List PySem.Env) (s : Shared) (H : Hp) (E : XK), Room k (A.deeper (PyProof.Rows.envOfC qual (defScope st) s.heap.objs.size f cdv)) → (A.deeper (PyProof.Rows.envOfC qual (defScope st) s.heap.objs.size f cdv)).guards = some [] →
      SB (cxOf (L2.CX P w) P w K mg base N qual (defScope st) f cdv A outer s H E) c (fun cls d _ H' => E cls d H') (defBody st) b) : FnG P w K mg base (L2.CX P w) (k + 1) f fd ps (spF K c n F0) := by
  subst hl hn hF
  obtain ⟨oc, od, kV, doc, pm, an, cdv, ct, osl, rfl, lk, hcd⟩ := F.ex
  refine ⟨fun vs H Q E h => h.1, fun A outer s H args us vs Q E hr hg e0 hb r h => LamX.run_ofS lk hcd S hr e0 hb r h.1 fun hr' => ⟨_, hbody cdv A outer s H E hr' hg, ?_⟩⟩
  obtain ⟨hl, xs, m, μ, r1, M, p⟩ := h
  have hu : xs.length = ps.length := r1.length.trans hl
  unfold runB at p
  rw [if_pos hu] at p
  refine ⟨_, m, μ, start_ok r1, M, ?_⟩
  cases e : b (xs.map some ++ List.replicate (N.length - xs.length) none) m with
  | bad => rw [e] at p; exact p.elim
  | err x ρ' m' => rw [e] at p; exact fun μ' H' σ' d s' M' _ ex => p μ' H' d s' M' ex
  | ok fl ρ' m' =>
    rw [e] at p
    cases fl with
    | nx => exact fun μ' H' σ' s' M' _ => p μ' H' s' M' _ .non
    | rt u => exact fun μ' H' σ' s' M' _ => p μ' H' s' M'
    | bk => exact p.elim
    | ct => exact p.elim
end
section
variable {X : Cx}
theorem run_fnG {CX : CXT} {k : Nat} {f : Addr} {fd : FuncData} {ps : List Str} {sp : Sp} {E : L2.St → XK} {pins : List (Addr × Obj)} {σ : L2.St} {H : Hp} {s : Shared} {Q : VK} {us : List Value} {vs : List V} (F : FnG X.prog X.w X.K X.mg X.base CX k f fd ps sp) (hr : Room k X.A) (hgd : X.A.guards = some []) (hb : Binds X.K fd ps [])
    (hx : PassesAt CX X σ (E σ)) (I : Inv X pins σ H s) (r : Vals vs us) (h : sp vs H Q (E σ)) : wpAny (model X.prog X.w) X.A (call (.ref f) us) (EP X pins σ Q) X.xe s := by
  have e1 : (us ++ []).length = ps.length := by rw [List.append_nil, ← r.length, F.lenG vs H Q (E σ) h]
  have b := hb s us I.kIn e1
  rw [List.append_nil] at b
  have run := F.go X.A X.stack s H ⟨us, []⟩ us vs Q (E σ) hr hgd I.env0 b r h
  refine wpAny_call (codeAny_mono run fun z s' hz => ?_)
  match z, hz with
  | .error e, hz => exact hx pins H s e s' I hz
  | .ok (.ret u), hz => exact I.after hz
theorem pe_callG {CX : CXT} {k : Nat} {f : Addr} {fd : FuncData} {ps : List Str} {sp : Sp} {E : L2.St → XK} {x : Str} {e : Expr} {es : List Expr} {t : TA} {p pos : Pos} (F : FnG X.prog X.w X.K X.mg X.base CX k f fd ps sp) (hr : Room k X.A) (hgd : X.A.guards = some []) (hg : Gl X x) (hm : X.mg x = some (.ref f))
    (hk : PySem.W.keepIn X.K (.ref f) = true) (hb : Binds X.K fd ps []) (hx : ∀ σ, PassesAt CX X σ (E σ)) (ha : PA X (e :: es) t) (hdb : (x == ("__debug__" : Str)) = false := by decide)
    (he : starEach (e :: es) X.env = (false, eval e X.env) :: starEach es X.env := by rfl) (hpl : (backTo pos (starEach es X.env)).any (·.1) = false := by rfl) : PE X (.Call (.Name x p) (e :: es) [] pos) (tCallS sp E t) :=
  ⟨fun pins s σ H Q I h => wpAny_Call_Name_kw (ld_glob I hg hm (PySem.W.callWith_K (h₀ := X.base) I.ok.mod.kin hk
    (thn (ha.run pos pins s σ H _ I h) fun us s1 ⟨vs, H1, I1, r, q⟩ => ⟨I1.kIn, run_fnG F hr hgd hb (hx σ) I1 r q⟩) he hpl) hdb)⟩
theorem pe_callG0 {CX : CXT} {k : Nat} {f : Addr} {fd : FuncData} {ps : List Str} {sp : Sp} {E : L2.St → XK} {x : Str} {p pos : Pos} (F : FnG X.prog X.w X.K X.mg X.base CX k f fd ps sp) (hr : Room k X.A) (hgd : X.A.guards = some []) (hg : Gl X x) (hm : X.mg x = some (.ref f))
    (hk : PySem.W.keepIn X.K (.ref f) = true) (hb : Binds X.K fd ps []) (hx : ∀ σ, PassesAt CX X σ (E σ)) (hdb : (x == ("__debug__" : Str)) = false := by decide) : PE X (.Call (.Name x p) [] [] pos) (tCallS sp E tNil) :=
  ⟨fun pins s σ H Q I h => wpAny_Call_Name_kw (ld_glob I hg hm (PySem.W.callWith_K0 I.kIn hk (run_fnG (us := []) F hr hgd hb (hx σ) I .nil h)) hdb)⟩
end
/-! ### the head -/
section
variable {P : Program} {w : World} {K : PySem.W.Frag}
theorem head_run {mg mb : Str → Option Value} {CX : CXT} {k : Nat} {fa ad : Addr} {fd : FuncData} {x : Str} {sp : Sp} {s0 : Shared} {vs : List Value} (k1 : K.In s0.heap) (k2 : s0.heap.Ns mainGlobals mg) (k3 : s0.heap.Ns builtinsNs mb)
    (k4 : ∀ x : Str, x ≠ "__name__" → mb x = bootBuiltins x) (k5 : s0.heap.NoLimit) (k6 : s0.gens = #[]) (ha : s0.heap.get? ad = some { cls := .type "list", data := .seq vs.toArray }) (hr : Room k callerA)
    (F : ∀ base : Heap, K.In base → base.Ns mainGlobals mg → FnG P w K mg base CX k fa fd [x] sp) (hb : ∀ (s : Shared) (u : Value), BindsTo s fd ⟨[u], []⟩ [(x, u)]) (hCX : ∀ H e s', CX [] H s0 (fun _ _ _ => False) e s' → False)
    (H : Hp) (hO : L2.Only H) (hsp : sp [.ref ad] H (fun v _ => v = .bl true) fun _ _ _ => False) (hok : HOk P w H s0.heap) (hA : ∀ b, H b ≠ none → b = ad) (hK : H ad ≠ none → K.lookup ad = none) :
    codeAny (model P w) callerA (.call (.ref fa) ⟨[.ref ad], []⟩) (fun r s' => r = .ok (.ret (.bool true)) ∧ OldK s0.heap s'.heap ∧ s'.os = s0.os ∧ AllBare s'.gens) s0 := by
  have only : ∀ {b : Addr}, H b ≠ none → b = ad := fun {b} z => hA b z
  have dictN : ∀ {b : Addr} {o : Obj} {es : Array DictEntry} {ep : Nat}, s0.heap.get? b = some o → o.data = .dict es ep → H b = none := by
    intro b o es ep e1 e2
    by_cases z : H b = none
    · exact z
    · have z2 := only z
      subst z2
      rw [ha] at e1
      have e3 := Option.some.inj e1
      subst e3
      cases e2
  have nsT : ∀ {b : Addr} {m : Str → Option Value}, s0.heap.Ns b m → (hidT s0.heap H).Ns b m := by
    rintro b m ⟨o, es, ep, e1, e2, e3⟩
    exact ⟨o, es, ep, hidT_get e1 (dictN e1 e2), e2, e3⟩
  have kT : K.In (hidT s0.heap H) := by
    intro b o e1
    refine hidT_get (k1 b o e1) ?_
    by_cases z : H b = none
    · exact z
    · have z2 := only z
      subst z2
      have z3 := hK z
      rw [e1] at z3
      cases z3
  obtain ⟨mc, l1, l2⟩ := k5
  have mod : Mod K mg (hidT s0.heap H) := ⟨kT, nsT k2, ⟨mb, nsT k3, k4⟩, ⟨mc, nsT l1, l2⟩⟩
  have env : Env0 P w K mg (hidT s0.heap H) callerA [] s0 H := ⟨rfl, mod, fun _ _ e => of_hidT e, Nat.le_of_eq (hidT_size _ _), trivial, (fun b z => by cases z), hok, .of_eq k6⟩
  have run := (F (hidT s0.heap H) kT (nsT k2)).go callerA [] s0 H ⟨[.ref ad], []⟩ [.ref ad] [.ref ad] _ _ hr rfl env (hb s0 (.ref ad)) (.cons rfl .nil) hsp
  refine codeAny_mono run fun r s' h => ?_
  match r, h with
  | .error e, h => exact (hCX H e s' h).elim
  | .ok (.ret u), h =>
    obtain ⟨v, H', os, bare, un, hok', rv, q⟩ := h
    have q1 : v = .bl true := q
    subst q1
    have q2 : u = Value.bool true := rv
    subst q2
    refine ⟨rfl, OldK.of_keep fun b o e1 => ?_, os, bare⟩
    rcases hO b with z | ⟨ob, xs, z⟩
    · exact un.keep b o e1 z (fun y => by cases y) (by simp)
    · obtain ⟨f1, _⟩ := hok b _ z
      obtain ⟨f2, _⟩ := hok' b _ (un.frzs b ob _ z)
      exact f2.trans (f1.symm.trans e1)
theorem head_call {mg mb : Str → Option Value} {CX : CXT} {k : Nat} {fa ad : Addr} {fd : FuncData} {x : Str} {sp : Sp} {s0 : Shared} {vs : List Value} {ns : List Int} (k1 : K.In s0.heap) (k2 : s0.heap.Ns mainGlobals mg) (k3 : s0.heap.Ns builtinsNs mb)
    (k4 : ∀ x : Str, x ≠ "__name__" → mb x = bootBuiltins x) (k5 : s0.heap.NoLimit) (k6 : s0.gens = #[]) (ha : s0.heap.get? ad = some { cls := .type "list", data := .seq vs.toArray }) (hi : PyProof.Rows.IntsAre vs ns) (hl : ns.length ≤ sizeLine) (hr : Room k callerA)
    (F : ∀ base : Heap, K.In base → base.Ns mainGlobals mg → FnG P w K mg base CX k fa fd [x] sp) (hb : ∀ (s : Shared) (u : Value), BindsTo s fd ⟨[u], []⟩ [(x, u)])
    (hsp : ∀ H : Hp, L2.Only H → SqL K H ad (ns.map V.int) → sp [.ref ad] H (fun v _ => v = .bl true) fun _ _ _ => False) (hCX : ∀ H e s', CX [] H s0 (fun _ _ _ => False) e s' → False) :
    codeAny (model P w) callerA (.call (.ref fa) ⟨[.ref ad], []⟩) (fun r s' => r = .ok (.ret (.bool true)) ∧ OldK s0.heap s'.heap ∧ s'.os = s0.os ∧ AllBare s'.gens) s0 := by
  have go := head_run (vs := vs) k1 k2 k3 k4 k5 k6 ha hr F hb hCX
  have rv := L2.vals_ints hi
  have lv : vs.length = ns.length := hi.length.symm ▸ rfl
  cases hk : K.lookup ad with
  | some o =>
    have e1 := k1 ad o hk
    rw [ha] at e1
    have e2 := Option.some.inj e1
    subst e2
    have hO : L2.Only fun _ => none := fun _ => Or.inl rfl
    exact go (fun _ => none) hO (hsp _ hO (.inr ⟨_, vs.toArray, _, hk, rfl, rfl, rfl, by rw [List.size_toArray, lv]; exact hl, by simpa using rv⟩)) (fun b u z => by cases (show (none : Option HO) = some u from z)) (fun b z => absurd rfl z) (fun z => absurd rfl z)
  | none =>
    obtain ⟨H, hH⟩ : ∃ H : Hp, H = fun b => if b = ad then some (.frz { cls := .type "list", data := .seq vs.toArray } (.lst (ns.map V.int))) else none := ⟨_, rfl⟩
    have at1 : H ad = some (.frz { cls := .type "list", data := .seq vs.toArray } (.lst (ns.map V.int))) := by rw [hH]; exact if_pos rfl
    have at2 : ∀ b, b ≠ ad → H b = none := fun b z => by rw [hH]; exact if_neg z
    have hO : L2.Only H := fun b => by
      by_cases z : b = ad
      · subst z; exact .inr ⟨_, _, at1⟩
      · exact .inl (at2 b z)
    refine go H hO (hsp H hO (.inl (.inr ⟨_, at1⟩))) (fun b u z => ?_) (fun b z => ?_) fun _ => hk
    · by_cases y : b = ad
      · subst y
        rw [at1] at z
        have z2 := Option.some.inj z
        subst z2
        exact ⟨ha, by rw [List.length_map]; exact hl, vs, _, rv, ha⟩
      · rw [at2 b y] at z; cases z
    · by_cases y : b = ad
      · exact y
      · exact absurd (at2 b y) z
end
theorem walk_G {l : PySem.W.OpenLaw} {n k : Nat} {q : Program} {loose : List Str} {XP : (Str → Option Value) → Heap → Prop} {YP : World → Heap → Prop} {d : DefRec} {K : Params → PySem.W.Frag} {CX : World → CXT} {sp : World → Sp} {x : Str} (hn : l.most = some n) (hn2 : n ≤ sizeLine) (hdf : d.params.defaults = [])
    (hr : Room k callerA) (hY : ∀ (w : World) (h : Heap), YP w h → (K w.params).In h)
    (F : ∀ (w : World) (mg : Str → Option Value) (fa : Addr) (h : Heap), (K w.params).In h → h.Ns mainGlobals mg → mg d.name = some (.ref fa) → ∃ fd : FuncData, (∀ (s : Shared) (u : Value), BindsTo s fd ⟨[u], []⟩ [(x, u)]) ∧
      ∀ base : Heap, (K w.params).In base → base.Ns mainGlobals mg → FnG l.prog w (K w.params) mg base (CX w) k fa fd [x] (sp w))
    (hsp : ∀ (w : World) (H : Hp) (a : Addr) (ns : List Int), ns.length ≤ n → L2.Only H → SqL (K w.params) H a (ns.map V.int) → sp w [.ref a] H (fun v _ => v = .bl true) fun _ _ _ => False)
    (hCX : ∀ (w : World) (H : Hp) (s : Shared) (e : Value) (s' : Shared), CX w [] H s (fun _ _ _ => False) e s' → False) : PySem.W.WalkO q loose XP YP l.row.toRowW d [] (fun f vs => PySem.call f vs) :=
  Att.attach_call hn hdf fun w s₀ s₁ mg mb fa o pm cd doc a vs ns G Y ho hd hcd hmg hobj hints hlen hg => by
    obtain ⟨fd, hb, hF⟩ := F w mg fa _ (hY w _ Y) G.T.g hmg
    exact head_call (hY w _ Y) G.T.g G.T.b G.T.builtins G.T.nolimit hg hobj hints (Nat.le_trans hlen hn2) hr hF hb (fun H hO hS => hsp w H a ns hlen hO hS) fun H e s' => hCX w H s₁ e s'
end Ev

set_option Elab.async false
set_option linter.all false
set_option maxRecDepth 100000
set_option maxHeartbeats 4000000
/-! Ev: repr of data, where no object's text is under way. -/
namespace Ev
open PySem PySem.Spec L2 PyProof.Rows
def showOk (d : PyData) : Bool := d.showable && !d.hasDict && decide (d.shown.length ≤ sizeLine) && decide (d.depth ≤ 40)
def oRepr : List U → Mem → O U
  | [u], m => match dat m u with
    | some d => if showOk d then some (.str d.shown, m) else none
    | none => none
  | _, _ => none
theorem b_repr {X : Cx} (hg : X.A.guards = some []) (hu : X.A.units + 64 < cLine) : CallR X (.builtin "repr") (rdC X.K oRepr) := by
  intro pins s σ H xs us Q I r h
  obtain ⟨us1, m, μ, rs, M, p⟩ := h
  match us1, rs, p with
  | [u], .cons r1 .nil, p =>
    obtain ⟨v, rfl, rv⟩ := vals1 r
    cases e : dat m u with
    | none =>
      have e2 : oRepr [u] m = none := by unfold oRepr; simp only [e]
      rw [e2] at p; exact p.elim
    | some d =>
      cases hs : showOk d with
      | false =>
        have e2 : oRepr [u] m = none := by unfold oRepr; simp only [e, hs]; rfl
        rw [e2] at p; exact p.elim
      | true =>
        have e2 : oRepr [u] m = some (.str d.shown, m) := by unfold oRepr; simp only [e, hs]; rfl
        rw [e2] at p
        have q : Q (.str d.shown) H := PostO.val p M (.str _)
        unfold showOk at hs
        simp only [Bool.and_eq_true, Bool.not_eq_true', decide_eq_true_eq] at hs
        obtain ⟨⟨⟨s1, s2⟩, s3⟩, s4⟩ := hs
        have D := dat_ok M r1 e
        obtain ⟨as, R⟩ := Dp.reads I d _ v D rv
        have fin : ∀ (t : Nat) (w : Tok), EP X pins σ Q (.str d.shown w) { s with toks := t } := fun t w => ⟨.str _, H, I.tok _, ⟨_, rfl⟩, q⟩
        cases D with
        | int i => obtain ⟨t, rfl⟩ := rv; exact PySem.P.repr_of_int (by simpa [PyData.showable] using s1) (fin _ _)
        | bl b => cases (show v = _ from rv); exact PySem.P.repr_of_bool (by cases b <;> exact fin _ _)
        | non => cases (show v = _ from rv); exact PySem.P.repr_of_none (fin _ _)
        | str x => obtain ⟨t, rfl⟩ := rv; exact PySem.P.repr_of_str (fin _ _) s3
        | lst hq ha =>
          cases (show v = _ from rv)
          exact repr_of_reads' R s1 (fun z => by rw [s2] at z; cases z) hg (by omega) (fun _ _ z => z) (fun h' w t k => ⟨.str _, H, I.kept (t' := t) k, ⟨_, rfl⟩, q⟩) s3
        | tup hq ha =>
          cases (show v = _ from rv)
          exact repr_of_reads' R s1 (fun z => by rw [s2] at z; cases z) hg (by omega) (fun _ _ z => z) (fun h' w t k => ⟨.str _, H, I.kept (t' := t) k, ⟨_, rfl⟩, q⟩) s3
theorem wo_repr {m : Mem} {Q : U → Mem → Prop} {u : U} {d : PyData} (h : dat m u = some d) (hs : showOk d = true) (q : Q (.str d.shown) m) : WO (oRepr [u] m) Q := by
  refine wo_eq_ (a := .str d.shown) (m := m) ?_ q
  unfold oRepr; simp only [h, hs]; rfl
end Ev

set_option Elab.async false
set_option linter.all false
set_option maxRecDepth 100000
set_option maxHeartbeats 4000000
/-! Ev: [e for .. in .. if .. for .. in .. if ..]. -/
namespace Ev
open PySem PySem.Spec L2
def comp2N (nx : Nat → Mem → Option (Option U)) (g : GD) (t : XT) (f1 : ID) (g1 : GD) (t1 : XT) (e : XD) (vs1 : List Nat) (ρ : Env) : Nat → Nat → Mem → O (List U)
  | 0, _, _ => none
  | k + 1, i, m => match nx i m with
    | none => none
    | some none => some ([], m)
    | some (some u) => match g u ρ m with
      | none => none
      | some (ρ1, m1) => match toO (t ρ1 m1) with
        | none => none
        | some (b, m2) => if b then match toO (f1 ρ1 m2) with
            | none => none
            | some (s, m3) => match compR g1 t1 e (wipeU ρ1 vs1) s m3 with
              | none => none
              | some (ys, m4) => match comp2N nx g t f1 g1 t1 e vs1 ρ k (i + 1) m4 with
                | none => none
                | some (zs, m5) => some (ys ++ zs, m5)
          else comp2N nx g t f1 g1 t1 e vs1 ρ k (i + 1) m2
def dLc2 (f : ID) (g : GD) (t : XT) (f1 : ID) (g1 : GD) (t1 : XT) (e : XD) (vs vs1 : List Nat) : XD := fun ρ m => (f ρ m).bind fun s m1 => ofO (oList (comp2N s.next g t f1 g1 t1 e vs1 (wipeU ρ vs) (srcLen s) 0 m1))
section
variable {X : Cx} {c : Nat → Addr} {W : WX} {e : Expr} {f f1 : ID} {g0 g01 : TG} {g g1 : GD} {t t1 : XT} {fe : XD} {vs vs1 : List Nat}
theorem lc2_of (hg : GW X.K g0 g vs) (hg1 : GW X.K g01 g1 vs1) {σ : L2.St} {H : Hp} {Q : VK} (q : rdE (wX X c) W (dLc2 f g t f1 g1 t1 fe vs vs1) σ H Q) :
    tLc2 (rdI (wX X c) W f) g0 (rdT (wX X c) (fun _ _ _ _ => False) t) (rdI (wX X c) (fun _ _ _ _ => False) f1) g01 (rdT (wX X c) (fun _ _ _ _ => False) t1) (rdE (wX X c) (fun _ _ _ _ => False) fe) vs vs1 σ H Q := by
  obtain ⟨ρ, m, μ, E, M, p⟩ := q
  refine ⟨ρ, m, μ, E, M, p.bind.imp fun μ1 H1 m1 src s1 M1 p1 J hJ D hD => ?_⟩
  have p1 := p1.o
  obtain ⟨C, hC⟩ : ∃ C, comp2N src.next g t f1 g1 t1 fe vs1 (wipeU ρ vs) = C := ⟨_, rfl⟩
  have E1 := (E.step s1).wipe vs
  let Fin : List U → O (List U) → Prop := fun acc o => match o with
    | some (ys, m') => (acc ++ ys).length ≤ sizeLine ∧ ∀ μ' H', Step X.K μ1 H1 μ' H' → MOk X.K H' μ' (m' ++ [.lst (acc ++ ys)]) → ∀ v, RU X.K H' μ' (.ref m'.length) v → Q v H'
    | none => False
  have fin0 : Fin [] (comp2N src.next g t f1 g1 t1 fe vs1 (wipeU ρ vs) (srcLen src) 0 m1) := by
    cases q : comp2N src.next g t f1 g1 t1 fe vs1 (wipeU ρ vs) (srcLen src) 0 m1 with
    | none => rw [q] at p1; exact p1
    | some z =>
      obtain ⟨ys, m'⟩ := z
      rw [q] at p1
      unfold oList at p1
      simp only at p1
      split at p1
      · rename_i hz
        exact ⟨hz, fun μ' H' s' M' => p1 μ' H' s' M'⟩
      · exact no_op p1
  refine ⟨fun i n H => ∃ (m : Mem) (μ : List Addr) (acc : List U) (accV : List V), Step X.K μ1 H1 μ H ∧ D ∉ μ ∧ H D = some (.lst accV) ∧ RUs X.K H μ acc accV ∧ MOk X.K H μ m ∧ Fin acc (comp2N src.next g t f1 g1 t1 fe vs1 (wipeU ρ vs) n i m),
    ⟨srcLen src, m1, μ1, [], [], .newT hD, M1.nin hD, upd_same, .nil, M1.newT hD, fin0⟩, ?_⟩
  rintro i n H ⟨m, μ, acc, accV, st, nD, hL, ra, M, fin⟩
  cases n with
  | zero => exact False.elim fin
  | succ n =>
    have hj := hJ i μ H m st.mono M
    rw [comp2N] at fin
    cases e : src.next i m with
    | none => simp only [e] at fin; exact False.elim fin
    | some o =>
      cases o with
      | none =>
        simp only [e] at fin hj
        refine .inl ⟨hj, ?_⟩
        obtain ⟨hz, fin⟩ := fin
        rw [List.append_nil] at fin
        refine fin (μ ++ [D]) H ⟨?_, st.keep, fun b o h n => ?_, st.kt, st.fz⟩ ?_ _ (.ref (by rw [← M.len]; simp))
        · obtain ⟨tt, e2⟩ := st.ext
          exact ⟨tt ++ [D], by rw [e2, List.append_assoc]⟩
        · obtain ⟨h1, h2⟩ := st.stay b o h n
          exact ⟨fun z => by
            rcases List.mem_append.mp z with z | z
            · exact h1 z
            · exact ne_of_none h hD (by simpa using z), h2⟩
        · have mo : Mono X.K μ H (μ ++ [D]) H := ⟨⟨[D], rfl⟩, fun _ _ h => h, fun _ _ _ h => h⟩
          refine ⟨by simp [M.len], ?_, fun k a d h1 h2 => ?_⟩
          · rw [List.nodup_append]
            exact ⟨M.nd, by simp, fun x hx y hy e => nD (by rw [← (by simpa using hy : y = D), ← e]; exact hx)⟩
          · by_cases hn : k < μ.length
            · rw [List.getElem?_append_left hn] at h1
              rw [List.getElem?_append_left (by rw [← M.len]; exact hn)] at h2
              exact (M.cell k a d h1 h2).mo mo rfl
            · rw [List.getElem?_append_right (Nat.le_of_not_lt hn)] at h1
              rw [List.getElem?_append_right (by rw [← M.len]; exact Nat.le_of_not_lt hn)] at h2
              have h1' : a = D ∧ k - μ.length = 0 := by
                cases e : k - μ.length with
                | zero => rw [e] at h1; simp at h1; exact ⟨h1.symm, rfl⟩
                | succ k => rw [e] at h1; simp at h1
              rw [M.len] at h1'
              rw [h1'.2] at h2
              simp at h2
              subst h2
              rw [h1'.1]
              exact ⟨accV, hL, ra.mo mo⟩
      | some u =>
        simp only [e] at fin hj
        refine .inr ⟨hj.1, fun H' => ∃ (m : Mem) (μ : List Addr) (acc : List U) (accV : List V), Step X.K μ1 H1 μ H' ∧ D ∉ μ ∧ H' D = some (.lst accV) ∧ RUs X.K H' μ acc accV ∧ MOk X.K H' μ m ∧ Fin acc (comp2N src.next g t f1 g1 t1 fe vs1 (wipeU ρ vs) n (i + 1) m), fun H' z => ⟨n, Nat.lt_succ_self n, z⟩, fun x H' y => ?_⟩
        obtain ⟨s2, M2, r2⟩ := hj.2 x H' y
        have E2 := (E1.step st).step s2
        refine hg u (wipeU ρ vs) m x _ H' μ _ r2 E2 M2 ?_
        cases q1 : g u (wipeU ρ vs) m with
        | none => simp only [q1] at fin; exact False.elim fin
        | some z =>
          obtain ⟨ρ3, m3⟩ := z
          simp only [q1] at fin
          have idem : ∀ (σ : L2.St) (ws us : List Nat), (∀ i ∈ ws, i ∈ us) → wipe (wipe σ ws) us = wipe σ us := by
            intro σ ws
            induction ws with
            | nil => intro us _; rfl
            | cons w ws ih =>
              intro us h
              rw [show wipe σ (w :: ws) = (wipe σ ws).set w none from rfl, wipe_set (h w (by simp)), ih us fun i hi => h i (by simp [hi])]
          refine fun μ3 H3 s3 M3 σ3 E3 w3 => ⟨w3.trans (idem σ vs vs fun _ h => h), ?_⟩
          cases q2 : toO (t ρ3 m3) with
          | none => simp only [q2] at fin; exact False.elim fin
          | some z =>
            obtain ⟨b, m4⟩ := z
            simp only [q2] at fin
            refine ⟨ρ3, m3, μ3, E3, M3, toO_post (w := wX X c) q2 fun μ4 H4 s4 M4 => ?_⟩
            have st4 := ((st.trans s2).trans s3).trans s4
            have stay4 := ((s2.trans s3).trans s4)
            have hL4 : H4 D = some (.lst accV) := stay4.keep D _ hL nD (fun ps z => by cases z)
            have nD4 := (stay4.stay D _ hL nD).1
            have ra4 := ra.step stay4
            cases b with
            | false => exact ⟨m4, μ4, acc, accV, st4, nD4, hL4, ra4, M4, fin⟩
            | true =>
              simp only [if_true] at fin ⊢
              cases q3 : toO (f1 ρ3 m4) with
              | none => simp only [q3] at fin; exact False.elim fin
              | some z =>
                obtain ⟨src1, m5⟩ := z
                simp only [q3] at fin
                refine ⟨ρ3, m4, μ4, E3.step s4, M4, toO_post (w := wX X c) q3 fun μ5 H5 s5 M5 J1 hJ1 => ?_⟩
                have hL5 : H5 D = some (.lst accV) := s5.keep D _ hL4 nD4 (fun ps z => by cases z)
                have nD5 := (s5.stay D _ hL4 nD4).1
                have ra5 := ra4.step s5
                have st5 := st4.trans s5
                have E5 := ((E3.step s4).step s5).wipe vs1
                obtain ⟨k1, hk1⟩ := compR_N src1 g1 t1 fe (wipeU ρ3 vs1)
                rw [hk1] at fin
                let Fin1 : List U → O (List U) → Prop := fun acc o => match o with
                  | some (ys, m') => Fin (acc ++ ys) (comp2N src.next g t f1 g1 t1 fe vs1 (wipeU ρ vs) n (i + 1) m')
                  | none => False
                have fin1 : Fin1 acc (compN src1.next g1 t1 fe (wipeU ρ3 vs1) k1 0 m5) := by
                  cases q4 : compN src1.next g1 t1 fe (wipeU ρ3 vs1) k1 0 m5 with
                  | none => simp only [q4] at fin; exact fin
                  | some z =>
                    obtain ⟨ys, m6⟩ := z
                    simp only [q4] at fin
                    show Fin (acc ++ ys) _
                    cases q5 : comp2N src.next g t f1 g1 t1 fe vs1 (wipeU ρ vs) n (i + 1) m6 with
                    | none => simp only [q5] at fin; exact fin
                    | some z =>
                      obtain ⟨zs, m7⟩ := z
                      simp only [q5] at fin
                      obtain ⟨hz, fin⟩ := fin
                      rw [← List.append_assoc] at hz fin
                      exact ⟨hz, fin⟩
                refine ⟨fun j k H => ∃ (m : Mem) (μ : List Addr) (acc : List U) (accV : List V), Step X.K μ1 H1 μ H ∧ D ∉ μ ∧ H D = some (.lst accV) ∧ RUs X.K H μ acc accV ∧ MOk X.K H μ m ∧ EOk X.K H μ (wipeU ρ3 vs1) (wipe σ3 vs1) ∧ Fin1 acc (compN src1.next g1 t1 fe (wipeU ρ3 vs1) k j m) ∧ Mono X.K μ5 H5 μ H, ⟨k1, m5, μ5, acc, accV, st5, nD5, hL5, ra5, M5, E5, fin1, .refl⟩, ?_⟩
                rintro j k H6 ⟨m6, μ6, acc6, accV6, st6, nD6, hL6, ra6, M6, E6, fin6, mo6⟩
                cases k with
                | zero => exact False.elim fin6
                | succ k =>
                  have hj1 := hJ1 j μ6 H6 m6 mo6 M6
                  rw [compN] at fin6
                  cases e1 : src1.next j m6 with
                  | none => simp only [e1] at fin6; exact False.elim fin6
                  | some o =>
                    cases o with
                    | none =>
                      simp only [e1] at fin6 hj1
                      have fin6 : Fin (acc6 ++ []) (comp2N src.next g t f1 g1 t1 fe vs1 (wipeU ρ vs) n (i + 1) m6) := fin6
                      rw [List.append_nil] at fin6
                      exact .inl ⟨hj1, m6, μ6, acc6, accV6, st6, nD6, hL6, ra6, M6, fin6⟩
                    | some u =>
                      simp only [e1] at fin6 hj1
                      refine .inr ⟨hj1.1, _, fun H' z => ⟨k, Nat.lt_succ_self k, z⟩, fun x1 H7 y1 => ?_⟩
                      obtain ⟨s7, M7, r7⟩ := hj1.2 x1 H7 y1
                      have E7 := E6.step s7
                      refine hg1 u (wipeU ρ3 vs1) m6 x1 _ H7 μ6 _ r7 E7 M7 ?_
                      cases q6 : g1 u (wipeU ρ3 vs1) m6 with
                      | none => simp only [q6] at fin6; exact False.elim fin6
                      | some z =>
                        obtain ⟨ρ8, m8⟩ := z
                        simp only [q6] at fin6
                        refine fun μ8 H8 s8 M8 σ8 E8 w8 => ⟨w8.trans (idem σ3 vs1 vs1 fun _ h => h), ?_⟩
                        cases q7 : toO (t1 ρ8 m8) with
                        | none => simp only [q7] at fin6; exact False.elim fin6
                        | some z =>
                          obtain ⟨b1, m9⟩ := z
                          simp only [q7] at fin6
                          refine ⟨ρ8, m8, μ8, E8, M8, toO_post (w := wX X c) q7 fun μ9 H9 s9 M9 => ?_⟩
                          have tr9 := ((s7.trans s8).trans s9)
                          have hL9 : H9 D = some (.lst accV6) := tr9.keep D _ hL6 nD6 (fun ps z => by cases z)
                          have nD9 := (tr9.stay D _ hL6 nD6).1
                          have ra9 := ra6.step tr9
                          cases b1 with
                          | false => exact ⟨m9, μ9, acc6, accV6, st6.trans tr9, nD9, hL9, ra9, M9, E6.step tr9, fin6, mo6.trans tr9.mono⟩
                          | true =>
                            simp only [if_true] at fin6 ⊢
                            cases q8 : toO (fe ρ8 m9) with
                            | none => simp only [q8] at fin6; exact False.elim fin6
                            | some z =>
                              obtain ⟨y, m10⟩ := z
                              simp only [q8] at fin6
                              refine ⟨ρ8, m9, μ9, E8.step s9, M9, toO_post (w := wX X c) q8 fun μ10 H10 s10 M10 v10 r10 => ?_⟩
                              have hL10 : H10 D = some (.lst accV6) := s10.keep D _ hL9 nD9 (fun ps z => by cases z)
                              have nD10 := (s10.stay D _ hL9 nD9).1
                              have ra10 := ra9.step s10
                              have st10 := (st6.trans tr9).trans s10
                              have mo := Mono.grow (K := X.K) (μ := μ10) (ys := accV6 ++ [v10]) hL10
                              cases q9 : compN src1.next g1 t1 fe (wipeU ρ3 vs1) k (j + 1) m10 with
                              | none => rw [q9] at fin6; exact False.elim fin6
                              | some z =>
                                obtain ⟨ys, m11⟩ := z
                                rw [q9] at fin6
                                have fin6 : Fin (acc6 ++ y :: ys) (comp2N src.next g t f1 g1 t1 fe vs1 (wipeU ρ vs) n (i + 1) m11) := fin6
                                have hlen : (acc6 ++ y :: ys).length ≤ sizeLine := by
                                  cases q10 : comp2N src.next g t f1 g1 t1 fe vs1 (wipeU ρ vs) n (i + 1) m11 with
                                  | none => rw [q10] at fin6; exact False.elim fin6
                                  | some z =>
                                    rw [q10] at fin6
                                    have := fin6.1
                                    rw [List.length_append] at this
                                    omega
                                refine ⟨accV6, hL10, ?_, m10, μ10, acc6 ++ [y], accV6 ++ [v10], st10.grow hD hL10, nD10, upd_same, (ra10.append (.cons r10 .nil)).mo mo, M10.mo mo fun a ha => by rw [upd_ne fun z : a = D => nD10 (by rw [← z]; exact ha)], ((E6.step tr9).step s10).mo mo, ?_, (mo6.trans (tr9.mono.trans s10.mono)).trans mo⟩
                                · have := ra10.length
                                  rw [List.length_append, List.length_cons] at hlen
                                  omega
                                · rw [q9]
                                  show Fin (acc6 ++ [y] ++ ys) _
                                  rw [List.append_assoc]; exact fin6
theorem se_lc2 (hg : GW X.K g0 g vs) (hg1 : GW X.K g01 g1 vs1) (h : PE X e (tLc2 (rdI (wX X c) W f) g0 (rdT (wX X c) (fun _ _ _ _ => False) t) (rdI (wX X c) (fun _ _ _ _ => False) f1) g01 (rdT (wX X c) (fun _ _ _ _ => False) t1) (rdE (wX X c) (fun _ _ _ _ => False) fe) vs vs1)) : SE X c W e (dLc2 f g t f1 g1 t1 fe vs vs1) := h.imp fun σ H Q q => lc2_of hg hg1 q
end
section
variable {m : Mem} {ρ : Env} {E : Ex → Mem → Prop} {f f1 : ID} {g g1 : GD} {t t1 : XT} {fe : XD} {vs vs1 : List Nat}
theorem wr_lc2 {Q : U → Mem → Prop} (h : WR (f ρ m) (fun s m1 => WO (comp2N s.next g t f1 g1 t1 fe vs1 (wipeU ρ vs) (srcLen s) 0 m1) fun ys m2 => WO (oLst ys m2) Q) E) : WR (dLc2 f g t f1 g1 t1 fe vs vs1 ρ m) Q E :=
  wr_bi h fun s m1 h => by
    cases e : comp2N s.next g t f1 g1 t1 fe vs1 (wipeU ρ vs) (srcLen s) 0 m1 with
    | none => rw [e] at h; exact (wo_no h).elim
    | some p =>
      rw [e] at h
      exact wr_ofO (by with_unfolding_all exact h)
theorem wc2 {us : List U} {nx : Nat → Mem → Option (Option U)} {k : Nat} {Q : List U → Mem → Prop} (I : Nat → List U → Mem → Prop) (hk : us.length < k) (hn : ∀ i ys m, i ≤ us.length → I i ys m → nx i m = some us[i]?) (h0 : I 0 [] m)
    (hs : ∀ (i : Nat) u ys m, us[i]? = some u → I i ys m → WO (g u ρ m) fun ρ1 m1 => WR (t ρ1 m1) (fun c m2 => IfP c (WR (f1 ρ1 m2) (fun s1 m3 => WO (compR g1 t1 fe (wipeU ρ1 vs1) s1 m3) fun zs m4 => I (i + 1) (ys ++ zs) m4) noE) (I (i + 1) ys m2)) noE)
    (he : ∀ ys m, I us.length ys m → Q ys m) : WO (comp2N nx g t f1 g1 t1 fe vs1 ρ k 0 m) Q := by
  have key : ∀ (k i : Nat) (ys : List U) (m : Mem), us.length < i + k → i ≤ us.length → I i ys m → WO (comp2N nx g t f1 g1 t1 fe vs1 ρ k i m) fun zs m' => Q (ys ++ zs) m' := by
    intro k
    induction k with
    | zero => intro i ys m hk hi; omega
    | succ k ih =>
      intro i ys m hk hle hi
      unfold comp2N
      rw [hn i ys m hle hi]
      by_cases hl : i < us.length
      · rw [List.getElem?_eq_getElem hl]
        have h := hs i us[i] ys m (List.getElem?_eq_getElem hl) hi
        cases e1 : g us[i] ρ m with
        | none => rw [e1] at h; exact (wo_no h).elim
        | some p =>
          obtain ⟨ρ1, m1⟩ := p
          rw [e1] at h
          obtain ⟨c, m2, e2, h⟩ := wr_get (wo_get h)
          simp only [e1, e2, toO]
          cases c with
          | false => exact ih (i + 1) ys m2 (by omega) (by omega) (h.2 rfl)
          | true =>
            obtain ⟨s1, m3, e3, h⟩ := wr_get (h.1 rfl)
            simp only [if_true, e3]
            cases e4 : compR g1 t1 fe (wipeU ρ1 vs1) s1 m3 with
            | none => rw [e4] at h; exact (wo_no h).elim
            | some p =>
              obtain ⟨zs, m4⟩ := p
              rw [e4] at h
              have := ih (i + 1) (ys ++ zs) m4 (by omega) (by omega) (wo_get (Q := fun zs m => I (i + 1) (ys ++ zs) m) h)
              show WO (match comp2N nx g t f1 g1 t1 fe vs1 ρ k (i + 1) m4 with | none => none | some (zs', m5) => some (zs ++ zs', m5)) _
              cases e5 : comp2N nx g t f1 g1 t1 fe vs1 ρ k (i + 1) m4 with
              | none => rw [e5] at this; exact (wo_no this).elim
              | some p =>
                rw [e5] at this
                refine wo_some_ (a := zs ++ p.1) ?_
                show Q (ys ++ (zs ++ p.1)) p.2
                have z : Q (ys ++ zs ++ p.1) p.2 := wo_get (Q := fun ws m => Q (ys ++ zs ++ ws) m) this
                rwa [List.append_assoc] at z
      · rw [List.getElem?_eq_none (by omega)]
        refine wo_some_ (a := []) ?_
        show Q (ys ++ []) m
        rw [List.append_nil]
        exact he _ _ (by rw [show us.length = i by omega]; exact hi)
  exact wo_imp (key k 0 [] m (by omega) (Nat.zero_le _) h0) fun ys m q => q
theorem fix_nx {us : List U} {i : Nat} (h : i ≤ us.length) (m : Mem) : (Src.fix us).next i m = some us[i]? := if_pos h
end
/-! ### comprehensions over what stands for a list -/
section
variable {ρ : Env} {g : GD} {t : XT} {e : XD} {α : Type}
theorem at_map {l : List α} {f : α → U} {i : Nat} {u : U} (h : (l.map f)[i]? = some u) : ∃ hi : i < l.length, u = f l[i] := by
  rw [List.getElem?_map] at h
  by_cases hi : i < l.length
  · rw [List.getElem?_eq_getElem hi] at h
    exact ⟨hi, (Option.some.inj h).symm⟩
  · rw [List.getElem?_eq_none (by omega)] at h; cases h
theorem wc_filtL {l : List α} {f : α → U} {m : Mem} {Q : List U → Mem → Prop} (S : List Nat) (p : α → Bool) (F : α → U)
    (hs : ∀ a ∈ l, ∀ m1, Sv S m m1 → WO (g (f a) ρ m1) fun ρ1 m2 => WR (t ρ1 m2) (fun c m3 => c = p a ∧ IfP c (WR (e ρ1 m3) (fun y m4 => y = F a ∧ Sv S m m4) noE) (Sv S m m3)) noE)
    (he : ∀ m', Sv S m m' → Q ((l.filter p).map F) m') : WO (compR g t e ρ (.fix (l.map f)) m) Q := by
  refine wc_fix (fun i ys m' => ys = ((l.take i).filter p).map F ∧ Sv S m m') ⟨rfl, Sv.refl⟩ ?_ ?_
  · rintro i u ys m1 hu ⟨rfl, hS⟩
    obtain ⟨hi, rfl⟩ := at_map hu
    refine wo_imp (hs l[i] (List.getElem_mem hi) m1 hS) fun ρ1 m2 h => wr_imp h ?_
    rintro c m3 ⟨hc, h⟩
    have ht : l.take (i + 1) = l.take i ++ [l[i]] := List.take_succ_eq_append_getElem hi
    refine ⟨fun hc' => wr_imp (h.1 hc') ?_, fun hc' => ⟨?_, h.2 hc'⟩⟩
    · rintro y m4 ⟨rfl, hS4⟩
      refine ⟨?_, hS4⟩
      rw [ht, List.filter_append, List.map_append, List.filter_cons, ← hc, hc']; rfl
    · rw [ht, List.filter_append, List.map_append, List.filter_cons, ← hc, hc']; simp
  · rintro ys m' ⟨rfl, hS⟩
    rw [List.length_map, List.take_length]
    exact he _ hS
theorem wc_mapL {l : List α} {f : α → U} {m : Mem} {Q : List U → Mem → Prop} (S : List Nat) (F : α → U)
    (hs : ∀ a ∈ l, ∀ m1, Sv S m m1 → WO (g (f a) ρ m1) fun ρ1 m2 => WR (e ρ1 m2) (fun y m3 => y = F a ∧ Sv S m m3) noE)
    (he : ∀ m', Sv S m m' → Q (l.map F) m') : WO (compR g tYesU e ρ (.fix (l.map f)) m) Q :=
  wc_filtL S (fun _ => true) F (fun a ha m1 hS => wo_imp (hs a ha m1 hS) fun ρ1 m2 h => wt_yes ⟨rfl, ifp_T h⟩) fun m' hS => by
    rw [List.filter_eq_self.mpr fun _ _ => rfl]; exact he m' hS
theorem wc_filtDL {l : List α} {f : α → U} {m : Mem} {k : Nat} {Q : List U → Mem → Prop} (hk : m[k]? = some (.lst (l.map f))) (S : List Nat) (hkS : k ∉ S) (p : α → Bool) (F : α → U)
    (hs : ∀ a ∈ l, ∀ m1, Sv S m m1 → WO (g (f a) ρ m1) fun ρ1 m2 => WR (t ρ1 m2) (fun c m3 => c = p a ∧ IfP c (WR (e ρ1 m3) (fun y m4 => y = F a ∧ Sv S m m4) noE) (Sv S m m3)) noE)
    (he : ∀ m', Sv S m m' → Q ((l.filter p).map F) m') : WO (compR g t e ρ (.dyn ((l.map f).length + 1) (nxL k)) m) Q := by
  refine wc_dyn (us := l.map f) (fun i ys m' => ys = ((l.take i).filter p).map F ∧ Sv S m m') (by omega) ?_ ⟨rfl, Sv.refl⟩ ?_ ?_
  · rintro i ys m' ⟨_, hS⟩
    exact nxL_at (hS.get hk hkS)
  · rintro i u ys m1 hu ⟨rfl, hS⟩
    obtain ⟨hi, rfl⟩ := at_map hu
    refine wo_imp (hs l[i] (List.getElem_mem hi) m1 hS) fun ρ1 m2 h => wr_imp h ?_
    rintro c m3 ⟨hc, h⟩
    have ht : l.take (i + 1) = l.take i ++ [l[i]] := List.take_succ_eq_append_getElem hi
    refine ⟨fun hc' => wr_imp (h.1 hc') ?_, fun hc' => ⟨?_, h.2 hc'⟩⟩
    · rintro y m4 ⟨rfl, hS4⟩
      refine ⟨?_, hS4⟩
      rw [ht, List.filter_append, List.map_append, List.filter_cons, ← hc, hc']; rfl
    · rw [ht, List.filter_append, List.map_append, List.filter_cons, ← hc, hc']; simp
  · rintro ys m' ⟨rfl, hS⟩
    rw [List.length_map, List.take_length]
    exact he _ hS
theorem wc_mapDL {l : List α} {f : α → U} {m : Mem} {k : Nat} {Q : List U → Mem → Prop} (hk : m[k]? = some (.lst (l.map f))) (S : List Nat) (hkS : k ∉ S) (F : α → U)
    (hs : ∀ a ∈ l, ∀ m1, Sv S m m1 → WO (g (f a) ρ m1) fun ρ1 m2 => WR (e ρ1 m2) (fun y m3 => y = F a ∧ Sv S m m3) noE)
    (he : ∀ m', Sv S m m' → Q (l.map F) m') : WO (compR g tYesU e ρ (.dyn ((l.map f).length + 1) (nxL k)) m) Q :=
  wc_filtDL hk S hkS (fun _ => true) F (fun a ha m1 hS => wo_imp (hs a ha m1 hS) fun ρ1 m2 h => wt_yes ⟨rfl, ifp_T h⟩) fun m' hS => by
    rw [List.filter_eq_self.mpr fun _ _ => rfl]; exact he m' hS

variable {D : Dn} {b : SD} {m : Mem}
theorem ws_forM {l : List α} {f : α → U} (I : Nat → Env → Mem → Prop) (h0 : I 0 ρ m)
    (hs : ∀ i (hi : i < l.length) ρ m, I i ρ m → WO (g (f l[i]) ρ m) fun ρ1 m1 => WS (b ρ1 m1) ⟨I (i + 1), D.rt, D.nx, I (i + 1), D.er⟩)
    (he : ∀ ρ m, I l.length ρ m → D.nx ρ m) : WS (forL g b (l.map f) ρ m) D :=
  ws_forL I h0 (fun i u ρ m hu hI => by obtain ⟨hi, rfl⟩ := at_map hu; exact hs i hi ρ m hI) (by rw [List.length_map]; exact he)
theorem ws_dynM {l : List α} {f : α → U} {nx : Nat → Mem → Option (Option U)} {k : Nat} (I : Nat → Env → Mem → Prop) (hk : l.length < k) (hn : ∀ i ρ m, I i ρ m → nx i m = some (l.map f)[i]?) (h0 : I 0 ρ m)
    (hs : ∀ i (hi : i < l.length) ρ m, I i ρ m → WO (g (f l[i]) ρ m) fun ρ1 m1 => WS (b ρ1 m1) ⟨I (i + 1), D.rt, D.nx, I (i + 1), D.er⟩)
    (he : ∀ ρ m, I l.length ρ m → D.nx ρ m) : WS (forR g b (.dyn k nx) ρ m) D :=
  ws_dyn I (by rw [List.length_map]; exact hk) hn h0 (fun i u ρ m hu hI => by obtain ⟨hi, rfl⟩ := at_map hu; exact hs i hi ρ m hI) (by rw [List.length_map]; exact he)
end
/-- us[1:] -/
theorem cutU_tail (us : List U) : cutU us (some 1) none = us.drop 1 := by
  unfold cutU
  cases us with
  | nil => rfl
  | cons a r =>
    have h1 : HT.sIx (a :: r).length 0 (some 1) = 1 := by
      show (if (1 : Int) < 0 then ((1 : Int) + ((a :: r).length : Int)).toNat else min (1 : Int).toNat (a :: r).length) = 1
      rw [if_neg (by decide)]
      simp
    have h2 : HT.sIx (a :: r).length (a :: r).length none = (a :: r).length := rfl
    rw [h1, h2, List.take_of_length_le (by simp)]
theorem cutU_to (us : List U) (k : Nat) : cutU us none (some (k : Int)) = us.take k := by
  unfold cutU
  have h1 : HT.sIx us.length us.length (some (k : Int)) = min k us.length := by
    show (if (k : Int) < 0 then ((k : Int) + (us.length : Int)).toNat else min (k : Int).toNat us.length) = _
    rw [if_neg (by omega)]; simp
  have h2 : HT.sIx us.length 0 none = 0 := rfl
  rw [h1, h2, Nat.sub_zero, List.drop_zero]
  by_cases h : k ≤ us.length
  · rw [Nat.min_eq_left h]
  · rw [Nat.min_eq_right (by omega), List.take_of_length_le (Nat.le_refl _), List.take_of_length_le (by omega)]
/-- us[a:b] within -/
theorem cutU_mid (us : List U) (a b : Nat) (hab : a ≤ b) (hb : b ≤ us.length) : cutU us (some (a : Int)) (some (b : Int)) = (us.take b).drop a := by
  unfold cutU
  have h1 : ∀ (k d : Nat), k ≤ us.length → HT.sIx us.length d (some (k : Int)) = k := fun k d hk => by
    show (if (k : Int) < 0 then ((k : Int) + (us.length : Int)).toNat else min (k : Int).toNat us.length) = _
    rw [if_neg (by omega)]; simp; omega
  rw [h1 a 0 (by omega), h1 b us.length hb, List.drop_take]
theorem zipU_map {α : Type} (f : α → U) : ∀ l k : List α, zipU (l.map f) (k.map f) = (l.zip k).map fun p => .tup [f p.1, f p.2]
  | [], _ => rfl
  | _ :: _, [] => rfl
  | a :: l, b :: k => by
    show U.tup [f a, f b] :: zipU (l.map f) (k.map f) = _
    rw [zipU_map f l k]; rfl
theorem atI_neg1 {us : List U} {u : U} (h : us.getLast? = some u) : atI us (-1) = some u := by
  have hne : us ≠ [] := fun z => by subst z; cases h
  have hl : 0 < us.length := List.length_pos_iff.mpr hne
  unfold atI ixN
  rw [if_neg (by decide), if_pos (by omega)]
  show us[(-1 + (us.length : Int)).toNat]? = _
  rw [show (-1 + (us.length : Int)).toNat = us.length - 1 by omega, ← List.getLast?_eq_getElem?]
  exact h
theorem wo_setLast {m : Mem} {Q : Unit → Mem → Prop} {n : Nat} {us : List U} {u v : U} (hm : m[n]? = some (.lst (us ++ [u]))) (q : ∀ m', St m m' n (.lst (us ++ [v])) → Q () m') : WO (oSetL (.ref n) (.int (-1)) v m) Q := by
  refine wo_eq_ (a := ()) (m := m.set n (.lst (us ++ [v]))) ?_ (q _ (St.mk' hm _))
  show (match m[n]? with | some (.lst us) => (ixN us.length (-1)).map fun j => ((), m.set n (.lst (us.set j v))) | _ => none) = _
  simp only [hm]
  have e : ixN (us ++ [u]).length (-1) = some us.length := by
    unfold ixN
    rw [if_neg (by decide), List.length_append, List.length_singleton, if_pos (by omega)]
    congr 1; omega
  rw [e]
  simp
end Ev

set_option Elab.async false
set_option linter.all false
set_option maxRecDepth 100000
set_option maxHeartbeats 2000000
/-! Ev: equality (and repr) of what stands for a Lean value. -/
namespace Ev
open PySem PySem.Spec L2
structure Rep {α : Type} [DecidableEq α] (f : α → U) (d : α → PyData) (ok : α → Prop) (k : Nat) : Prop where
  dt : ∀ a res, datR res (f a) = some (d a)
  can : ∀ a, ok a → PyData.canLay0 (d a) = true
  dp : ∀ a, PyData.depth (d a) ≤ k
  eq : ∀ a b, PyData.eqv (d a) (d b) = decide (a = b)
section
variable {α β γ : Type} [DecidableEq α] [DecidableEq β] [DecidableEq γ] {f : α → U} {d : α → PyData} {ok : α → Prop} {k : Nat} {f2 : β → U} {d2 : β → PyData} {ok2 : β → Prop} {k2 : Nat} {f3 : γ → U} {d3 : γ → PyData} {ok3 : γ → Prop} {k3 : Nat}
theorem Rep.all (R : Rep f d ok k) (res : Nat → Option PyData) : ∀ l : List α, datRL res (l.map f) = some (l.map d)
  | [] => rfl
  | a :: l => by
    show (match datR res (f a) with | none => none | some x => (datRL res (l.map f)).map (x :: ·)) = _
    rw [R.all res l, R.dt a res]; rfl
theorem Rep.canAll (R : Rep f d ok k) : ∀ l : List α, (∀ a ∈ l, ok a) → PyData.canLayAll0 (l.map d) = true
  | [], _ => rfl
  | a :: l, h => by
    have h1 := R.can a (h a List.mem_cons_self)
    have h2 := R.canAll l fun x hx => h x (List.mem_cons_of_mem _ hx)
    rw [List.map_cons, PyData.canLayAll0, h1, h2]; rfl
theorem Rep.dpAll (R : Rep f d ok k) : ∀ l : List α, PyData.depthAll (l.map d) ≤ k
  | [] => by simp [PyData.depthAll]
  | a :: l => by
    have h1 := R.dp a
    have h2 := R.dpAll l
    rw [List.map_cons, PyData.depthAll]
    omega
theorem Rep.eqAll (R : Rep f d ok k) : ∀ a b : List α, PyData.eqvAll (a.map d) (b.map d) = decide (a = b)
  | [], [] => rfl
  | [], _ :: _ => rfl
  | _ :: _, [] => rfl
  | x :: a, y :: b => by
    show (PyData.eqv (d x) (d y) && PyData.eqvAll (a.map d) (b.map d)) = _
    rw [R.eqAll a b, R.eq]
    by_cases h : x = y
    · subst h; simp
    · simp [h]
theorem Rep.tup (R : Rep f d ok k) : Rep (fun l : List α => U.tup (l.map f)) (fun l => PyData.tuple (l.map d)) (fun l => ∀ a ∈ l, ok a) (k + 1) where
  dt l res := by
    show (datRL res (l.map f)).map PyData.tuple = _
    rw [R.all]; rfl
  can l h := by
    have := R.canAll l h
    simpa [PyData.canLay0] using this
  dp l := by
    have := R.dpAll l
    simp only [PyData.depth]; omega
  eq a b := by
    show PyData.eqvAll _ _ = _
    rw [R.eqAll]
theorem Rep.int : Rep U.int PyData.int (fun _ => True) 0 where
  dt _ _ := rfl
  can _ _ := rfl
  dp _ := by simp [PyData.depth]
  eq a b := by
    show _ = decide (a = b)
    simp only [PyData.eqv]
    by_cases h : a = b
    · subst h; simp
    · simp [h]
theorem Rep.bl : Rep U.bl PyData.bool (fun _ => True) 0 where
  dt _ _ := rfl
  can _ _ := rfl
  dp _ := by simp [PyData.depth]
  eq a b := by
    cases a <;> cases b <;> rfl
theorem Rep.str : Rep U.str PyData.str (fun x => PyData.strOk x = true) 0 where
  dt _ _ := rfl
  can x h := by simpa [PyData.canLay0] using h
  dp _ := by simp [PyData.depth]
  eq a b := by
    show _ = decide (a = b)
    simp only [PyData.eqv]
    by_cases h : a = b
    · subst h; simp
    · simp [h]
theorem Rep.pair (R : Rep f d ok k) (R2 : Rep f2 d2 ok2 k2) : Rep (fun p : α × β => U.tup [f p.1, f2 p.2]) (fun p => PyData.tuple [d p.1, d2 p.2]) (fun p => ok p.1 ∧ ok2 p.2) (max k k2 + 1) where
  dt p res := by
    show (datRL res [f p.1, f2 p.2]).map PyData.tuple = _
    simp [datRL, R.dt, R2.dt]
  can p h := by
    have h1 := R.can p.1 h.1
    have h2 := R2.can p.2 h.2
    simp [PyData.canLay0, PyData.canLayAll0, h1, h2]
  dp p := by
    have h1 := R.dp p.1
    have h2 := R2.dp p.2
    simp only [PyData.depth, PyData.depthAll]; omega
  eq a b := by
    show (PyData.eqv (d a.1) (d b.1) && (PyData.eqv (d2 a.2) (d2 b.2) && true)) = _
    rw [R.eq, R2.eq, Bool.and_true]
    by_cases h : a = b
    · subst h; simp
    · rw [decide_eq_false h]
      by_cases h1 : a.1 = b.1
      · have h2 : ¬ a.2 = b.2 := fun z => h (Prod.ext h1 z)
        simp [h2]
      · simp [h1]
theorem Rep.trip (R : Rep f d ok k) (R2 : Rep f2 d2 ok2 k2) (R3 : Rep f3 d3 ok3 k3) : Rep (fun p : α × β × γ => U.tup [f p.1, f2 p.2.1, f3 p.2.2]) (fun p => PyData.tuple [d p.1, d2 p.2.1, d3 p.2.2]) (fun p => ok p.1 ∧ ok2 p.2.1 ∧ ok3 p.2.2) (max k (max k2 k3) + 1) where
  dt p res := by
    show (datRL res [f p.1, f2 p.2.1, f3 p.2.2]).map PyData.tuple = _
    simp [datRL, R.dt, R2.dt, R3.dt]
  can p h := by
    have h1 := R.can p.1 h.1
    have h2 := R2.can p.2.1 h.2.1
    have h3 := R3.can p.2.2 h.2.2
    simp [PyData.canLay0, PyData.canLayAll0, h1, h2, h3]
  dp p := by
    have h1 := R.dp p.1
    have h2 := R2.dp p.2.1
    have h3 := R3.dp p.2.2
    simp only [PyData.depth, PyData.depthAll]; omega
  eq a b := by
    show (PyData.eqv (d a.1) (d b.1) && (PyData.eqv (d2 a.2.1) (d2 b.2.1) && (PyData.eqv (d3 a.2.2) (d3 b.2.2) && true))) = _
    rw [R.eq, R2.eq, R3.eq, Bool.and_true]
    by_cases h : a = b
    · subst h; simp
    · rw [decide_eq_false h]
      by_cases h1 : a.1 = b.1
      · by_cases h2 : a.2.1 = b.2.1
        · have h3 : ¬ a.2.2 = b.2.2 := fun z => h (Prod.ext h1 (Prod.ext h2 z))
          simp [h3]
        · simp [h2]
      · simp [h1]
theorem Rep.eqU (R : Rep f d ok k) (hk : k ≤ 64) (m : Mem) {a b : α} (ha : ok a) (hb : ok b) : Ev.eqU m (f a) (f b) = some (decide (a = b)) := by
  have sh : ∀ x, ok x → SeqAt.shaped (d x) = true := fun x hx => by
    have := R.dp x
    unfold SeqAt.shaped
    rw [R.can x hx, decide_eq_true (by omega)]; rfl
  have dx : ∀ x, dat m (f x) = some (d x) := fun x => R.dt x _
  unfold Ev.eqU
  simp only [dx, sh a ha, sh b hb, Bool.and_true, if_true, R.eq]
theorem Rep.eqR (R : Rep f d ok k) (hk : k ≤ 62) {m : Mem} {i j : Nat} {a b : List α} (hi : m[i]? = some (.lst (a.map f))) (hj : m[j]? = some (.lst (b.map f))) (ha : ∀ x ∈ a, ok x) (hb : ∀ x ∈ b, ok x) : Ev.eqU m (.ref i) (.ref j) = some (decide (a = b)) := by
  have sh : ∀ l : List α, (∀ x ∈ l, ok x) → SeqAt.shaped (.list (l.map d)) = true := fun l hl => by
    have h1 := R.dpAll l
    have h2 := R.canAll l hl
    unfold SeqAt.shaped
    have e1 : PyData.canLay0 (.list (l.map d)) = true := by simpa [PyData.canLay0] using h2
    have e2 : (PyData.list (l.map d)).depth ≤ 64 := by simp only [PyData.depth]; omega
    rw [e1, decide_eq_true e2]; rfl
  have e1 : dat m (.ref i) = some (.list (a.map d)) := dat_rL hi (R.all _ a)
  have e2 : dat m (.ref j) = some (.list (b.map d)) := dat_rL hj (R.all _ b)
  unfold Ev.eqU
  simp only [e1, e2, sh a ha, sh b hb, Bool.and_true, if_true]
  show some (PyData.eqvAll _ _) = _
  rw [R.eqAll]
end
theorem wo_pow {m : Mem} {Q : U → Mem → Prop} {i j : Int} (h : (decide (0 ≤ j) && decide ((Builtin.Int.intBits i : Int) * j ≤ 2 ^ 27)) = true) (q : Q (.int (i ^ j.toNat)) m) : WO (oPow (.int i) (.int j) m) Q := by
  rw [Bool.and_eq_true, decide_eq_true_eq, decide_eq_true_eq] at h
  exact wo_eq_ (if_pos h) q
theorem _root_.Ev.Well.st {c n : Nat} {m m' : Mem} {x : Cell} (h : Well c m) (s : St m m' n x) (hn : c ≠ n) : Well c m' := by
  obtain ⟨a, b, d, e⟩ := h
  exact ⟨a, b, d, by rw [s.ne c hn]; exact e⟩
theorem _root_.Ev.Well.nw {c n : Nat} {m m' : Mem} {x : Cell} (h : Well c m) (s : Nw m m' n x) : Well c m' := by rw [s.eq]; exact h.app _
theorem _root_.Ev.Well.sv {c : Nat} {S : List Nat} {m m' : Mem} (h : Well c m) (s : Sv S m m') (hn : c ∉ S) : Well c m' := by
  obtain ⟨a, b, d, e⟩ := h
  exact ⟨a, b, d, s.get e hn⟩
theorem _root_.Ev.Well.lt {c : Nat} {m : Mem} (h : Well c m) : c < m.length := by
  obtain ⟨a, b, d, e⟩ := h
  exact lt_of_at e
end Ev

set_option Elab.async false
set_option linter.all false
set_option maxRecDepth 100000
set_option maxHeartbeats 4000000
/-! Ev: exceptions of one's own over any built-in class, whose __init__ keeps what it is given. -/
namespace Ev
open PySem PySem.Spec PySem.W PySem.Calls PyProof.Rows L2
open Builtin
open Builtin.ObjectAttr
/-- own classes, then the mro of a built-in class -/
inductive Ovt (tl : List Value) : List Value → Prop
  | base : Ovt tl tl
  | own {a : Addr} {r : List Value} : Ovt tl r → Ovt tl (.ref a :: r)
section
variable {B : String} {tl l : List Value}
theorem Ovt.pass (SF : StoreFacts B tl "object.__setattr__" "object") (u : Value) (h : Ovt tl l) : refuseLoop u "__setattr__" l = pure () := by
  induction h with
  | base => exact SF.passes u
  | own _ ih =>
    rw [refuseLoop_ref]
    exact ih
theorem Ovt.has (n : String) (h : Ovt tl l) : l.contains (.type n) = tl.contains (.type n) := by
  induction h with
  | base => rfl
  | own _ ih =>
    rw [List.contains_cons, ih]
    rfl
theorem Ovt.ne (h : Ovt tl l) (ht : tl.isEmpty = false) : l.isEmpty = false := by
  cases h with
  | base => exact ht
  | own _ => rfl
end
section
variable {prog : Program} {w : World} {A : Around} {R : Result → Shared → Prop} {hp : Heap} {gs : Array GenState} {dr : Drawn} {tn : Nat} {os : OsState}
variable {K : W.Frag} {B : String} {tl : List Value} {f : Str} {tk : Tok} {u : Value} {x C : Addr} {fv : Array Value} {cd : ClassData}
/-- an attribute kept where there is no dict as yet -/
theorem Ovt.first (SF : StoreFacts B tl "object.__setattr__" "object") (hin : K.In hp) (hx : hp.get? x = some { cls := .ref C, data := .fields fv })
    (hc : W.clsIn K C = some cd) (ho : Ovt tl cd.mro) (h0 : tl.isEmpty = false) (h1 : tl.contains (.type "object") = true) (hd : cd.hasDict = true) (hf : W.findIn K (.ref C) f = some none)
    (k : ∀ h2 tk2 dx, (∀ b o, b ≠ x → hp.get? b = some o → h2.get? b = some o) → hp.objs.size ≤ dx → dx ≠ x → h2.get? x = some { cls := .ref C, dict := some dx, data := .fields fv } → h2.Ns1 dx (fun y => if y = f then some u else none) → R (.ok (.ret .none)) ⟨h2, gs, dr, tk2, os⟩) :
    codeAny (model prog w) A (.call (.builtin "object.__setattr__") ⟨[.ref x, .str f tk, u], []⟩) R ⟨hp, gs, dr, tn, os⟩ := by
  have J : W.InstAt hp x { cls := .ref C, data := .fields fv } C none := ⟨hx, rfl, rfl, trivial⟩
  have G0 := F.store_object
  have e0 : cd.mro.isEmpty = false := ho.ne h0
  have e1 : cd.mro.contains (.type "object") = true := (ho.has "object").trans h1
  have nx : x ≠ hp.objs.size := fun z => absurd (Heap.lt_size hx) (by rw [z]; exact Nat.lt_irrefl _)
  have inst : W.Looks (model prog w) hp (isInstance (.ref x) (.type "object")) true := by
    refine J.type.andThen (W.looks_mroIn hin ?_)
    unfold W.mroIn
    rw [hc, Option.bind_some, if_neg (by rw [e0]; decide), e1]
  refine codeAny_call_builtin G0.slot.plain G0.entry ?_
  refine W.check_slot (M := model prog w) (s := ⟨hp, gs, dr, tn, os⟩) (i := "object.__setattr__") (owner := "object") (n := "__setattr__") G0.kind G0.split inst (G0.args (.ref x) (.str f tk) u) ?_
  have ll : W.Looks (model prog w) hp (mroOf (.ref C)) cd.mro := (W.looks_clsIn hin hc).andThen .now
  have l0 : W.Looks (model prog w) hp (storeTaker? none) none := .now
  have lc : W.Looks (model prog w) hp (classData C) cd := W.looks_clsIn hin hc
  have lf := W.looks_findIn (M := model prog w) hin hf
  rw [W.osa_eq, refuse_eq]
  refine wpAny_bind (wpAny_bind (J.type.at (wpAny_bind (ll.at ?_))))
  rw [ho.pass SF]
  refine wpAny_pure (wpAny_bind (J.type.at (wpAny_bind (lf.at (wpAny_bind (l0.at ?_))))))
  show wpAny _ _ (storeInOwnDict (.ref x) (.ref C) (.str f tk) f u false) _ _ _
  obtain ⟨c1, c2, c3, c4, c5, c6, c7, c8, c9, c10, c11⟩ := cd
  dsimp only at hd
  subst hd
  unfold storeInOwnDict
  unfold ownDictForStores
  repeat (first | with_reducible refine PySem.HandSPX.store_in_new ?_ ?_ | with_reducible refine wpAny_loadPart_at hx ?_ | with_reducible refine lc.at ?_ | wp_step)
  · refine ⟨_, #[], _, (Heap.get?_update_ne _ _ _ _ nx.symm).trans (Heap.get?_push_at rfl rfl), rfl, ?_, fun _ => rfl⟩
    exact fun e he => absurd he (by simp)
  · intro h2 tk2 n2 sb
    have hx1 : (hp.push { cls := .type "dict", data := .dict #[] }).get? x = some { cls := .ref C, data := .fields fv } := Heap.get?_push_of_some _ hx
    refine k h2 tk2 hp.objs.size ?_ (Nat.le_refl _) nx.symm ((sb.2 x nx).trans (Heap.get?_update_self _ hx1 rfl)) n2
    intro b o hb ob
    have z := sb.2 b (fun z => absurd (Heap.lt_size ob) (by rw [z]; exact Nat.lt_irrefl _))
    exact z.trans ((Heap.get?_update_ne _ _ _ _ hb).trans (Heap.get?_push_of_some _ ob))
end
/-! ### what is known of a class -/
/-- of a built-in class -/
structure Bas (n newI initI : String) (tl : List Value) : Prop where
  fb : ExcBaseFacts n newI initI tl
  sf : StoreFacts n tl "object.__setattr__" "object"
  ne : tl.isEmpty = false
  ob : tl.contains (.type "object") = true
  stub : Manifest.isStub n = false
  ty : typeOf (.type n) = pure (.type "type")
  hand : handedIn (.builtin initI) = true
theorem bas_arith : Bas "ArithmeticError" "ArithmeticError.__new__" "ArithmeticError.__init__" [.type "ArithmeticError", .type "Exception", .type "BaseException", .type "object"] := ⟨F.excBase_ArithmeticError, F.store_ArithmeticError, rfl, by decide +kernel, by decide +kernel, by kernel_rfl, by decide +kernel⟩
theorem bas_over : Bas "OverflowError" "OverflowError.__new__" "OverflowError.__init__" [.type "OverflowError", .type "ArithmeticError", .type "Exception", .type "BaseException", .type "object"] := ⟨F.excBase_OverflowError, F.store_OverflowError, rfl, by decide +kernel, by decide +kernel, by kernel_rfl, by decide +kernel⟩
theorem bas_index : Bas "IndexError" "IndexError.__new__" "IndexError.__init__" [.type "IndexError", .type "LookupError", .type "Exception", .type "BaseException", .type "object"] := ⟨F.excBase_IndexError, F.store_IndexError, rfl, by decide +kernel, by decide +kernel, by kernel_rfl, by decide +kernel⟩
/-- of an own class over it -/
structure Xc (K : PySem.W.Frag) (newI : String) (tl : List Value) (C : Addr) : Prop where
  obj : ∃ nm q N bs bm sn sub ab col dd k0 k1 k2 k3 k5, K.lookup C = some (excClassObj nm q C N bs bm true sn sub ab col dd k0 k1 k2 k3 k5 newI) ∧ Ovt tl bm
  sets : PySem.W.findIn K (.ref C) "__setattr__" = some (some (.builtin "object.__setattr__"))
  ex : PySem.W.subIn K (.ref C) (.type "BaseException") = some true
  ty : PySem.W.typeIn K (.ref C) = some (.type "type")
  keep : PySem.W.keepIn K (.ref C) = true
section
variable {X : Cx} {pins : List (Addr × Obj)} {σ : L2.St} {H : Hp} {s : Shared} {a C : Addr} {n newI initI : String} {tl : List Value} {E : Value → Shared → Prop} {A : Around}
/-- the base's __init__ -/
theorem Xc.init {us : List Value} {Q : Value → Shared → Prop} (B : Bas n newI initI tl) (T : Xc X.K newI tl C) (I : Inv X pins σ H s) (ea : H a = some (exo a C none)) (hz : us.length ≤ sizeLine) (k : ∀ s2, Inv X pins σ H s2 → Q .none s2) :
    wpAny (model X.prog X.w) A (call (.builtin initI) (.ref a :: us)) Q E s := by
  obtain ⟨nm, q, N, bs, bm, sn, sub, ab, col, dd, k0, k1, k2, k3, k5, lk, ov⟩ := T.obj
  obtain ⟨t0, oa⟩ := exo_at I.hok ea
  have same : upd H a (exo a C none) = H := funext fun b => by
    by_cases z : b = a
    · rw [z, upd_same]; exact ea.symm
    · exact upd_ne z
  obtain ⟨hp, gs, dr, tn, os⟩ := s
  refine wpAny_call ?_
  refine PySem.HandSPX.init_base B.fb (fun y => ov.has y) (I.kIn _ _ lk) oa hz fun h2 t2 kp o2 => ?_
  have J := I.write (t' := tn) (x := a) (e := a) (o := exo a C none) (by rw [ea]; trivial) (.inl rfl) kp ⟨_, o2⟩ (exo_ok o2)
  rw [same] at J
  exact k _ J
/-- self.f = y, where nothing is kept as yet -/
theorem Xc.put {f : Str} {y : V} {u : Value} {Q : Unit → Shared → Prop} (B : Bas n newI initI tl) (T : Xc X.K newI tl C) (I : Inv X pins σ H s) (ea : H a = some (exo a C none)) (hf : PySem.W.findIn X.K (.ref C) f = some none) (ry : RelV y u)
    (k : ∀ dx s2, H dx = none → dx ≠ a → Inv X pins σ (upd (upd H dx (exd dx [(f, y)])) a (exo a C (some dx))) s2 → Q () s2) : wpAny (model X.prog X.w) A (setAttr (.ref a) f u) Q E s := by
  obtain ⟨nm, q, N, bs, bm, sn, sub, ab, col, dd, k0, k1, k2, k3, k5, lk, ov⟩ := T.obj
  have hc : PySem.W.clsIn X.K C = some { name := nm, bases := bs, mro := .ref C :: bm, ns := N, qualname := q, hasDict := true, slotNames := sn, subclasses := sub, abstract := ab, collection := col, hasDel := false } := by
    unfold PySem.W.clsIn
    rw [lk] <;> rfl
  obtain ⟨t0, oa⟩ := exo_at I.hok ea
  obtain ⟨hp, gs, dr, tn, os⟩ := s
  refine PySem.W.set_plain I.kIn (od := none) ⟨oa, rfl, rfl, trivial⟩ T.sets ?_
  refine Ovt.first B.sf I.kIn oa hc (.own ov) B.ne B.ob rfl hf fun h2 tk2 dx kp sz nx o2 n2 => ?_
  have fresh : H dx = none := I.hok.fresh sz
  have offD : ∀ {b : Addr} {o : Obj}, hp.get? b = some o → b ≠ dx := fun {b o} z e => by
    have lt : b < hp.objs.size := Heap.lt_size z
    have le : hp.objs.size ≤ dx := sz
    rw [e] at lt
    exact Nat.lt_irrefl _ (Nat.lt_of_lt_of_le lt le)
  have offA : ∀ {b : Addr}, H b = none → b ≠ a := fun {b} z e => by
    rw [e, ea] at z
    cases z
  have Un2 : Un X.fs [] H (upd (upd H dx (exd dx [(f, y)])) a (exo a C (some dx))) hp h2 := by
    refine { keep := ?_, slot := ?_, free := ?_, there := ?_, tups := ?_, frzs := ?_, tbls := ?_ }
    · exact fun b o z nb _ _ => kp b o (offA nb) z
    · exact fun b o z nb _ _ => ⟨o.slots, kp b o (offA nb) z⟩
    · intro b o z nb _
      rw [upd_ne (offA nb), upd_ne (offD z)]
      exact nb
    · intro b o z _
      by_cases e : b = a
      · exact ⟨_, by rw [e]; exact o2⟩
      · exact ⟨o, kp b o e z⟩
    · intro b xs z
      rw [upd_ne (at_ne ea z exo_tup), upd_ne (ne_of_none z fresh)]
      exact z
    · intro b o v z
      rw [upd_ne (at_ne ea z exo_frz), upd_ne (ne_of_none z fresh)]
      exact z
    · intro b ps z
      refine ⟨#[], ?_⟩
      rw [upd_ne (at_ne ea z exo_tbl), upd_ne (ne_of_none z fresh), z]
      simp
  refine k dx _ fresh nx (I.un (t' := tk2) Un2 fun b o z => ?_)
  by_cases e1 : b = a
  · subst e1
    rw [upd_same] at z
    cases z
    exact exo_ok o2
  rw [upd_ne e1] at z
  by_cases e2 : b = dx
  · subst e2
    rw [upd_same] at z
    cases z
    exact exd_ok n2 (relO_put (fs := []) ry fun _ => True.intro)
  rw [upd_ne e2] at z
  refine (I.hok b o z).stay ?_ ?_ ?_
  · intro c v hc' z'
    refine kp c v ?_ z'
    rcases hc' with hc' | hc'
    · rw [hc']; exact e1
    · exact at_ne ea hc' exo_own
  · intro c hc'
    rw [upd_ne (at_ne ea hc' exo_own), upd_ne (ne_of_none hc' fresh)]
    exact hc'
  · intro c xs hc'
    rw [upd_ne (at_ne ea hc' exo_tup), upd_ne (ne_of_none hc' fresh)]
    exact hc'
end
/-! ### readings and rules -/
/-- BASE.__init__(self, ..) -/
def tXi (K : PySem.W.Frag) (newI : String) (tl : List Value) (ta : TA) : TE := fun σ H Q => ta σ H fun vs H1 =>
  ∃ (a C : Addr) (ws : List V), vs = .ref a :: ws ∧ ws.length ≤ 1000 ∧ Xc K newI tl C ∧ H1 a = some (exo a C none) ∧ Q .non H1
/-- self.f = e, the first one -/
def tXp (K : PySem.W.Frag) (newI : String) (tl : List Value) (f : Str) (to te : TE) : TS := fun D σ H => te σ H fun y H1 => to σ H1 fun x H2 =>
  ∃ a C : Addr, x = .ref a ∧ Xc K newI tl C ∧ PySem.W.findIn K (.ref C) f = some none ∧ H2 a = some (exo a C none) ∧ ∀ dx, H2 dx = none → dx ≠ a → D.nx σ (upd (upd H2 dx (exd dx [(f, y)])) a (exo a C (some dx)))
section
variable {X : Cx} {o e : Expr} {es : List Expr} {to te : TE} {ta : TA} {f : Str} {p p' p1 p2 pos : Pos} {n newI initI : String} {nx : Str} {tl : List Value}
theorem pe_xinit {pl : Sem Bool} (B : Bas n newI initI tl) (hg : Gl X nx) (hm : X.mg nx = none) (hb : bootBuiltins nx = some (.type n)) (hn : nx ≠ "__name__") (hdb : (nx == ("__debug__" : Str)) = false)
    (vV : PySem.W.findCls X.K (.type n) (.type "type") "__init__" = some (.val (.builtin initI))) (ha : PA X (e :: es) ta)
    (hc : eval (.Call (.Attribute (.Name nx p1) "__init__" p2) (e :: es) [] pos) X.env = (do
      let ov ← eval (.Name nx p1) X.env
      standAt p2.atName
      let (g, h0) ← holding [ov] (getMethod ov "__init__" pl)
      callWith pos g h0 (backTo pos (starEach (e :: es) X.env)) (backToKw pos (keywordEach [] X.env))))
    (he : starEach (e :: es) X.env = (false, eval e X.env) :: starEach es X.env) (hpl : (backTo pos (starEach es X.env)).any (·.1) = false) :
    PE X (.Call (.Attribute (.Name nx p1) "__init__" p2) (e :: es) [] pos) (tXi X.K newI tl ta) := by
  refine ⟨fun pins s σ H Q I h => PySem.W.methodCall_KW (ld_blt I hg hm hb ?_ hn hdb) hc⟩
  obtain ⟨mm, fr⟩ := I.fr
  refine PySem.W.method_type fr I.ok.mod.kin B.ty B.stub vV B.hand ?_
  show wpAny _ _ (callWith pos (Value.builtin initI) [] (backTo pos (starEach (e :: es) X.env)) []) _ _ _
  refine PyProof.Rows.callWith_method1 ?_ he hpl
  refine thn (ha.run pos pins _ σ H _ (I.tok _) h) fun us s1 ⟨vs, H1, I1, r1, a, C, ws, ev, hl, T, ea, q⟩ => ?_
  subst ev
  cases r1 with
  | @cons _ v0 _ vr ra rr =>
    obtain rfl : v0 = Value.ref a := ra
    have hz : vr.length ≤ sizeLine := by
      have := Paired.length rr
      rw [sizeLine_eq]
      omega
    exact T.init B I1 ea hz fun s2 J => ⟨.non, H1, J, rfl, q⟩
theorem ps_xput (B : Bas n newI initI tl) (ho : PE X o to) (he : PE X e te) (hs : swapsWith e (some (.Attribute o f p')) pos.line X.env = pure false) : PS X (.Assign [.Attribute o f p'] e pos) (tXp X.K newI tl f to te) := by
  refine ⟨fun pins s σ H D I h => plainObj_wpAny_Assign_Attribute ?_ hs⟩
  refine thn (he.run pins s σ H _ I h) fun v s1 ⟨y, H1, I1, r1, q1⟩ => ?_
  refine thn (ho.run pins s1 σ H1 _ I1 q1) fun u s2 ⟨x, H2, I2, r2, a, C, ex, T, hno, ea, q⟩ => ?_
  subst ex
  have eu : u = Value.ref a := r2
  subst eu
  exact T.put B I2 ea hno r1 fun dx s3 z zx J => ⟨σ, _, J, q dx z zx⟩
/-- C(e, ..), its own __init__ keeping sp -/
def tXm (C : Addr) (sp : Sp) (ta : TA) : L2.St → Hp → XK → Prop := fun σ H Q => ta σ H fun vs H1 => vs.length ≤ 1000 ∧ ∀ a, H1 a = none →
  sp (.ref a :: vs) (upd H1 a (exo a C none)) (fun v H2 => v = .non ∧ ∃ (d : Addr) (fs : List (Str × V)), H2 a = some (exo a C (some d)) ∧ H2 d = some (exd d fs) ∧ H1 d = none ∧ Q (.ref C) (some d) (upd (del H2 a) d (.xd fs))) fun _ _ _ => False
theorem pmk_x {CX : CXT} {x : Str} {C fI : Addr} {k : Nat} {fd : FuncData} {ps : List Str} {sp : Sp} (B : Bas n newI initI tl) (T : Xc X.K newI tl C) (iC : PySem.W.findIn X.K (.ref C) "__init__" = some (some (.ref fI))) (tI : PySem.W.typeIn X.K (.ref fI) = some (.type "function"))
    (F1 : FnG X.prog X.w X.K X.mg X.base CX k fI fd ps sp) (hr : Room (k + 1) X.A) (hgd : X.A.guards = some []) (hb : Binds X.K fd ps []) (hx : Passes CX X fun _ _ _ => False) (hg : Gl X x) (hm : X.mg x = some (.ref C)) (ha : PA X (e :: es) ta)
    (hdb : (x == ("__debug__" : Str)) = false := by decide) (he : starEach (e :: es) X.env = (false, eval e X.env) :: starEach es X.env := by rfl) (hpl : (backTo pos (starEach es X.env)).any (·.1) = false := by rfl) : PMk X (.Call (.Name x p) (e :: es) [] pos) (tXm C sp ta) := by
  intro pins s σ H Q I h
  obtain ⟨nm, q, N, bs, bm, sn, sub, ab, col, dd, k0, k1, k2, k3, k5, lk, ov⟩ := T.obj
  refine wpAny_Call_Name_kw (ld_glob I hg hm (PySem.W.callWith_K (h₀ := X.base) I.ok.mod.kin T.keep ?_ he hpl) hdb)
  refine thn (ha.run pos pins s σ H _ I h) fun us s1 ⟨vs, H1, I1, r1, hz, q1⟩ => ⟨I1.kIn, ?_⟩
  show wpAny (model X.prog X.w) X.A (call (.ref C) us) _ _ _
  obtain ⟨hp, gs, dr, tn, os⟩ := s1
  have h0 : H1 (hp.objs.size + 1) = none := I1.hok.fresh (Nat.le_succ _)
  have hs := q1 _ h0
  have kp : ∀ b o, hp.get? b = some o → ((hp.push (PySem.W.kdv_tup us)).push (PySem.HandSPX.excO C hp.objs.size)).get? b = some o := fun b o z => by
    refine Heap.get?_push_of_some _ ?_
    exact Heap.get?_push_of_some _ z
  have at1 : ((hp.push (PySem.W.kdv_tup us)).push (PySem.HandSPX.excO C hp.objs.size)).get? (hp.objs.size + 1) = some (PySem.HandSPX.excO C hp.objs.size) := by
    heap_get
  have J : Inv X pins σ (upd H1 (hp.objs.size + 1) (exo (hp.objs.size + 1) C none)) ⟨(hp.push (PySem.W.kdv_tup us)).push (PySem.HandSPX.excO C hp.objs.size), gs, dr, tn, os⟩ := by
    refine I1.laid (t' := tn) kp (Nat.le_succ _) ?_
    exact exo_ok at1
  have rs : Vals (V.ref (hp.objs.size + 1) :: vs) (Value.ref (hp.objs.size + 1) :: us) := .cons rfl r1
  have len : (Value.ref (hp.objs.size + 1) :: us ++ []).length = ps.length := by
    rw [List.append_nil, ← rs.length]
    exact F1.lenG _ _ _ _ hs
  have bnd := hb _ (Value.ref (hp.objs.size + 1) :: us) J.kIn len
  rw [List.append_nil] at bnd
  have small : us.length ≤ sizeLine := by
    have := Paired.length r1
    rw [sizeLine_eq]
    omega
  refine wpAny_call ?_
  refine PySem.HandSPX.call_own B.fb (fun y => ov.has y) (I1.kIn _ _ lk) (PySem.W.looks_findIn I1.kIn iC) (fun me => PySem.W.bind_fn I1.kIn me tI) small ?_
  refine codeAny_mono (F1.go _ X.stack _ _ ⟨Value.ref (hp.objs.size + 1) :: us, []⟩ _ _ _ (fun _ _ _ => False) (hr.make C us []) hgd (J.env0.make C us []) bnd rs hs) fun z s2 hz2 => ?_
  match z, hz2 with
  | .error er, hz2 => exact hx pins σ _ _ er s2 J hz2
  | .ok (.ret u), hz2 =>
    obtain ⟨v, H2, os2, bare, un, ok2, rv, ev, d, fs, e1, e2, e3, q2⟩ := hz2
    subst ev
    obtain ⟨h2, g2, d2, t2, os'⟩ := s2
    exact ⟨rv, mk_end (raises_own T.ex T.ty) I1 (Nat.le_succ _) kp un ok2 os2 bare e1 e2 e3 q2⟩
end
/-! ### {x!r} of data -/
def tFd (K : PySem.W.Frag) (te : TE) : TE := fun σ H Q => te σ H fun x H1 => ∃ d : PyData, Dp K H1 x d ∧ showOk d = true ∧ Q (.str d.shown) H1
section
variable {X : Cx} {pos : Pos} {e : Expr} {te : TE}
theorem pe_fmtD (hg : X.A.guards = some []) (hu : X.A.units + 64 < cLine) (he : PE X e te) : PE X (.FormattedValue e 114 none pos) (tFd X.K te) := by
  refine ⟨fun pins s σ H Q I h => wpAny_FormattedValue_repr ?_⟩
  refine thn (he.run pins s σ H _ I h) fun v s1 ⟨x, H1, I1, r1, d, D, ok, q⟩ => ?_
  unfold showOk at ok
  simp only [Bool.and_eq_true, Bool.not_eq_true', decide_eq_true_eq] at ok
  obtain ⟨⟨⟨a1, a2⟩, a3⟩, a4⟩ := ok
  obtain ⟨as, R⟩ := Dp.reads I1 d _ v D r1
  have out : ∀ (s2 : Shared) (t : Tok), Inv X pins σ H1 s2 → wpAny (model X.prog X.w) X.A (formatField (.str d.shown t) Str.empty) (EP X pins σ Q) X.xe s2 := fun s2 t J => by
    refine wpAny_formatField_str ?_ ?_ a3
    · exact ⟨.str _, H1, J, ⟨_, rfl⟩, q⟩
    · exact ⟨.str _, H1, J.tok _, ⟨_, rfl⟩, q⟩
  have far : ∀ a : Addr, v = .ref a → wpAny (model X.prog X.w) X.A (pyReprObj v) (fun r s2 => wpAny (model X.prog X.w) X.A (formatField r Str.empty) (EP X pins σ Q) X.xe s2) X.xe s1 := fun a ea => by
    subst ea
    refine pyReprObj_of_reads R a1 (fun z => ?_) hg (by omega) (fun _ _ z => z) (fun h2 u tk kp => out _ _ ?_) a3
    · rw [a2] at z; cases z
    · exact I1.kept (t' := tk) kp
  cases D with
  | int i => obtain ⟨t, rfl⟩ := r1; exact pyReprObj_int (by simpa [PyData.showable] using a1) (out _ _ (I1.tok _))
  | bl b =>
    cases (show v = _ from r1)
    refine pyReprObj_bool ?_
    cases b <;> exact out _ _ (I1.tok _)
  | non => cases (show v = _ from r1); exact pyReprObj_none (out _ _ (I1.tok _))
  | str y => obtain ⟨t, rfl⟩ := r1; exact pyReprObj_str (out _ _ (I1.tok _)) a3
  | lst hq ha => exact far _ r1
  | tup hq ha => exact far _ r1
end
end Ev

set_option Elab.async false
set_option linter.all false
set_option maxRecDepth 100000
set_option maxHeartbeats 4000000
/-! Ev: an __init__ that hands a text on to its base and keeps what it is given. -/
namespace Ev
open PySem PySem.Spec PySem.W PySem.Calls PyProof.Rows L2
/-- what such an __init__ does -/
def spI (K : PySem.W.Frag) (newI : String) (tl : List Value) (v : Str) : Sp := fun vs H Q _ => ∃ (a C : Addr) (y : V) (d : PyData), vs = [.ref a, y] ∧ Xc K newI tl C ∧ PySem.W.findIn K (.ref C) v = some none ∧ H a = some (exo a C none) ∧
  Dp K H y d ∧ showOk d = true ∧ d.shown.length + 100 ≤ sizeLine ∧ ∀ dx, H dx = none → dx ≠ a → Q .non (upd (upd H dx (exd dx [(v, y)])) a (exo a C (some dx)))
section
variable {P : Program} {w : World} {K : PySem.W.Frag} {mg : Str → Option Value} {base : Heap} {n newI initI : String} {tl : List Value}
theorem vis_of {N Ps : List Str} {sc : Scope} (S : FnScope N Ps sc) {y : Str} (h : y ∈ Ps) : Vis sc y := by
  rcases S.par y h with z | z
  · exact .inl z
  · exact .inr (.inl z)
theorem fn_init {x qual v nx txt : Str} {st : Stmt} {f : Addr} {fd : FuncData} {k j : Nat} {p1 p2 p3 p4 p5 p6 p7 p8 p9 p10 p11 p12 p13 : Pos} (B : Bas n newI initI tl) (F : Fun K x qual st f fd) (S : FnScope [("self" : Str), v] [("self" : Str), v] (defScope st))
    (hB : defBody st = [.Expr (.Call (.Attribute (.Name nx p1) "__init__" p2) [.Name "self" p3, .JoinedStr [.Constant (.str txt) j p4, .FormattedValue (.Name v p5) 114 none p6] p7] [] p8) p9, .Assign [.Attribute (.Name "self" p10) v p11] (.Name v p12) p13])
    (hz : txt.length ≤ 50) (hv : (v == ("__debug__" : Str)) = false) (hv2 : (v == ("__classdict__" : Str)) = false) (hgl : ∀ cdv A outer s H E, Gl (cxOf (L2.CX P w) P w K mg base [("self" : Str), v] qual (defScope st) f cdv A outer s H E) nx) (hm : mg nx = none)
    (hc : ∀ cdv A outer s H E, ∃ pl : Sem Bool, eval (.Call (.Attribute (.Name nx p1) "__init__" p2) [.Name "self" p3, .JoinedStr [.Constant (.str txt) j p4, .FormattedValue (.Name v p5) 114 none p6] p7] [] p8) (cxOf (L2.CX P w) P w K mg base [("self" : Str), v] qual (defScope st) f cdv A outer s H E).env = (do
      let ov ← eval (.Name nx p1) (cxOf (L2.CX P w) P w K mg base [("self" : Str), v] qual (defScope st) f cdv A outer s H E).env
      standAt p2.atName
      let (g, h0) ← holding [ov] (getMethod ov "__init__" pl)
      callWith p8 g h0 (backTo p8 (starEach [.Name "self" p3, .JoinedStr [.Constant (.str txt) j p4, .FormattedValue (.Name v p5) 114 none p6] p7] (cxOf (L2.CX P w) P w K mg base [("self" : Str), v] qual (defScope st) f cdv A outer s H E).env))
        (backToKw p8 (keywordEach [] (cxOf (L2.CX P w) P w K mg base [("self" : Str), v] qual (defScope st) f cdv A outer s H E).env))))
    (hb : bootBuiltins nx = some (.type n)) (hn : nx ≠ "__name__") (hdb : (nx == ("__debug__" : Str)) = false) (vV : PySem.W.findCls K (.type n) (.type "type") "__init__" = some (.val (.builtin initI))) :
    FnG P w K mg base (L2.CX P w) (k + 1) f fd [("self" : Str), v] (spI K newI tl v) := by
  obtain ⟨oc, od, kV, doc, pm, an, cdv, ct, osl, rfl, lk, hcd⟩ := F.ex
  refine ⟨fun vs H Q E h => ?_, fun A outer s H args us vs Q E hr hg e0 hbt r h => ?_⟩
  · obtain ⟨a, C, y, d, e, _⟩ := h
    rw [e]; rfl
  have hl : vs.length = [("self" : Str), v].length := by
    obtain ⟨a, C, y, d, e, _⟩ := h
    rw [e]; rfl
  refine LamX.run_ofS lk hcd S hr e0 hbt r hl fun hr' => ?_
  rw [hB]
  have v0 : Vis (defScope st) "self" := vis_of S List.mem_cons_self
  have v1 : Vis (defScope st) v := vis_of S (List.mem_cons_of_mem _ List.mem_cons_self)
  obtain ⟨pl, hc⟩ := hc cdv A outer s H E
  refine ⟨_, pss_cons (ps_expr (pe_xinit (tl := tl) B (hgl _ _ _ _ _ _) hm hb hn hdb vV (pa_cons (pe_var (i := 0) rfl v0) (pa_cons (pe_joined (.cons pe_str (.cons (pe_fmtD ?_ ?_ (pe_var (i := 1) rfl v1 hv hv2)) .nil))) pa_nil)) hc rfl rfl) rfl) (pss_one (ps_xput (tl := tl) B (pe_var (i := 0) rfl v0) (pe_var (i := 1) rfl v1 hv hv2) rfl)), ?_⟩
  · exact hg
  · exact hr'.units
  obtain ⟨a, C, y, d, rfl, T, hf, ea, D, ok, z1, q⟩ := h
  have l0 : (Str.empty ++ txt).length = txt.length := by
    rw [PySem.strLen_append]
    exact Nat.zero_add _
  have l1 : (Str.empty ++ txt).length ≤ sizeLine := by
    rw [l0, sizeLine_eq]
    omega
  have l2 : (Str.empty ++ txt ++ d.shown).length ≤ sizeLine := by
    rw [PySem.strLen_append, l0]
    omega
  refine ⟨.ref a, rfl, ?_⟩
  refine ⟨txt, rfl, l1, ?_⟩
  refine ⟨y, rfl, d, D, ok, ?_⟩
  refine ⟨d.shown, rfl, l2, ?_⟩
  refine ⟨a, C, [.str _], rfl, Nat.le_of_ble_eq_true rfl, T, ea, ?_⟩
  refine ⟨y, rfl, ?_⟩
  exact ⟨.ref a, rfl, a, C, rfl, T, hf, ea, q⟩
end
/-! ### raise C(x) -/
/-- what an __init__ of this kind can be given -/
def keeps (m : Mem) (u : U) : Bool := match dat m u with
  | some d => showOk d && decide (d.shown.length + 100 ≤ sizeLine)
  | none => false
def sRaiseV (k : Nat) (f : Str) (fe : XD) : SD := fun ρ m => thenE (fe ρ m) ρ fun u m1 => if keeps m1 u = true then .err ⟨k, some (f, u)⟩ ρ m1 else .bad
theorem ss_raiseV {X : Cx} {c : Nat → Addr} {W : WX} {k : Nat} {f : Str} {fe : XD} {st : Stmt} {newI : String} {tl : List Value} (T : Xc X.K newI tl (c k)) (hf : PySem.W.findIn X.K (.ref (c k)) f = some none)
    (h : PS X st (fun _ σ H => tXm (c k) (spI X.K newI tl f) (tCons (rdE (wX X c) W fe) tNil) σ H fun cls d H' => W cls d σ H')) : SS X c W st (sRaiseV k f fe) := by
  refine h.imp fun D σ H ⟨ρ, m, μ, E, M, p⟩ => ?_
  refine ⟨ρ, m, μ, E, M, (PostS.thenE E p).imp fun μ1 H1 m1 u s1 M1 p1 v r => ?_⟩
  refine ⟨Nat.le_of_ble_eq_true rfl, fun a ha => ?_⟩
  unfold keeps at p1
  cases e : dat m1 u with
  | none => rw [e] at p1; exact p1.elim
  | some d =>
    rw [e] at p1
    by_cases ok : (showOk d && decide (d.shown.length + 100 ≤ sizeLine)) = true
    · rw [if_pos ok] at p1
      rw [Bool.and_eq_true, decide_eq_true_eq] at ok
      have sa : Step X.K μ1 H1 μ1 (upd H1 a (exo a (c k) none)) := .newT ha
      have Ma : MOk X.K (upd H1 a (exo a (c k) none)) μ1 m1 := M1.newT ha
      refine ⟨a, c k, v, d, rfl, T, hf, upd_same, dat_ok Ma (r.step sa) e, ok.1, ok.2, fun dx hd na => ?_⟩
      rw [upd_ne na] at hd
      have eH : upd (del (upd (upd (upd H1 a (exo a (c k) none)) dx (exd dx [(f, v)])) a (exo a (c k) (some dx))) a) dx (.xd [(f, v)]) = upd H1 dx (.xd [(f, v)]) := funext fun b => by
        by_cases z : b = dx
        · subst z; rw [upd_same, upd_same]
        · rw [upd_ne z, upd_ne z]
          by_cases z2 : b = a
          · subst z2; rw [del_same]; exact ha.symm
          · rw [del_ne z2, upd_ne z2, upd_ne z, upd_ne z2]
      refine ⟨rfl, dx, [(f, v)], upd_same, ?_, hd, ?_⟩
      · rw [upd_ne na, upd_same]
      rw [eH]
      have sd : Step X.K μ1 H1 μ1 (upd H1 dx (.xd [(f, v)])) := .newT hd
      exact p1 μ1 _ σ (some dx) sd (M1.newT hd) ((E.step s1).step sd) ⟨dx, v, rfl, upd_same, r.step sd⟩
    · rw [if_neg ok] at p1; exact p1.elim
/-- raise C(x), C's own __init__ keeping x as f -/
theorem ss_raiseC {CX : CXT} {X : Cx} {c : Nat → Addr} {W : WX} {k kd : Nat} {f x : Str} {fe : XD} {e : Expr} {fI : Addr} {fd : FuncData} {n newI initI : String} {tl : List Value} {p pos pos2 : Pos} (B : Bas n newI initI tl) (T : Xc X.K newI tl (c k)) (hf : PySem.W.findIn X.K (.ref (c k)) f = some none)
    (iC : PySem.W.findIn X.K (.ref (c k)) "__init__" = some (some (.ref fI))) (tI : PySem.W.typeIn X.K (.ref fI) = some (.type "function")) (F1 : FnG X.prog X.w X.K X.mg X.base CX kd fI fd [("self" : Str), f] (spI X.K newI tl f))
    (hr : Room (kd + 1) X.A) (hgd : X.A.guards = some []) (hb : Binds X.K fd [("self" : Str), f] []) (hx : Passes CX X fun _ _ _ => False) (hg : Gl X x) (hm : X.mg x = some (.ref (c k))) (hc : X.calm = true) (tk : Takes X W) (he : SE X c W e fe)
    (hdb : (x == ("__debug__" : Str)) = false := by decide) (hs : starEach [e] X.env = (false, eval e X.env) :: starEach [] X.env := by rfl) (hpl : (backTo pos (starEach [] X.env)).any (·.1) = false := by rfl) : SS X c W (.Raise (some (.Call (.Name x p) [e] [] pos)) none pos2) (sRaiseV k f fe) :=
  ss_raiseV T hf (ps_raise hc tk (pmk_x B T iC tI F1 hr hgd hb hx hg hm (pa_cons he pa_nil hs) hdb hs hpl))
end Ev

set_option Elab.async false
set_option linter.all false
set_option maxRecDepth 100000
set_option maxHeartbeats 4000000
/-! Ev: try .. except C as e: return e.f -/
namespace Ev
open PySem PySem.Spec PySem.W PySem.Calls PyProof.Rows L2
def sTryR (kc : Nat → Option Bool) (i : Nat) (f : Str) (b : SD) : SD := fun ρ m => match b ρ m with
  | .err x ρ1 m1 => match kc x.cls with
    | some true => match x.val with
      | some (g, u) => if g = f ∧ i < ρ1.length then .ok (.rt u) ρ1 m1 else .bad
      | none => .bad
    | some false => .err x ρ1 m1
    | none => .bad
  | r => r
/-- the suite's reading -/
def tsR (K : PySem.W.Frag) (i : Nat) (f : Str) (a : Addr) (cls : Value) (d : Option Addr) : TS := fun D σ H => ∃ (C dd : Addr) (v : V), cls = .ref C ∧ XfC K C ∧ PySem.W.findIn K (.ref C) f = some none ∧ d = some dd ∧ H dd = some (.xd [(f, v)]) ∧ σ[i]? = some (some (.ref a)) ∧ D.rt v H
theorem ss_tryR {X : Cx} {c : Nat → Addr} {W : WX} {x n f : Str} {cv : Value} {i : Nat} {body : List Stmt} {fb : SD} {np pos pos' p1 p2 p3 : Pos} {kc : Nat → Option Bool} (hs : X.stack = X.env :: X.outer) (hf : X.env.frame = some X.env.locals) (hN : X.N.Nodup) (hi : X.N[i]? = some n) (hln : X.env.kindOf n = some .local) (hv : Vis X.env.scope n)
    (hc : Names X x cv) (tk : Takes X W) (hk : ∀ k b, kc k = some b → PySem.W.exmOne X.K (.ref (c k)) cv = some b) (hT : ∀ k, kc k = some true → XfC X.K (c k) ∧ PySem.W.findIn X.K (.ref (c k)) f = some none)
    (hn1 : (n == ("__debug__" : Str)) = false) (hn2 : (n == ("__classdict__" : Str)) = false)
    (hb : ∀ (W' : WX) (pn : List (Addr × Obj)) (xe : Value → Shared → Prop), Takes (X.tr pn xe) W' → PassesOwn (model X.prog X.w) X.A X.env xe → SB (X.tr pn xe) c W' body fb) :
    SS X c W (.Try body [.ExceptHandler (some (.Name x np)) (some n) [.Return (some (.Attribute (.Name n p1) f p2)) p3] pos'] [] [] pos) (sTryR kc i f fb) := by
  have hsu : ∀ (a : Addr) (oe : Obj) (cls : Value) (d : Option Addr) (pn : List (Addr × Obj)), Zc cls d oe → (∃ vs, oe.data = .fields vs) → PSs (X.suite a ((a, oe) :: pn)) [.Return (some (.Attribute (.Name n p1) f p2)) p3] (tsR X.K i f a cls d) := fun a oe cls d pn hz hd => by
    refine ⟨fun p s σ H D I q => ?_⟩
    obtain ⟨C, dd, v, ec, T, hno, ed, hx, hσ, q⟩ := q
    refine (pss_one (ps_ret (pe_xf (pn := pn) T hno hz hd (pe_var hi hv hn1 hn2)))).run p s σ H D I ?_
    exact ⟨.ref a, hσ, rfl, ec, dd, _, v, ed, hx, by simp [List.lookup], q⟩
  refine (ps_try_as (tb := fun W' => rdS (wX X c) W' fb) hs hf hN hi hln hc tk hb hsu).imp fun D σ H ⟨ρ, m, μ, E, M, p⟩ => ?_
  refine ⟨ρ, m, μ, E, M, ?_⟩
  unfold sTryR at p
  cases e : fb ρ m with
  | bad => rw [e] at p; exact p
  | ok fl ρ1 m1 => rw [e] at p; exact p
  | err x ρ1 m1 =>
    rw [e] at p
    intro μ' H' σ' d s' M' E' ex
    simp only at p
    cases ek : kc x.cls with
    | none => rw [ek] at p; exact p.elim
    | some b =>
      rw [ek] at p
      refine ⟨b, hk _ _ ek, fun hb a ha => ?_, fun hb => ?_⟩
      · subst hb
        simp only at p
        cases ev : x.val with
        | none => rw [ev] at p; exact p.elim
        | some gu =>
          obtain ⟨g, u⟩ := gu
          rw [ev] at p
          simp only at p
          by_cases hg : g = f ∧ i < ρ1.length
          · rw [if_pos hg] at p
            obtain ⟨hT1, hT2⟩ := hT _ ek
            unfold ExOk at ex
            rw [ev] at ex
            obtain ⟨dd, v, ed, hx, r⟩ := ex
            rw [hg.1] at hx
            refine ⟨c x.cls, dd, v, rfl, hT1, hT2, ed, hx, ?_, p μ' H' σ' s' M' E' v r⟩
            rw [List.getElem?_set_self (by rw [← E'.len]; exact hg.2)]
          · rw [if_neg hg] at p; exact p.elim
      · subst hb
        exact p μ' H' σ' d s' M' E' ex
end Ev
namespace Ev
section
variable {N : Env → Mem → Prop} {T : U → Mem → Prop} {B C : Env → Mem → Prop} {Er : Ex → Env → Mem → Prop} {ρ : Env} {m : Mem}
theorem ws_raiseV {k : Nat} {f : PySem.Str} {fe : XD} (h : WR (fe ρ m) (fun u m1 => keeps m1 u = true ∧ Er ⟨k, some (f, u)⟩ ρ m1) fun x m1 => Er x ρ m1) : WS (sRaiseV k f fe ρ m) ⟨N, T, B, C, Er⟩ := by
  refine ws_te h fun u m1 ⟨h1, h2⟩ => ?_
  rw [if_pos h1]
  unfold WS
  exact h2
theorem ws_tryR {kc : Nat → Option Bool} {i : Nat} {f : PySem.Str} {b : SD}
    (h : WS (b ρ m) ⟨N, T, B, C, fun x ρ1 m1 => (kc x.cls = some false ∧ Er x ρ1 m1) ∨ (kc x.cls = some true ∧ ∃ u, x.val = some (f, u) ∧ i < ρ1.length ∧ T u m1)⟩) : WS (sTryR kc i f b ρ m) ⟨N, T, B, C, Er⟩ := by
  unfold sTryR
  cases e : b ρ m with
  | bad => rw [e] at h; unfold WS at h; exact h.elim
  | ok fl ρ1 m1 => rw [e] at h; unfold WS at h ⊢; cases fl <;> exact h
  | err x ρ1 m1 =>
    rw [e] at h
    unfold WS at h
    simp only at h
    rcases h with ⟨h1, h2⟩ | ⟨h1, u, h2, h3, h4⟩
    · simp only [h1]
      unfold WS
      exact h2
    · simp only [h1, h2]
      rw [if_pos ⟨trivial, h3⟩]
      unfold WS
      exact h4
end
end Ev
namespace Ev
open PySem.W in
theorem exm_of {K : PySem.W.Frag} {cls c : PySem.Value} {b : Bool} (h : PySem.W.subIn K c (.type "BaseException") = some true) (k : PySem.W.kitCls K cls c = some b) : PySem.W.exmOne K cls c = some b := by
  unfold PySem.W.exmOne
  rw [h, if_pos (by rfl)]
  exact k
end Ev
namespace Ev
open PySem L2 in
theorem passF {X : Cx} : Passes (L2.CX X.prog X.w) X fun _ _ _ => False := by
  intro pins σ H s e s2 I c
  unfold L2.CX at c
  obtain ⟨a, B, H2, cls, d, r⟩ := c
  exact r.2.2.2.2.2.2.2.elim
abbrev tlArith : List PySem.Value := [.type "ArithmeticError", .type "Exception", .type "BaseException", .type "object"]
abbrev tlOver : List PySem.Value := [.type "OverflowError", .type "ArithmeticError", .type "Exception", .type "BaseException", .type "object"]
abbrev tlIndex : List PySem.Value := [.type "IndexError", .type "LookupError", .type "Exception", .type "BaseException", .type "object"]
/-- the statement in a class's body -/
def inCls : PySem.Stmt → Nat → PySem.Stmt
  | .ClassDef (body := b) .., k => b.getD k (.Pass ⟨0, 0, 0, 0⟩)
  | s, _ => s
end Ev
namespace Ev
/-- the clause takes the one class alone; no other is raised there -/
def kcOne (k : Nat) : Nat → Option Bool := fun j => if j = k then some true else none
theorem kc_one {K : PySem.W.Frag} {c : Nat → PySem.Addr} {k : Nat} {cv : PySem.Value} (h : PySem.W.exmOne K (.ref (c k)) cv = some true) : ∀ j b, kcOne k j = some b → PySem.W.exmOne K (.ref (c j)) cv = some b := fun j b e => by
  unfold kcOne at e
  split at e
  · cases e; rename_i z; rw [z]; exact h
  · cases e
theorem kc_two {P : Nat → Prop} {k : Nat} (h : P k) : ∀ j, kcOne k j = some true → P j := fun j e => by
  unfold kcOne at e
  split at e
  · rename_i z; rw [z]; exact h
  · cases e
end Ev

set_option Elab.async false
set_option linter.all false
set_option maxRecDepth 100000
set_option maxHeartbeats 2000000
/-! Ev: tables of defs that know guards = some []. -/
namespace Ev
open PySem PySem.Spec PyProof.Rows L2 RZ LiI
structure TabOkG (P : Program) (w : World) (K : PySem.W.Frag) (mg : Str → Option Value) (base : Heap) (c : Nat → Addr) (k : Nat) (aJ : Addr) (tab : TabU) : Prop where
  kd : ∃ es n, KDict K w aJ es n
  fn : ∀ z F, tabAt tab z = some F → ∃ (f : Addr) (fd : FuncData) (ps : List Str), PySem.W.nsIn K aJ z = some (some (.ref f)) ∧ FnG P w K mg base (L2.CX P w) k f fd ps (spF K c 1 F) ∧ PySem.W.keepIn K (.ref f) = true ∧ Binds K fd ps [] ∧ ∀ us m, us.length ≠ 1 → F us m = .bad
section
variable {X : Cx} {c : Nat → Addr} {W : WX} {fx fa : XD} {k : Nat} {aJ : Addr} {tab : TabU}
theorem tabNot_ofG (T : TabOkG X.prog X.w X.K X.mg X.base c k aJ tab) {σ : L2.St} {H : Hp} {Q : VK} (q : rdE (wX X c) W (dUn (oTabNot tab) fa) σ H Q) :
    tOp (fun x y H Q => ∃ (z : Str) (r : Option Value), x = .str z ∧ y = .ref aJ ∧ PySem.W.nsIn X.K aJ z = some r ∧ Q (.bl (!r.isSome)) H) (rdE (wX X c) W fa) (tC (.ref aJ)) σ H Q := by
  obtain ⟨ρ, m, μ, E, M, p⟩ := q
  refine ⟨ρ, m, μ, E, M, p.bind.imp fun μ1 H1 m1 u s1 M1 p1 v r1 => ?_⟩
  have q := p1.o
  unfold oTabNot at q
  split at q
  · rename_i z
    split at q
    · rename_i F e
      obtain ⟨f, fd, ps, h1, _⟩ := T.fn z F e
      cases r1
      exact ⟨z, _, rfl, rfl, h1, q.val M1 (.bl _)⟩
    · exact no_op q
  · exact no_op q
theorem se_tabNotG {a : Expr} {x : Str} {px pos : Pos} (T : TabOkG X.prog X.w X.K X.mg X.base c k aJ tab) (hg : Gl X x) (hm : X.mg x = some (.ref aJ)) (ha : SE X c W a fa) (hn : behindInMarks .NotIn (.Name x px) = false) (hd : (x == ("__debug__" : Str)) = false := by decide) :
    SE X c W (.Compare a [.NotIn] [.Name x px] pos) (dUn (oTabNot tab) fa) := by
  obtain ⟨es, n, D⟩ := T.kd
  exact (pe_cmpR (op_notIn_kd D) ha (pe_glob (v := .ref aJ) hg hm rfl hd) hn).imp fun σ H Q q => tabNot_ofG T q
theorem st_tabNotG {a : Expr} {x : Str} {px pos : Pos} (T : TabOkG X.prog X.w X.K X.mg X.base c k aJ tab) (hg : Gl X x) (hm : X.mg x = some (.ref aJ)) (ha : SE X c W a fa) (hn : behindInMarks .NotIn (.Name x px) = false) (hd : (x == ("__debug__" : Str)) = false := by decide) :
    ST X c W (.Compare a [.NotIn] [.Name x px] pos) (tBl (dUn (oTabNot tab) fa)) := by
  obtain ⟨es, n, D⟩ := T.kd
  exact (pt_cmpR (op_notIn_kd D) ha (pe_glob (v := .ref aJ) hg hm rfl hd) hn).imp fun σ H Q q => rdB_of (fun σ H Q q => tabNot_ofG T q) q
theorem pe_callTabG {i : Nat} {x : Str} {p pos : Pos} {e : Expr} {es : List Expr} {t : TA} (hr : Room k X.A) (hgd : X.A.guards = some []) (hN : X.N[i]? = some x) (hv : Vis X.env.scope x) (hx : ∀ σ, PassesAt (L2.CX X.prog X.w) X σ (WE W σ)) (ha : PA X (e :: es) t)
    (hdb : (x == ("__debug__" : Str)) = false := by decide) (hcd : (x == ("__classdict__" : Str)) = false := by decide)
    (he : starEach (e :: es) X.env = (false, eval e X.env) :: starEach es X.env := by rfl) (hpl : (backTo pos (starEach es X.env)).any (·.1) = false := by rfl) :
    PE X (.Call (.Name x p) (e :: es) [] pos) (fun σ H Q => ∃ (f : Addr) (sp : Sp) (fd : FuncData) (ps : List Str), σ[i]? = some (some (.ref f)) ∧ FnG X.prog X.w X.K X.mg X.base (L2.CX X.prog X.w) k f fd ps sp ∧ PySem.W.keepIn X.K (.ref f) = true ∧ Binds X.K fd ps [] ∧ t σ H fun vs H1 => sp vs H1 Q (WE W σ)) := by
  refine ⟨fun pins s σ H Q I h => ?_⟩
  obtain ⟨f, sp, fd, ps, hs, F, hk, hb, ht⟩ := h
  refine wpAny_Call_Name_kw (thn ((pe_var (pos := p) hN hv hdb hcd).run pins s σ H (fun v H1 => v = .ref f ∧ H1 = H) I ⟨.ref f, hs, rfl, rfl⟩) fun u s1 ⟨v, H1, I1, r1, q1⟩ => ?_)
  obtain ⟨rfl, rfl⟩ := q1
  cases r1
  refine PySem.W.callWith_K (h₀ := X.base) I.ok.mod.kin hk (thn (ha.run pos pins s1 σ _ _ I1 ht) fun us s2 ⟨vs, H2, I2, r, q⟩ => ⟨I2.kIn, ?_⟩) he hpl
  exact run_fnG F hr hgd hb (hx σ) I2 r q
theorem sb_judgeG {i : Nat} {y xJ : Str} {py pJ p1 p2 p3 p4 p5 : Pos} {ix arg : Expr} (T : TabOkG X.prog X.w X.K X.mg X.base c k aJ tab) (hc : X.N.Nodup) (hi : X.N[i]? = some y) (hy : Loc X.env.scope y) (hv : Vis X.env.scope y) (hg : Gl X xJ) (hm : X.mg xJ = some (.ref aJ)) (hr : Room k X.A) (hgd : X.A.guards = some [])
    (hx : ∀ σ, PassesAt (L2.CX X.prog X.w) X σ (WE W σ)) (hix : SE X c W ix fx) (harg : SE X c W arg fa) (hpl : PlainIx ix)
    (hs : swapsWith (.Subscript (.Name xJ pJ) ix p1) (some (.Name y py)) p2.line X.env = pure false := by rfl) (hf : X.fn y = true ∨ X.env.scope.names.lookup y = some .local := by first | exact .inl rfl | exact .inr rfl | assumption)
    (hdb : (y == ("__debug__" : Str)) = false := by decide) (hcd : (y == ("__classdict__" : Str)) = false := by decide) (hdJ : (xJ == ("__debug__" : Str)) = false := by decide)
    (he : starEach [arg] X.env = (false, eval arg X.env) :: starEach [] X.env := by rfl) :
    SB X c W [.Assign [.Name y py] (.Subscript (.Name xJ pJ) ix p1) p2, .Return (some (.Call (.Name y p3) [arg] [] p4)) p5] (sJudge tab i fx fa) := by
  have h1 := ps_set (pos' := py) (pos := p2) hc hi hy (pe_ix (pos := p1) (ix_kdict (X := X)) (pe_glob (X := X) (pos := pJ) (v := .ref aJ) hg hm rfl hdJ) hix hpl) hs hf
  have h2 := ps_ret (pos := p5) (pe_callTabG (W := W) (p := p3) (pos := p4) hr hgd hi hv hx (pa_cons harg pa_nil he) hdb hcd he rfl)
  refine (pss_cons h1 (pss_one h2)).imp fun D σ H ⟨ρ, m, μ, E, M, p⟩ => ?_
  unfold sJudge at p
  split at p
  · rename_i hl
    refine ⟨ρ, m, μ, E, M, (PostS.thenE E p).imp fun μ1 H1 m1 u s1 M1 p1 v r1 => ?_⟩
    split at p1
    · rename_i z
      split at p1
      · rename_i F e
        obtain ⟨f, fd, ps, hn, FO, hk, hb, hF⟩ := T.fn z F e
        obtain ⟨es, n, D'⟩ := T.kd
        cases r1
        refine ⟨aJ, z, .ref f, rfl, rfl, ⟨es, n, _, D'.at_, D'.lit, hn, rfl⟩, ?_⟩
        have E1 := (E.step s1).hide i (.ref f)
        refine ⟨f, spF X.K c 1 F, fd, ps, by rw [List.getElem?_set_self (by rw [← E.len]; exact hl)], FO, hk, hb, ?_⟩
        refine ⟨ρ.set i none, m1, μ1, E1, M1, (PostS.thenE E1 p1).imp fun μ2 H2 m2 u2 s2 M2 p2 v2 r2 => ?_⟩
        refine ⟨rfl, [u2], m2, μ2, .cons r2 .nil, M2, ?_⟩
        have p3 := PostS.thenE (E1.step s2) p2
        cases q : F [u2] m2 with
        | bad => rw [q] at p3; exact p3
        | err x m3 =>
          rw [q] at p3
          exact fun μ3 H3 d s3 M3 e3 => p3 μ3 H3 d s3 M3 e3
        | ok r m3 =>
          rw [q] at p3
          exact fun μ3 H3 s3 M3 v r => p3 μ3 H3 s3 M3 μ3 H3 _ .refl M3 ((E1.step s2).step s3) v r
      · exact False.elim p1
    · exact False.elim p1
  · exact False.elim p
end
end Ev

set_option Elab.async false
set_option linter.all false
set_option maxRecDepth 100000
set_option maxHeartbeats 2000000
/-! Ev: dicts by weakest preconditions. -/
namespace Ev
open PySem PySem.Spec L2
section
variable {m : Mem} {ρ : Env} {n : Nat} {kvs : KU} {key : Key} {k v x : U} {E : Ex → Mem → Prop}
theorem wo_dget {Q : U → Mem → Prop} (hm : m[n]? = some (.dK kvs)) (hk : keyOf k = some key) (hx : valK kvs key = some x) (q : Q x m) : WO (oDGet (.ref n) k m) Q := by
  refine wo_eq_ (a := x) (m := m) ?_ q
  unfold oDGet dcells
  simp only [hm, hk, hx]
  rfl
theorem wo_din {Q : U → Mem → Prop} {neg : Bool} (hm : m[n]? = some (.dK kvs)) (hk : keyOf k = some key) (q : Q (.bl (neg ^^ (valK kvs key).isSome)) m) : WO (oDIn neg k (.ref n) m) Q := by
  refine wo_eq_ (a := .bl (neg ^^ (valK kvs key).isSome)) (m := m) ?_ q
  unfold oDIn dcells
  simp only [hm, hk]
theorem wo_setD {Q : Unit → Mem → Prop} (hm : m[n]? = some (.dK kvs)) (hk : keyOf k = some key) (hl : kvs.length < sizeLine) (q : ∀ m', St m m' n (.dK (putU kvs key v)) → Q () m') : WO (oSetD (.ref n) k v m) Q := by
  refine wo_eq_ (a := ()) (m := m.set n (.dK (putU kvs key v))) ?_ (q _ (St.mk' hm _))
  unfold oSetD dcell
  simp only [hm, hk]
  rw [if_pos hl]
theorem wo_dictD {Q : U → Mem → Prop} (hm : m[n]? = some (.dK kvs)) (q : ∀ j m', Nw m m' j (.dK kvs) → Q (.ref j) m') : WO (oDictD [.ref n] m) Q := by
  refine wo_eq_ (a := .ref m.length) (m := m ++ [.dK kvs]) ?_ (q _ _ (Nw.mk' _ _))
  unfold oDictD dcells
  simp only [hm]
theorem wr_dget2 {Q : U → Mem → Prop} {fo fi ff : XD} (ho : WR (fo ρ m) (fun u m1 => u = .ref n ∧ m1[n]? = some (.dK kvs) ∧
    WR (fi ρ m1) (fun k m2 => keyOf k = some key ∧ WR (ff ρ m2) (fun z m3 => m3[n]? = some (.dK kvs) ∧ Q ((valK kvs key).getD z) m3) E) E) E) : WR (dDGet2 fo fi ff ρ m) Q E := by
  unfold dDGet2
  refine wr_bi ho ?_
  rintro u m1 ⟨rfl, h1, h⟩
  have e1 : dcells m1 (.ref n) = some kvs := by unfold dcells; simp only [h1]
  simp only [e1]
  refine wr_bi h ?_
  rintro k m2 ⟨hk, h2⟩
  refine wr_bi h2 ?_
  rintro z m3 ⟨h3, q⟩
  have e3 : dcells m3 (.ref n) = some kvs := by unfold dcells; simp only [h3]
  simp only [e3, hk]
  exact wr_ok q
theorem wr_dpop {Q : U → Mem → Prop} {fo fi : XD} (ho : WR (fo ρ m) (fun u m1 => u = .ref n ∧ (∃ kv0, m1[n]? = some (.dK kv0)) ∧
    WR (fi ρ m1) (fun k m2 => keyOf k = some key ∧ m2[n]? = some (.dK kvs) ∧ ∃ x, valK kvs key = some x ∧ ∀ m3, St m2 m3 n (.dK (dropU kvs key)) → Q x m3) E) E) : WR (dDPop fo fi ρ m) Q E := by
  unfold dDPop
  refine wr_bi ho ?_
  rintro u m1 ⟨rfl, ⟨kv0, h1⟩, h⟩
  have e1 : dcells m1 (.ref n) = some kv0 := by unfold dcells; simp only [h1]
  simp only [e1]
  refine wr_bi h ?_
  rintro k m2 ⟨hk, h2, x, hx, q⟩
  have e2 : dcell m2 (.ref n) = some (n, kvs) := by unfold dcell; simp only [h2]
  simp only [e2, hk, hx]
  exact wr_ok (q _ (St.mk' h2 _))
end
section
variable {N : Env → Mem → Prop} {T : U → Mem → Prop} {B C : Env → Mem → Prop} {Er : Ex → Env → Mem → Prop} {ρ : Env} {m : Mem} {tab : TabU} {z : PySem.Str} {F : List U → Mem → R U}
theorem wo_tabNot {Q : U → Mem → Prop} (h : tabAt tab z = some F) (q : Q (.bl false) m) : WO (oTabNot tab (.str z) m) Q := by
  refine wo_eq_ (a := .bl false) (m := m) ?_ q
  unfold oTabNot
  simp only [h]
theorem ws_judge {i : Nat} {fx fa : XD} (hl : i < ρ.length) (h : WR (fx ρ m) (fun k m1 => ∃ z F, k = .str z ∧ tabAt tab z = some F ∧
    WR (fa (ρ.set i none) m1) (fun u m2 => WR (F [u] m2) (fun r m3 => T r m3) fun x m3 => Er x (ρ.set i none) m3) fun x m3 => Er x (ρ.set i none) m3) fun x m1 => Er x ρ m1) : WS (sJudge tab i fx fa ρ m) ⟨N, T, B, C, Er⟩ := by
  unfold sJudge
  rw [if_pos hl]
  refine ws_te h ?_
  rintro k m1 ⟨z, F, rfl, e, h1⟩
  simp only [e]
  refine ws_te h1 fun u m2 h2 => ?_
  refine ws_te h2 fun r m3 q => ?_
  unfold WS
  exact q
end
end Ev

set_option Elab.async false
set_option linter.all false
set_option maxRecDepth 100000
set_option maxHeartbeats 2000000
/-! Ev: loops and comprehensions over dicts, by weakest preconditions. -/
namespace Ev
open PySem PySem.Spec L2
theorem st_of {m : Mem} {n : Nat} (h : n < m.length) (c : Cell) : St m (m.set n c) n c :=
  ⟨by rw [List.getElem?_set_self h], fun k hk => by rw [List.getElem?_set_ne (Ne.symm hk)], by simp⟩
theorem Sv.lock {S : List Nat} {m m1 m2 m3 : Mem} {n : Nat} {x y : Cell} (h : m[n]? = some x) (a : St m m1 n y) (b : Sv S m1 m2) (c : St m2 m3 n x) : Sv S m m3 := by
  refine ⟨by rw [c.len]; have := b.len; rw [a.len] at this; exact this, fun k hk hl => ?_⟩
  by_cases e : k = n
  · subst e; rw [c.at_, h]
  · rw [c.ne k e, b.old k hk (by rw [a.len]; exact hl), a.ne k e]
section
variable {m : Mem} {ρ : Env} {n i : Nat} {kvs : KU} {key : Key} {k v x u : U} {E : Ex → Mem → Prop} {Q : U → Mem → Prop}
theorem wo_dgetC (hd : dcells m u = some kvs) (hk : keyOf k = some key) (hx : valK kvs key = some x) (q : Q x m) : WO (oDGet u k m) Q := by
  refine wo_eq_ (a := x) (m := m) ?_ q
  unfold oDGet
  simp only [hd, hk, hx]
  rfl
theorem dcK {n : Nat} (h : m[n]? = some (.dK kvs)) : dcells m (.ref n) = some kvs := by unfold dcells; simp only [h]
theorem dcF {n : Nat} (h : m[n]? = some (.dF kvs)) : dcells m (.ref n) = some kvs := by unfold dcells; simp only [h]
theorem wo_dinC {neg : Bool} (hd : dcells m u = some kvs) (hk : keyOf k = some key) (q : Q (.bl (neg ^^ (valK kvs key).isSome)) m) : WO (oDIn neg k u m) Q := by
  refine wo_eq_ (a := .bl (neg ^^ (valK kvs key).isSome)) (m := m) ?_ q
  unfold oDIn
  simp only [hd, hk]
theorem wr_dnew (q : ∀ n m', Nw m m' n (.dK []) → Q (.ref n) m') : WR (dDNew ρ m) Q E := wr_eq (r := dDNew ρ m) rfl (q _ _ (Nw.mk' _ _))
theorem wr_lockE {f : XD} (hρ : ρ[i]? = some (some (.ref n))) (hm : m[n]? = some (.dK kvs)) (h : ∀ m1, St m m1 n (.dF kvs) → WR (f ρ m1) (fun u m2 => n < m2.length ∧ ∀ m3, St m2 m3 n (.dK kvs) → Q u m3) noE) : WR (lockE i f ρ m) Q E := by
  unfold lockE
  simp only [hρ, hm]
  obtain ⟨u, m2, e, hl, q⟩ := wr_get (h _ (St.mk' hm _))
  simp only [e]
  exact wr_ok (q _ (st_of hl _))
theorem ws_lockS {N : Env → Mem → Prop} {T : U → Mem → Prop} {B C : Env → Mem → Prop} {Er : Ex → Env → Mem → Prop} {f : SD} (hρ : ρ[i]? = some (some (.ref n))) (hm : m[n]? = some (.dK kvs))
    (h : ∀ m1, St m m1 n (.dF kvs) → WS (f ρ m1) ⟨fun ρ1 m2 => n < m2.length ∧ ∀ m3, St m2 m3 n (.dK kvs) → N ρ1 m3, fun u m2 => n < m2.length ∧ ∀ m3, St m2 m3 n (.dK kvs) → T u m3, fun ρ1 m2 => n < m2.length ∧ ∀ m3, St m2 m3 n (.dK kvs) → B ρ1 m3, fun ρ1 m2 => n < m2.length ∧ ∀ m3, St m2 m3 n (.dK kvs) → C ρ1 m3, fun _ _ _ => False⟩) : WS (lockS i f ρ m) ⟨N, T, B, C, Er⟩ := by
  unfold lockS
  simp only [hρ, hm]
  have z := h _ (St.mk' hm _)
  cases e : f ρ (m.set n (.dF kvs)) with
  | bad => rw [e] at z; unfold WS at z; exact z.elim
  | err x ρ1 m1 => rw [e] at z; unfold WS at z; exact z.elim
  | ok k ρ1 m1 =>
    rw [e] at z
    unfold WS at z ⊢
    cases k <;> exact z.2 _ (st_of z.1 _)
theorem wi_keysF {Q : Src → Mem → Prop} {f : XD} (h : WR (f ρ m) (fun u m1 => u = .ref n ∧ m1[n]? = some (.dF kvs) ∧ Q (.fix (kvs.map fun kv => keyU kv.1)) m1) E) : WR (iKeysF f ρ m) Q E := by
  unfold iKeysF
  refine wr_bi h ?_
  rintro u m1 ⟨rfl, h1, q⟩
  simp only [h1]
  exact wr_ok q
theorem wi_itemsF {Q : Src → Mem → Prop} {f : XD} (h : WR (f ρ m) (fun u m1 => u = .ref n ∧ m1[n]? = some (.dF kvs) ∧ Q (.fix (kvs.map pairU)) m1) E) : WR (iItemsF f ρ m) Q E := by
  unfold iItemsF
  refine wr_bi h ?_
  rintro u m1 ⟨rfl, h1, q⟩
  simp only [h1]
  exact wr_ok q
theorem wr_items {f : XD} (h : WR (f ρ m) (fun u m1 => u = .ref n ∧ m1[n]? = some (.dK kvs) ∧ ∀ j m', Nw m1 m' j (.lst (kvs.map pairU)) → Q (.ref j) m') E) : WR (dItems f ρ m) Q E := by
  unfold dItems
  refine wr_bi h ?_
  rintro u m1 ⟨rfl, h1, q⟩
  have e : dcell m1 (.ref n) = some (n, kvs) := by unfold dcell; simp only [h1]
  simp only [e]
  exact wr_ok (q _ _ (Nw.mk' _ _))
theorem wo_dictP {us : List U} {kv : KU} (hm : m[n]? = some (.lst us)) (hp : pairsOfU us = some kv) (q : ∀ j m', Nw m m' j (.dK (mergeU [] kv)) → Q (.ref j) m') : WO (oDictP [.ref n] m) Q := by
  refine wo_eq_ (a := .ref m.length) (m := m ++ [.dK (mergeU [] kv)]) ?_ (q _ _ (Nw.mk' _ _))
  unfold oDictP
  simp only [hm, hp]
theorem wo_sortedD {ks : List Str} (hd : dcells m u = some kvs) (hk : keysS kvs = some ks) (hl : ks.length < 64) (q : ∀ j m', Nw m m' j (.lst ((sortS ks).map .str)) → Q (.ref j) m') : WO (oSorted [u] m) Q := by
  refine wo_eq_ (a := .ref m.length) (m := m ++ [.lst ((sortS ks).map .str)]) ?_ (q _ _ (Nw.mk' _ _))
  unfold oSorted
  simp only [hd, hk]
  exact if_pos hl
theorem wo_sortedS {us : List U} {ks : List Str} (hd : dcells m u = none) (hi : itemsOf m u = some us) (hk : txts us = some ks) (hl : ks.length < 64) (q : ∀ j m', Nw m m' j (.lst ((sortS ks).map .str)) → Q (.ref j) m') : WO (oSorted [u] m) Q := by
  refine wo_eq_ (a := .ref m.length) (m := m ++ [.lst ((sortS ks).map .str)]) ?_ (q _ _ (Nw.mk' _ _))
  unfold oSorted
  simp only [hd, hi, hk]
  exact if_pos hl
theorem wo_listD (hd : dcells m u = some kvs) (q : ∀ j m', Nw m m' j (.lst (kvs.map fun kv => keyU kv.1)) → Q (.ref j) m') : WO (oListD [u] m) Q := by
  refine wo_eq_ (a := .ref m.length) (m := m ++ [.lst (kvs.map fun kv => keyU kv.1)]) ?_ (q _ _ (Nw.mk' _ _))
  unfold oListD
  simp only [hd]
theorem wo_eqD {b : Bool} {v : U} (h : eqDD m u v = some b) (q : Q (.bl b) m) : WO (oEqD u v m) Q := by unfold oEqD; rw [h]; with_unfolding_all exact q
theorem wo_neD {b : Bool} {v : U} (h : eqDD m u v = some b) (q : Q (.bl (!b)) m) : WO (oNeD u v m) Q := by unfold oNeD; rw [h]; with_unfolding_all exact q
/-- a dict written down -/
theorem wr_disp {l : List (XD × XD)} {ps : List (U × U)} {kv : KU} {m1 : Mem} (he : evalPs l ρ m = .ok ps m1) (hk : keysOf ps = some kv) (hl : kv.length ≤ 15) (q : ∀ j m', Nw m1 m' j (.dK (mergeU [] kv)) → Q (.ref j) m') : WR (dDisp l ρ m) Q E := by
  unfold dDisp
  rw [he]
  refine wr_bind (wr_ok ?_)
  simp only [hk]
  rw [if_pos hl]
  exact wr_ok (q _ _ (Nw.mk' _ _))
end
end Ev

set_option Elab.async false
set_option linter.all false
set_option maxRecDepth 100000
set_option maxHeartbeats 4000000
namespace My
open PySem L2 Ev RZ RT
def b_is_number : SD :=
  (sSeq (sIf (tO (tN (tTru (dIsi .int (dSlot 0)))) (tTru (dIsi .bool (dSlot 0)))) (sRet (dC (.bl false))) sNext)
  (sRet (dChain oLe oLe (dB oMax2 (lCons (dSlot 1) (lCons (dUn oNeg (dC (.int 999999999999999999999999999999999999999999999999999999999999))) lNil))) (dSlot 0) (dB oMin2 (lCons (dSlot 2) (lCons (dC (.int 999999999999999999999999999999999999999999999999999999999999)) lNil))))))
def d_is_number : List U → Mem → R U := runB 3 3 b_is_number
def b_is_name : SD :=
  (sSeq (sIf (tO (tN (tTru (dIsi .str (dSlot 0)))) (tN (tBl (dChain oLe oLe (dC (.int 1)) (dB oLen (lCons (dSlot 0) lNil)) (dC (.int 4)))))) (sRet (dC (.bl false))) sNext)
  (sRet (dB oAll (lCons (dLc (iAny (dSlot 0)) (gName 1) tYesU (dOp oIn (dSlot 1) (dC (.str (st [97, 98, 99, 100, 101, 102, 103, 104, 105, 106, 107, 108, 109, 110, 111, 112, 113, 114, 115, 116, 117, 118, 119, 120, 121, 122])))) [1]) lNil))))
def d_is_name : List U → Mem → R U := runB 2 1 b_is_name
def b_sorted_tree : SD :=
  (sRet (dDc (iAny (dB oSorted (lCons (dSlot 0) lNil))) (gName 1) tYesU (dSlot 1) (dOp oDGet (dSlot 0) (dSlot 1)) [1]))
def d_sorted_tree : List U → Mem → R U := runB 2 1 b_sorted_tree
def b_patch_refusal : SD :=
  (sSeq (sAsg (dSlot 0) (gTup 5 (gCons (gName 2) (gCons (gName 3) (gCons (gName 4) (gCons (gName 5) (gCons (gName 6) gNil)))))))
  (sSeq (sIf (tO (tBl (dOp oGt (dSlot 4) (dSlot 1))) (tBl (dOp oGt (dSlot 5) (dOp oSub (dSlot 1) (dSlot 4))))) (sRet (dTup (lCons (dC (.str (st [112, 108, 97, 99, 101]))) (lCons (dSlot 3) lNil)))) sNext)
  (sSeq (sIf (tBl (dOp oGt (dOp oAdd (dOp oSub (dSlot 1) (dSlot 5)) (dB oLen (lCons (dSlot 6) lNil))) (dC (.int 996)))) (sRet (dTup (lCons (dC (.str (st [108, 111, 110, 103]))) (lCons (dSlot 3) lNil)))) sNext)
  (sRet (dC .non)))))
def d_patch_refusal : List U → Mem → R U := runB 7 2 b_patch_refusal
def b_do_deed : SD :=
  (sSeq (sPar 3 4 (lCons (dOp oIx (dSlot 1) (dC (.int 0))) (lCons (dOp oIx (dSlot 1) (dC (.int 1))) lNil)))
  (sIf (tBl (dOp oEq (dSlot 3) (dC (.str (st [112, 117, 116]))))) (sAsg (dSlot 2) (gSub oSetD (dSlot 0) (dSlot 4))) (sIf (tBl (dOp oEq (dSlot 3) (dC (.str (st [112, 97, 116, 99, 104]))))) (sSeq (sPar 5 6 (lCons (dOp oIx (dSlot 1) (dC (.int 2))) (lCons (dOp oIx (dSlot 1) (dC (.int 3))) lNil)))
  (sAsg (dOp oAdd (dOp oAdd (dSlice (dOp oDGet (dSlot 0) (dSlot 4)) pNone (pSome (dSlot 5))) (dSlot 2)) (dSlice (dOp oDGet (dSlot 0) (dSlot 4)) (pSome (dOp oAdd (dSlot 5) (dSlot 6))) pNone)) (gSub oSetD (dSlot 0) (dSlot 4)))) (sSeq (sAsg (dDPop (dSlot 0) (dSlot 4)) (gName 7))
  (sIf (tBl (dOp oEq (dSlot 3) (dC (.str (st [114, 101, 110, 97, 109, 101]))))) (sAsg (dSlot 7) (gSub oSetD (dSlot 0) (dOp oIx (dSlot 1) (dC (.int 2))))) sNext)))))
def d_do_deed : List U → Mem → R U := runB 8 3 b_do_deed
def b_put_cells : SD :=
  (sRet (dIf (tBl (dOp oIn (dOp oIx (dSlot 0) (dC (.int 0))) (dTup (lCons (dC (.str (st [112, 117, 116]))) (lCons (dC (.str (st [112, 97, 116, 99, 104]))) lNil))))) (dOp oIx (dSlot 0) (dUn oNeg (dC (.int 1)))) (dTup lNil)))
def d_put_cells : List U → Mem → R U := runB 1 1 b_put_cells
def b_law_well : SD :=
  (sSeq (sAsg (dIf (tBl (dOp oLt (dSlot 1) (dB oLen (lCons (dSlot 0) lNil)))) (dB oInt (lCons (dOp oIx (dSlot 0) (dSlot 1)) lNil)) (dOp oAdd (dOp oAdd (dOp oMulG (dC (.int 4013)) (dSlot 1)) (dC (.int 83))) (dOp oMod (dB oInt (lCons (dB oSum (lCons (dSlice (dSlot 0) pNone (pSome (dC (.int 1)))) lNil)) lNil)) (dC (.int 1000231))))) (gName 2))
  (sSeq (sAsg (dOp oMod (dB oInt (lCons (dB oAbs (lCons (dSlot 2) lNil)) lNil)) (dOp oPow (dOp oPow (dC (.int 10)) (dC (.int 57))) (dC (.int 8)))) (gName 3))
  (sSeq (sAsg (dB oInt (lCons (dOp oAdd (dOp oAdd (dOp oAdd (dOp oMulG (dOp oMod (dSlot 3) (dC (.int 2305843009213693921))) (dC (.int 60107))) (dOp oMulG (dC (.int 7027)) (dSlot 1))) (dOp oMulG (dC (.int 67)) (dB oInt (lCons (dOp oLt (dSlot 2) (dC (.int 0))) lNil)))) (dC (.int 107))) lNil)) (gName 4))
  (sRet (dLst (lCons (dB oMax2 (lCons (dC (.int 0)) (lCons (dOp oSub (dSlot 3) (dOp oPow (dC (.int 10)) (dC (.int 16)))) lNil))) (lCons (dOp oMod (dSlot 4) (dC (.int 2305843009213693951))) (lCons (dC (.int 0)) lNil))))))))
def d_law_well : List U → Mem → R U := runB 5 2 b_law_well
def b_law_drawn : SD :=
  (sSeq (sIf (tBl (dOp oGt (dOp oIx (dSlot 0) (dC (.int 0))) (dC (.int 0)))) (sSeq (sAsg (dOp oMod (dB oInt (lCons (dOp oIx (dSlot 0) (dC (.int 0))) lNil)) (dSlot 1)) (gName 2))
  (sSeq (sAsg (dOp oDiv (dOp oIx (dSlot 0) (dC (.int 0))) (dSlot 1)) (gSub oSetL (dSlot 0) (dC (.int 0))))
  (sRet (dSlot 2)))) sNext)
  (sSeq (sAsg (dOp oAdd (dOp oIx (dSlot 0) (dC (.int 2))) (dC (.int 1))) (gSub oSetL (dSlot 0) (dC (.int 2))))
  (sSeq (sAsg (dOp oMod (dB oInt (lCons (dOp oAdd (dOp oIx (dSlot 0) (dC (.int 1))) (dOp oMulG (dC (.int 49979713)) (dOp oIx (dSlot 0) (dC (.int 2))))) lNil)) (dC (.int 2305843009213693907))) (gName 3))
  (sSeq (sAsg (dOp oAdd (dOp oAdd (dOp oMulG (dOp oMod (dB oInt (lCons (dOp oMulG (dSlot 3) (dSlot 3)) lNil)) (dC (.int 2305843009213693951))) (dC (.int 32452867))) (dSlot 3)) (dOp oMulG (dC (.int 47)) (dOp oIx (dSlot 0) (dC (.int 2))))) (gName 4))
  (sRet (dOp oMod (dB oInt (lCons (dOp oDiv (dSlot 4) (dC (.int 131071))) lNil)) (dSlot 1)))))))
def d_law_drawn : List U → Mem → R U := runB 5 2 b_law_drawn
def b_law_behind : SD :=
  (sSeq (sPar3 2 3 4 (lCons (dOp oIx (dSlot 1) (dC (.int 0))) (lCons (dOp oIx (dSlot 1) (dC (.int 1))) (lCons (dB oDictP (lCons (dItems (dSlot 0)) lNil)) lNil))))
  (sSeq (sIf (tBl (dOp oEq (dSlot 2) (dC (.str (st [112, 117, 116]))))) (sSeq (sAsg (dOp oIx (dSlot 1) (dC (.int 2))) (gSub oSetD (dSlot 4) (dSlot 3)))
  (sRet (dTup (lCons (dC .non) (lCons (dSlot 4) lNil))))) sNext)
  (sSeq (sIf (tBl (dOp (oDIn true) (dSlot 3) (dSlot 0))) (sRet (dTup (lCons (dTup (lCons (dC (.str (st [103, 111, 110, 101]))) (lCons (dSlot 3) lNil))) (lCons (dSlot 0) lNil)))) sNext)
  (sSeq (sIf (tBl (dOp oEq (dSlot 2) (dC (.str (st [112, 97, 116, 99, 104]))))) (sSeq (sPar3 5 6 7 (lCons (dB oToLst (lCons (dOp oDGet (dSlot 0) (dSlot 3)) lNil)) (lCons (dOp oIx (dSlot 1) (dC (.int 2))) (lCons (dOp oIx (dSlot 1) (dC (.int 3))) lNil))))
  (sSeq (sIf (tO (tBl (dOp oGt (dSlot 6) (dB oLen (lCons (dSlot 5) lNil)))) (tBl (dOp oGt (dOp oAdd (dSlot 6) (dSlot 7)) (dB oLen (lCons (dSlot 5) lNil))))) (sRet (dTup (lCons (dTup (lCons (dC (.str (st [112, 108, 97, 99, 101]))) (lCons (dSlot 3) lNil))) (lCons (dSlot 0) lNil)))) sNext)
  (sSeq (sSetSl (dB oToLst (lCons (dOp oIx (dSlot 1) (dC (.int 4))) lNil)) (dSlot 5) (pSome (dSlot 6)) (pSome (dOp oAdd (dSlot 6) (dSlot 7))))
  (sSeq (sIf (tBl (dOp oGt (dB oLen (lCons (dSlot 5) lNil)) (dC (.int 996)))) (sRet (dTup (lCons (dTup (lCons (dC (.str (st [108, 111, 110, 103]))) (lCons (dSlot 3) lNil))) (lCons (dSlot 0) lNil)))) sNext)
  (sSeq (sAsg (dB oToTup (lCons (dSlot 5) lNil)) (gSub oSetD (dSlot 4) (dSlot 3)))
  (sRet (dTup (lCons (dC .non) (lCons (dSlot 4) lNil))))))))) sNext)
  (sSeq (sIf (tAn (tBl (dOp oEq (dSlot 2) (dC (.str (st [114, 101, 110, 97, 109, 101]))))) (tBl (dOp (oDIn false) (dOp oIx (dSlot 1) (dC (.int 2))) (dSlot 0)))) (sRet (dTup (lCons (dTup (lCons (dC (.str (st [116, 104, 101, 114, 101]))) (lCons (dOp oIx (dSlot 1) (dC (.int 2))) lNil))) (lCons (dSlot 0) lNil)))) sNext)
  (sSeq (sAsg (dDPop (dSlot 4) (dSlot 3)) (gName 8))
  (sSeq (sIf (tBl (dOp oEq (dSlot 2) (dC (.str (st [114, 101, 110, 97, 109, 101]))))) (sAsg (dSlot 8) (gSub oSetD (dSlot 4) (dOp oIx (dSlot 1) (dC (.int 2))))) sNext)
  (sRet (dTup (lCons (dC .non) (lCons (dSlot 4) lNil)))))))))))
def d_law_behind : List U → Mem → R U := runB 9 2 b_law_behind
def b_law_names : SD :=
  (sRet (dLst (lCons (dC (.str (st [97]))) (lCons (dC (.str (st [98]))) (lCons (dC (.str (st [99]))) (lCons (dC (.str (st [100, 100]))) (lCons (dC (.str (st [122, 122, 122, 122]))) lNil)))))))
def d_law_names : List U → Mem → R U := runB 0 0 b_law_names
def b_is_cell : SD :=
  (sRet (dCall d_is_number (lCons (dSlot 0) (lCons (dC (.int 0)) (lCons (dC (.int 996)) lNil)))))
def d_is_cell : List U → Mem → R U := runB 1 1 b_is_cell
def b_is_drop : SD :=
  (sRet (dAnd (dOp oEq (dB oLen (lCons (dSlot 0) lNil)) (dC (.int 2))) (dCall d_is_name (lCons (dOp oIx (dSlot 0) (dC (.int 1))) lNil))))
def d_is_drop : List U → Mem → R U := runB 1 1 b_is_drop
def b_is_rename : SD :=
  (sRet (dAnd (dOp oEq (dB oLen (lCons (dSlot 0) lNil)) (dC (.int 3))) (dAnd (dCall d_is_name (lCons (dOp oIx (dSlot 0) (dC (.int 1))) lNil)) (dAnd (dCall d_is_name (lCons (dOp oIx (dSlot 0) (dC (.int 2))) lNil)) (dOp oNe (dOp oIx (dSlot 0) (dC (.int 1))) (dOp oIx (dSlot 0) (dC (.int 2))))))))
def d_is_rename : List U → Mem → R U := runB 1 1 b_is_rename
def b_refusal_of : SD :=
  (sSeq (sPar 2 3 (lCons (dOp oIx (dSlot 1) (dC (.int 0))) (lCons (dOp oIx (dSlot 1) (dC (.int 1))) lNil)))
  (sSeq (sIf (tBl (dOp oEq (dSlot 2) (dC (.str (st [112, 117, 116]))))) (sRet (dC .non)) sNext)
  (sSeq (sIf (tBl (dOp (oDIn true) (dSlot 3) (dSlot 0))) (sRet (dTup (lCons (dC (.str (st [103, 111, 110, 101]))) (lCons (dSlot 3) lNil)))) sNext)
  (sSeq (sIf (tAn (tBl (dOp oEq (dSlot 2) (dC (.str (st [114, 101, 110, 97, 109, 101]))))) (tBl (dOp (oDIn false) (dOp oIx (dSlot 1) (dC (.int 2))) (dSlot 0)))) (sRet (dTup (lCons (dC (.str (st [116, 104, 101, 114, 101]))) (lCons (dOp oIx (dSlot 1) (dC (.int 2))) lNil)))) sNext)
  (sSeq (sIf (tBl (dOp oEq (dSlot 2) (dC (.str (st [112, 97, 116, 99, 104]))))) (sRet (dCall d_patch_refusal (lCons (dSlot 1) (lCons (dB oLen (lCons (dOp oDGet (dSlot 0) (dSlot 3)) lNil)) lNil)))) sNext)
  (sRet (dC .non)))))))
def d_refusal_of : List U → Mem → R U := runB 4 2 b_refusal_of
def b_law_given : SD :=
  (sRet (dOp oIx (dSlot 1) (dCall d_law_drawn (lCons (dSlot 0) (lCons (dB oLen (lCons (dSlot 1) lNil)) lNil)))))
def d_law_given : List U → Mem → R U := runB 2 2 b_law_given
def b_is_cells : SD :=
  (sRet (dAnd (dIsi .tuple (dSlot 0)) (dB oAll (lCons (dLc (iAny (dSlot 0)) (gName 1) tYesU (dCall d_is_cell (lCons (dSlot 1) lNil)) [1]) lNil))))
def d_is_cells : List U → Mem → R U := runB 2 1 b_is_cells
def b_law_cells : SD :=
  (sSeq (sAsg (dLst lNil) (gName 2))
  (sSeq (sFor (iRange1 (lCons (dCall d_law_drawn (lCons (dSlot 0) (lCons (dOp oAdd (dSlot 1) (dC (.int 1))) lNil))) lNil)) (gName 3) (sExpr (dM .list oAppend (dSlot 2) (lCons (dCall d_law_given (lCons (dSlot 0) (lCons (dLst (lCons (dC (.int 0)) (lCons (dC (.int 1)) (lCons (dC (.int 5)) (lCons (dC (.int 996)) (lCons (dCall d_law_drawn (lCons (dSlot 0) (lCons (dC (.int 997)) lNil))) lNil)))))) lNil))) lNil))))
  (sRet (dB oToTup (lCons (dSlot 2) lNil)))))
def d_law_cells : List U → Mem → R U := runB 4 2 b_law_cells
def b_is_entry : SD :=
  (sRet (dAnd (dCall d_is_cells (lCons (dSlot 0) lNil)) (dOp oLe (dB oLen (lCons (dSlot 0) lNil)) (dC (.int 996)))))
def d_is_entry : List U → Mem → R U := runB 1 1 b_is_entry
def b_are_new : SD :=
  (sRet (dAnd (dCall d_is_cells (lCons (dSlot 0) lNil)) (dOp oLe (dB oLen (lCons (dSlot 0) lNil)) (dC (.int 48)))))
def d_are_new : List U → Mem → R U := runB 1 1 b_are_new
def b_law_odd_deed : SD :=
  (sSeq (sAsg (dOp oAdd (dCall d_law_names lNil) (dB oSorted (lCons (dSlot 1) lNil))) (gName 2))
  (sSeq (sAsg (dTup (lCons (dCall d_law_given (lCons (dSlot 0) (lCons (dSlot 2) lNil))) (lCons (dCall d_law_given (lCons (dSlot 0) (lCons (dLst (lCons (dC (.str (st [112, 117, 116]))) (lCons (dC (.str (st [112, 97, 116, 99, 104]))) (lCons (dC (.str (st [112, 97, 116, 99, 104]))) (lCons (dC (.str (st [100, 114, 111, 112]))) (lCons (dC (.str (st [114, 101, 110, 97, 109, 101]))) (lCons (dC (.str (st [114, 101, 110, 97, 109, 101]))) lNil))))))) lNil))) lNil))) (gTup 2 (gCons (gName 3) (gCons (gName 4) gNil))))
  (sSeq (sIf (tBl (dOp oEq (dSlot 4) (dC (.str (st [112, 117, 116]))))) (sRet (dTup (lCons (dSlot 4) (lCons (dSlot 3) (lCons (dCall d_law_cells (lCons (dSlot 0) (lCons (dC (.int 5)) lNil))) lNil))))) sNext)
  (sSeq (sIf (tBl (dOp oEq (dSlot 4) (dC (.str (st [112, 97, 116, 99, 104]))))) (sSeq (sAsg (dB oLen (lCons (dDGet2 (dSlot 1) (dSlot 3) (dTup lNil)) lNil)) (gName 5))
  (sSeq (sAsg (dCall d_law_given (lCons (dSlot 0) (lCons (dLst (lCons (dC (.int 0)) (lCons (dSlot 5) (lCons (dOp oAdd (dSlot 5) (dC (.int 1))) (lCons (dB oMax2 (lCons (dC (.int 0)) (lCons (dOp oSub (dSlot 5) (dC (.int 1))) lNil))) (lCons (dC (.int 996)) lNil)))))) lNil))) (gName 6))
  (sSeq (sAsg (dCall d_law_given (lCons (dSlot 0) (lCons (dLst (lCons (dC (.int 0)) (lCons (dB oMax2 (lCons (dC (.int 0)) (lCons (dOp oSub (dSlot 5) (dSlot 6)) lNil))) (lCons (dOp oAdd (dB oMax2 (lCons (dC (.int 0)) (lCons (dOp oSub (dSlot 5) (dSlot 6)) lNil))) (dC (.int 1))) (lCons (dC (.int 996)) (lCons (dC (.int 1)) lNil)))))) lNil))) (gName 7))
  (sRet (dTup (lCons (dSlot 4) (lCons (dSlot 3) (lCons (dB oMin2 (lCons (dSlot 6) (lCons (dC (.int 996)) lNil))) (lCons (dB oMin2 (lCons (dSlot 7) (lCons (dC (.int 996)) lNil))) (lCons (dCall d_law_cells (lCons (dSlot 0) (lCons (dCall d_law_given (lCons (dSlot 0) (lCons (dLst (lCons (dC (.int 2)) (lCons (dC (.int 48)) lNil))) lNil))) lNil))) lNil)))))))))) sNext)
  (sRet (dIf (tBl (dOp oEq (dSlot 4) (dC (.str (st [100, 114, 111, 112]))))) (dTup (lCons (dSlot 4) (lCons (dSlot 3) lNil))) (dTup (lCons (dSlot 4) (lCons (dSlot 3) (lCons (dCall d_law_given (lCons (dSlot 0) (lCons (dLc (iAny (dSlot 2)) (gName 8) (tBl (dOp oNe (dSlot 8) (dSlot 3))) (dSlot 8) [8]) lNil))) lNil))))))))))
def d_law_odd_deed : List U → Mem → R U := runB 9 2 b_law_odd_deed
def b_is_tree : SD :=
  (sSeq (sIf (tN (tTru (dIsi .dict (dSlot 0)))) (sRet (dC (.bl false))) sNext)
  (sRet (dB oAll (lCons (lockE 0 (dLc (iItemsF (dSlot 0)) (gTup 2 (gCons (gName 1) (gCons (gName 2) gNil))) tYesU (dAnd (dCall d_is_name (lCons (dSlot 1) lNil)) (dCall d_is_entry (lCons (dSlot 2) lNil))) [1, 2])) lNil))))
def d_is_tree : List U → Mem → R U := runB 3 1 b_is_tree
def b_is_put : SD :=
  (sRet (dAnd (dOp oEq (dB oLen (lCons (dSlot 0) lNil)) (dC (.int 3))) (dAnd (dCall d_is_name (lCons (dOp oIx (dSlot 0) (dC (.int 1))) lNil)) (dCall d_are_new (lCons (dOp oIx (dSlot 0) (dC (.int 2))) lNil)))))
def d_is_put : List U → Mem → R U := runB 1 1 b_is_put
def b_is_patch : SD :=
  (sSeq (sIf (tO (tBl (dOp oNe (dB oLen (lCons (dSlot 0) lNil)) (dC (.int 5)))) (tO (tN (tTru (dCall d_is_name (lCons (dOp oIx (dSlot 0) (dC (.int 1))) lNil)))) (tN (tTru (dCall d_are_new (lCons (dOp oIx (dSlot 0) (dC (.int 4))) lNil)))))) (sRet (dC (.bl false))) sNext)
  (sRet (dAnd (dCall d_is_number (lCons (dOp oIx (dSlot 0) (dC (.int 2))) (lCons (dC (.int 0)) (lCons (dC (.int 996)) lNil)))) (dCall d_is_number (lCons (dOp oIx (dSlot 0) (dC (.int 3))) (lCons (dC (.int 0)) (lCons (dC (.int 996)) lNil)))))))
def d_is_patch : List U → Mem → R U := runB 1 1 b_is_patch
def tab_JUDGES : TabU := [(st [112, 117, 116], d_is_put), (st [112, 97, 116, 99, 104], d_is_patch), (st [100, 114, 111, 112], d_is_drop), (st [114, 101, 110, 97, 109, 101], d_is_rename)]
def b_is_deed : SD :=
  (sSeq (sIf (tO (tN (tTru (dIsi .tuple (dSlot 0)))) (tO (tN (tTru (dSlot 0))) (tO (tN (tTru (dIsi .str (dOp oIx (dSlot 0) (dC (.int 0)))))) (tBl (dUn (oTabNot tab_JUDGES) (dOp oIx (dSlot 0) (dC (.int 0)))))))) (sRet (dC (.bl false))) sNext)
  (sJudge tab_JUDGES 1 (dOp oIx (dSlot 0) (dC (.int 0))) (dSlot 0)))
def d_is_deed : List U → Mem → R U := runB 2 1 b_is_deed
def b_check_tree : SD :=
  (sIf (tN (tTru (dCall d_is_tree (lCons (dSlot 0) lNil)))) sBad sNext)
def d_check_tree : List U → Mem → R U := runB 1 1 b_check_tree
def b_check_deed : SD :=
  (sIf (tN (tTru (dCall d_is_deed (lCons (dSlot 0) lNil)))) sBad sNext)
def d_check_deed : List U → Mem → R U := runB 1 1 b_check_deed
def b_refusal : SD :=
  (sSeq (sExpr (dCall d_check_tree (lCons (dSlot 0) lNil)))
  (sSeq (sExpr (dCall d_check_deed (lCons (dSlot 1) lNil)))
  (sRet (dCall d_refusal_of (lCons (dSlot 0) (lCons (dSlot 1) lNil))))))
def d_refusal : List U → Mem → R U := runB 2 2 b_refusal
def b_touched : SD :=
  (sSeq (sExpr (dCall d_check_deed (lCons (dSlot 0) lNil)))
  (sSeq (sAsg (dIf (tBl (dOp oEq (dOp oIx (dSlot 0) (dC (.int 0))) (dC (.str (st [114, 101, 110, 97, 109, 101]))))) (dSlice (dSlot 0) (pSome (dC (.int 1))) pNone) (dSlice (dSlot 0) (pSome (dC (.int 1))) (pSome (dC (.int 2))))) (gName 1))
  (sRet (dB oToTup (lCons (dB oSorted (lCons (dSlot 1) lNil)) lNil)))))
def d_touched : List U → Mem → R U := runB 2 1 b_touched
def b_done : SD :=
  (sSeq (sAsg (dCall d_refusal (lCons (dSlot 0) (lCons (dSlot 1) lNil))) (gName 2))
  (sSeq (sIf (tBl (dOp oNotN (dSlot 2) (dC .non))) (sRaiseV 3 "reason" (dSlot 2)) sNext)
  (sSeq (sAsg (dB oDictD (lCons (dSlot 0) lNil)) (gName 3))
  (sSeq (sExpr (dCall d_do_deed (lCons (dSlot 3) (lCons (dSlot 1) (lCons (dCall d_put_cells (lCons (dSlot 1) lNil)) lNil)))))
  (sRet (dCall d_sorted_tree (lCons (dSlot 3) lNil)))))))
def d_done : List U → Mem → R U := runB 4 2 b_done
def b_law_like : SD :=
  (sSeq (sAsg dDNew (gName 3))
  (sSeq (lockS 1 (sFor (iKeysF (dSlot 1)) (gName 4) (sIf (tO (tBl (dOp oIn (dSlot 4) (dCall d_touched (lCons (dSlot 2) lNil)))) (tBl (dOp oEq (dCall d_law_drawn (lCons (dSlot 0) (lCons (dC (.int 2)) lNil))) (dC (.int 0))))) (sAsg (dB oToTup (lCons (dLc (iAny (dOp oDGet (dSlot 1) (dSlot 4))) (gName 5) tYesU (dCall d_law_drawn (lCons (dSlot 0) (lCons (dC (.int 997)) lNil))) [5]) lNil)) (gSub oSetD (dSlot 3) (dSlot 4))) sNext)))
  (sSeq (sFor (iAny (dTup (lCons (dC (.str (st [120]))) (lCons (dC (.str (st [121, 121]))) lNil)))) (gName 4) (sIf (tAn (tBl (dOp oNotIn (dSlot 4) (dCall d_touched (lCons (dSlot 2) lNil)))) (tBl (dOp oEq (dCall d_law_drawn (lCons (dSlot 0) (lCons (dC (.int 2)) lNil))) (dC (.int 0))))) (sAsg (dCall d_law_cells (lCons (dSlot 0) (lCons (dC (.int 4)) lNil))) (gSub oSetD (dSlot 3) (dSlot 4))) sNext))
  (sRet (dSlot 3)))))
def d_law_like : List U → Mem → R U := runB 6 3 b_law_like
def b_law_refused : SD :=
  (sSeq (sTryR (kcOne 3) 2 "reason" (sExpr (dCall d_done (lCons (dSlot 0) (lCons (dSlot 1) lNil)))))
  (sRet (dC .non)))
def d_law_refused : List U → Mem → R U := runB 3 2 b_law_refused
def b_law_right : SD :=
  (sSeq (sAsg dDNew (gName 1))
  (sSeq (sFor (iRange1 (lCons (dOp oAdd (dC (.int 2)) (dCall d_law_drawn (lCons (dSlot 0) (lCons (dC (.int 4)) lNil)))) lNil)) (gName 2) (sSeq (sAsg (dCall d_law_given (lCons (dSlot 0) (lCons (dLst (lCons (dC (.int 0)) (lCons (dC (.int 3)) (lCons (dC (.int 9)) (lCons (dC (.int 40)) lNil))))) lNil))) (gName 3))
  (sAsg (dOp oMulG (dCall d_law_cells (lCons (dSlot 0) (lCons (dSlot 3) lNil))) (dCall d_law_given (lCons (dSlot 0) (lCons (dLst (lCons (dC (.int 1)) (lCons (dC (.int 1)) (lCons (dC (.int 24)) lNil)))) lNil)))) (gSub oSetD (dSlot 1) (dCall d_law_given (lCons (dSlot 0) (lCons (dCall d_law_names lNil) lNil)))))))
  (sSeq (sAsg (dB oDictP (lCons (lockE 1 (dLc (iKeysF (dSlot 1)) (gName 6) tYesU (dTup (lCons (dSlot 6) (lCons (dSlice (dOp oDGet (dSlot 1) (dSlot 6)) pNone (pSome (dC (.int 996)))) lNil))) [6])) lNil)) (gName 1))
  (sSeq (sFor (iRange1 (lCons (dC (.int 8)) lNil)) (gName 2) (sSeq (sAsg (dCall d_law_odd_deed (lCons (dSlot 0) (lCons (dSlot 1) lNil))) (gName 4))
  (sSeq (sAsg (dOp oIx (dCall d_law_behind (lCons (dSlot 1) (lCons (dSlot 4) lNil))) (dC (.int 0))) (gName 5))
  (sSeq (sIf (tO (tBl (dOp oNe (dCall d_refusal (lCons (dSlot 1) (lCons (dSlot 4) lNil))) (dSlot 5))) (tBl (dOp oNe (dCall d_law_refused (lCons (dSlot 1) (lCons (dSlot 4) lNil))) (dSlot 5)))) (sRet (dC (.bl false))) sNext)
  (sIf (tO (tBl (dOp oNe (dCall d_refusal (lCons (dCall d_law_like (lCons (dSlot 0) (lCons (dSlot 1) (lCons (dSlot 4) lNil)))) (lCons (dSlot 4) lNil))) (dSlot 5))) (tAn (tBl (dOp oEq (dOp oIx (dSlot 4) (dC (.int 0))) (dC (.str (st [112, 117, 116]))))) (tBl (dOp oNotN (dSlot 5) (dC .non))))) (sRet (dC (.bl false))) sNext)))))
  (sRet (dC (.bl true)))))))
def d_law_right : List U → Mem → R U := runB 7 1 b_law_right
def b_law : SD :=
  (sSeq (sFor (iRange1 (lCons (dB oMax2 (lCons (dC (.int 1)) (lCons (dB oMin2 (lCons (dC (.int 3)) (lCons (dB oLen (lCons (dSlot 0) lNil)) lNil))) lNil))) lNil)) (gName 1) (sIf (tN (tTru (dCall d_law_right (lCons (dCall d_law_well (lCons (dSlot 0) (lCons (dSlot 1) lNil))) lNil)))) (sRet (dC (.bl false))) sNext))
  (sSeq (sAsg (dDisp [((dC (.str (st [97]))), (dTup (lCons (dC (.int 5)) (lCons (dC (.int 6)) (lCons (dC (.int 7)) lNil))))), ((dC (.str (st [98]))), (dTup lNil))]) (gName 2))
  (sSeq (sAsg (dLst (lCons (dTup (lCons (dC (.str (st [100, 114, 111, 112]))) (lCons (dC (.str (st [99]))) lNil))) (lCons (dTup (lCons (dC (.str (st [112, 97, 116, 99, 104]))) (lCons (dC (.str (st [99]))) (lCons (dC (.int 9)) (lCons (dC (.int 9)) (lCons (dTup lNil) lNil)))))) (lCons (dTup (lCons (dC (.str (st [112, 97, 116, 99, 104]))) (lCons (dC (.str (st [97]))) (lCons (dC (.int 3)) (lCons (dC (.int 1)) (lCons (dTup lNil) lNil)))))) (lCons (dTup (lCons (dC (.str (st [112, 97, 116, 99, 104]))) (lCons (dC (.str (st [97]))) (lCons (dC (.int 3)) (lCons (dC (.int 0)) (lCons (dTup lNil) lNil)))))) lNil))))) (gName 3))
  (sSeq (sAsg (dOp oAdd (dSlot 3) (dLst (lCons (dTup (lCons (dC (.str (st [114, 101, 110, 97, 109, 101]))) (lCons (dC (.str (st [97]))) (lCons (dC (.str (st [98]))) lNil)))) lNil))) (gName 3))
  (sSeq (sAsg (dOp oAdd (dSlot 3) (dLst (lCons (dTup (lCons (dC (.str (st [114, 101, 110, 97, 109, 101]))) (lCons (dC (.str (st [99]))) (lCons (dC (.str (st [98]))) lNil)))) (lCons (dTup (lCons (dC (.str (st [112, 97, 116, 99, 104]))) (lCons (dC (.str (st [97]))) (lCons (dC (.int 4)) (lCons (dC (.int 0)) (lCons (dTup lNil) lNil)))))) (lCons (dTup (lCons (dC (.str (st [112, 117, 116]))) (lCons (dC (.str (st [97]))) (lCons (dTup lNil) lNil)))) lNil))))) (gName 3))
  (sSeq (sAsg (dLst (lCons (dTup (lCons (dC (.str (st [103, 111, 110, 101]))) (lCons (dC (.str (st [99]))) lNil))) (lCons (dTup (lCons (dC (.str (st [103, 111, 110, 101]))) (lCons (dC (.str (st [99]))) lNil))) (lCons (dTup (lCons (dC (.str (st [112, 108, 97, 99, 101]))) (lCons (dC (.str (st [97]))) lNil))) (lCons (dC .non) (lCons (dTup (lCons (dC (.str (st [116, 104, 101, 114, 101]))) (lCons (dC (.str (st [98]))) lNil))) (lCons (dTup (lCons (dC (.str (st [103, 111, 110, 101]))) (lCons (dC (.str (st [99]))) lNil))) (lCons (dTup (lCons (dC (.str (st [112, 108, 97, 99, 101]))) (lCons (dC (.str (st [97]))) lNil))) (lCons (dC .non) lNil))))))))) (gName 4))
  (sRet (dOp oEq (dLc (iAny (dSlot 3)) (gName 5) tYesU (dCall d_refusal (lCons (dSlot 2) (lCons (dSlot 5) lNil))) [5]) (dSlot 4)))))))))
def d_law : List U → Mem → R U := runB 6 1 b_law
end My

set_option Elab.async false
set_option linter.all false
set_option maxRecDepth 100000
set_option maxHeartbeats 2000000
namespace My
open PySem L2 Ev RZ RT
local macro_rules | `(tactic| walk_at "ev") => `(tactic| simp (disch := first | assumption | omega | simp; done | (simp only [List.length_map, List.length_append, List.length_cons, List.length_nil, List.length_replicate]; omega)) only [runB_e, List.length_cons, List.length_nil, List.length_map, Nat.reduceAdd, Nat.reduceSub, List.reduceReplicate, List.map_cons, List.map_nil, List.cons_append, List.nil_append, List.append_nil, List.set_cons_zero, List.set_cons_succ, List.getElem?_cons_zero, List.getElem?_cons_succ, evB, evX, evS, evO, evR, evR2, evI, evJ, evD, eqU_s, eqU_vo, valK_dk, Option.map_none,  nums_ints, flat_rep, Option.map_some, List.getElem?_append_left, dSlot_d, oMulG_a, oMulG_b, oMod_e, oTup_e, oLst_e, oList_e, oAdd_t, oMulG_t, eqU_tI, eqU_nil, eqU_i, dk_len, Bool.not_true, Bool.not_false, Bool.false_eq_true, if_true, if_false, if_pos, if_neg, mem_last, mem_setl, mem_mid, mem_setm, at3_0, at3_1, at3_2, ix3_0, ix3_2, decide_eq_true_eq, decide_true, decide_false, and_true, true_and, and_false, false_and, not_true_eq_false, not_false_eq_true, wipeU, *])
theorem p_num (i lo hi : Int) (m : Mem) (h1 : -(999999999999999999999999999999999999999999999999999999999999) ≤ lo) (h2 : hi ≤ 999999999999999999999999999999999999999999999999999999999999) : d_is_number [.int i, .int lo, .int hi] m = .ok (.bl (decide (lo ≤ i ∧ i ≤ hi))) m := by
  unfold d_is_number b_is_number
  by_cases h : lo ≤ i
  · walk_at "ev"
  · walk_at "ev"
theorem p_cell (i : Int) (m : Mem) : d_is_cell [.int i] m = .ok (.bl (decide (0 ≤ i ∧ i ≤ 996))) m := by
  unfold d_is_cell b_is_cell
  have h := p_num i 0 996 m (by decide) (by decide)
  walk_at "ev"
def okC (l : List Int) : Prop := ∀ c ∈ l, 0 ≤ c ∧ c ≤ 996
instance (l : List Int) : Decidable (okC l) := by unfold okC; infer_instance
theorem p_cells (l : List Int) (m : Mem) (hl : l.length ≤ 16777216) (ho : okC l) : ∃ t, d_is_cells [tI l] m = .ok (.bl true) (m ++ t) := by
  unfold d_is_cells b_is_cells
  obtain ⟨t, e⟩ := compL_ints (k := 1) (e := dCall d_is_cell (lCons (dSlot 1) lNil)) (ρ := [some (tI l), none]) (P := fun _ => True) (f := fun i => .bl (decide (0 ≤ i ∧ i ≤ 996))) (fun _ _ _ => trivial) l m trivial (by
    intro i hi m _
    refine ⟨[], ?_⟩
    have := p_cell i m
    walk_at "ev")
  have hb := bools_map (fun i : Int => decide (0 ≤ i ∧ i ≤ 996)) l
  walk_at "ev"
  refine ⟨t ++ [.lst (l.map fun i => .bl (decide (0 ≤ i ∧ i ≤ 996)))], ?_⟩
  rw [show ((l.map fun i : Int => decide (0 ≤ i ∧ i ≤ 996)).all id) = true from by
    rw [List.all_map, List.all_eq_true]
    intro x hx
    exact decide_eq_true (ho x hx)]
  simp only [List.append_assoc]
theorem p_entry (l : List Int) (m : Mem) (hl : l.length ≤ 996) (ho : okC l) : ∃ t, d_is_entry [tI l] m = .ok (.bl true) (m ++ t) := by
  unfold d_is_entry b_is_entry
  obtain ⟨t, e⟩ := p_cells l m (by omega) ho
  have h1 : (l.length : Int) ≤ 996 := by omega
  refine ⟨t, ?_⟩
  walk_at "ev"
theorem p_new (l : List Int) (m : Mem) (hl : l.length ≤ 48) (ho : okC l) : ∃ t, d_are_new [tI l] m = .ok (.bl true) (m ++ t) := by
  unfold d_are_new b_are_new
  obtain ⟨t, e⟩ := p_cells l m (by omega) ho
  have h1 : (l.length : Int) ≤ 48 := by omega
  refine ⟨t, ?_⟩
  walk_at "ev"
/-! names -/
abbrev ABC : List Nat := [97, 98, 99, 100, 101, 102, 103, 104, 105, 106, 107, 108, 109, 110, 111, 112, 113, 114, 115, 116, 117, 118, 119, 120, 121, 122]
theorem st_list (l : List Nat) : (st l).cps.toList = l := by simp [st]
theorem signs_st (l : List Nat) : signs (st l) = l.map fun c => .str (st [c]) := by
  unfold signs
  simp [st]
theorem p_name (l : List Nat) (h1 : 1 ≤ l.length) (h4 : l.length ≤ 4) (h : ∀ c ∈ l, c ∈ ABC) (m : Mem) : ∃ t, d_is_name [.str (st l)] m = .ok (.bl true) (m ++ t) := by
  unfold d_is_name b_is_name
  have hlen : (st l).length = l.length := by simp [st, Str.length]
  have hs : srcA m (.str (st l)) = some (.fix (l.map fun c => .str (st [c]))) := by
    show some (Src.fix (signs (st l))) = _
    rw [signs_st]
  obtain ⟨t, e⟩ := compL_map (g := gName 1) (e := dOp oIn (dSlot 1) (dC (.str (st ABC)))) (ρ := [some (.str (st l)), none]) (F := fun _ => .bl true) (P := fun _ => True) (fun _ _ _ => trivial) (l.map fun c => .str (st [c])) m trivial (by
    intro u hu m _
    obtain ⟨c, hc, rfl⟩ := List.mem_map.mp hu
    refine ⟨[some (.str (st l)), some (.str (st [c]))], [], rfl, ?_⟩
    have hi : inU m (.str (st [c])) (.str (st ABC)) = some true := by
      show (match (st [c]).cps.toList with | [k] => some (decide (k ∈ (st ABC).cps.toList)) | _ => none) = _
      rw [st_list, st_list]
      show some (decide (c ∈ ABC)) = _
      rw [decide_eq_true (h c hc)]
    walk_at "ev")
  have hb : bools ((l.map fun c => U.str (st [c])).map fun _ => .bl true) = some (l.map fun _ => true) := by
    rw [List.map_map]; exact bools_map (fun _ => true) l
  have ha : ((l.map fun _ : Nat => true).all id) = true := by rw [List.all_map, List.all_eq_true]; intro x _; rfl
  have hsz : l.length ≤ sizeLine := Nat.le_trans h4 (by decide)
  have c1 : (1 : Int) ≤ (l.length : Nat) := by omega
  have c2 : ((l.length : Nat) : Int) ≤ 4 := by omega
  refine ⟨t ++ [.lst ((l.map fun c => U.str (st [c])).map fun _ => .bl true)], ?_⟩
  walk_at "ev"
  rw [List.append_assoc]
end My

set_option Elab.async false
set_option linter.all false
set_option maxRecDepth 100000
set_option maxHeartbeats 2000000
namespace My
open PySem L2 Ev RZ RT
local macro_rules | `(tactic| walk_at "ev") => `(tactic| simp (disch := first | assumption | omega | simp; done | (simp only [List.length_map, List.length_append, List.length_cons, List.length_nil, List.length_replicate]; omega)) only [runB_e, List.length_cons, List.length_nil, List.length_map, Nat.reduceAdd, Nat.reduceSub, List.reduceReplicate, List.map_cons, List.map_nil, List.cons_append, List.nil_append, List.append_nil, List.set_cons_zero, List.set_cons_succ, List.getElem?_cons_zero, List.getElem?_cons_succ, evB, evX, evS, evO, evR, evR2, evI, evJ, evD, eqU_s, eqU_vo, valK_dk, Option.map_none,  nums_ints, flat_rep, Option.map_some, List.getElem?_append_left, dSlot_d, oMulG_a, oMulG_b, oMod_e, oTup_e, oLst_e, oList_e, oAdd_t, oMulG_t, eqU_tI, eqU_nil, eqU_i, dk_len, Bool.not_true, Bool.not_false, Bool.false_eq_true, if_true, if_false, if_pos, if_neg, mem_last, mem_setl, mem_mid, mem_setm, at3_0, at3_1, at3_2, ix3_0, ix3_2, decide_eq_true_eq, decide_true, decide_false, and_true, true_and, and_false, false_and, not_true_eq_false, not_false_eq_true, wipeU, *])
abbrev wPut : Str := st [112, 117, 116]
abbrev wPatch : Str := st [112, 97, 116, 99, 104]
abbrev wDrop : Str := st [100, 114, 111, 112]
abbrev wRen : Str := st [114, 101, 110, 97, 109, 101]
abbrev N5 : List Str := [st [97], st [98], st [99], st [100, 100], st [122, 122, 122, 122]]
abbrev N7 : List Str := [st [97], st [98], st [99], st [100, 100], st [122, 122, 122, 122], st [120], st [121, 121]]
theorem n57 {x : Str} (h : x ∈ N5) : x ∈ N7 := by
  simp only [List.mem_cons, List.not_mem_nil, or_false] at h ⊢
  rcases h with h | h | h | h | h <;> simp [h]
theorem n5_ok {x : Str} (h : x ∈ N7) : PyData.strOk x = true := by
  simp only [List.mem_cons, List.not_mem_nil, or_false] at h
  rcases h with h | h | h | h | h | h | h <;> (subst h; decide +kernel)
theorem n5_name {x : Str} (h : x ∈ N7) (m : Mem) : ∃ t, d_is_name [.str x] m = .ok (.bl true) (m ++ t) := by
  simp only [List.mem_cons, List.not_mem_nil, or_false] at h
  rcases h with h | h | h | h | h | h | h <;> (subst h; exact p_name _ (by decide) (by decide) (by decide) m)
structure OkT (T : Tr) : Prop where
  nd : (tkeys T).Nodup
  nm : ∀ p ∈ T, p.1 ∈ N7
  ok : ∀ p ∈ T, okC p.2 ∧ p.2.length ≤ 996
theorem nd_len : ∀ (l s : List Str), l.Nodup → (∀ x ∈ l, x ∈ s) → l.length ≤ s.length
  | [], s, _, _ => Nat.zero_le _
  | a :: r, s, hn, h => by
    have hn' := List.nodup_cons.mp hn
    have ha := h a (List.mem_cons_self ..)
    have := nd_len r (s.erase a) hn'.2 fun x hx => (List.mem_erase_of_ne fun e => hn'.1 (by rw [← e]; exact hx)).mpr (h x (List.mem_cons_of_mem _ hx))
    rw [List.length_erase_of_mem ha] at this
    have := List.length_pos_of_mem ha
    rw [List.length_cons]; omega
theorem OkT.len {T : Tr} (h : OkT T) : T.length ≤ 7 := by
  have := nd_len (tkeys T) N7 h.nd fun x hx => by
    obtain ⟨p, hp, rfl⟩ := List.mem_map.mp hx
    exact h.nm p hp
  simpa using this
theorem OkT.at {T : Tr} (h : OkT T) {x : Str} {c : List Int} (e : tget T x = some c) : okC c ∧ c.length ≤ 996 := h.ok _ (tget_mem e)
theorem set_back {m t : Mem} {n : Nat} {c d : Cell} (h : m[n]? = some c) : (m.set n d ++ t).set n c = m ++ t := by
  have hl : n < m.length := (List.getElem?_eq_some_iff.mp h).1
  rw [List.set_append_left _ _ (by simpa using hl), List.set_set]
  congr 1
  refine List.ext_getElem? fun i => ?_
  by_cases hi : i = n
  · subst hi; rw [List.getElem?_set_self hl, h]
  · rw [List.getElem?_set_ne (Ne.symm hi)]
theorem lock_e {i n : Nat} {f : XD} {ρ : Ev.Env} {m t : Mem} {kvs : KU} {u : U} (hρ : ρ[i]? = some (some (.ref n))) (hm : m[n]? = some (.dK kvs)) (h : f ρ (m.set n (.dF kvs)) = .ok u (m.set n (.dF kvs) ++ t)) : lockE i f ρ m = .ok u (m ++ t) := by
  unfold lockE
  simp only [hρ, hm, h, set_back hm]
theorem p_tree (T : Tr) (hT : OkT T) (n : Nat) (m : Mem) (hm : m[n]? = some (cT T)) : ∃ t, d_is_tree [.ref n] m = .ok (.bl true) (m ++ t) := by
  have hl : n < m.length := (List.getElem?_eq_some_iff.mp hm).1
  have hd : (m.set n (.dF (dkU T)))[n]? = some (.dF (dkU T)) := List.getElem?_set_self hl
  obtain ⟨t, e⟩ := compL_map (g := gTup 2 (gCons (Ev.gName 1) (gCons (Ev.gName 2) gNil))) (e := dAnd (dCall d_is_name (lCons (dSlot 1) lNil)) (dCall d_is_entry (lCons (dSlot 2) lNil))) (ρ := [some (.ref n), none, none]) (F := fun _ => .bl true) (P := fun _ => True) (fun _ _ _ => trivial) ((dkU T).map pairU) (m.set n (.dF (dkU T))) trivial (by
    intro u hu m _
    obtain ⟨kv, hkv, rfl⟩ := List.mem_map.mp hu
    obtain ⟨p, hp, rfl⟩ := List.mem_map.mp hkv
    obtain ⟨t1, e1⟩ := n5_name (hT.nm p hp) m
    obtain ⟨t2, e2⟩ := p_entry p.2 (m ++ t1) (hT.ok p hp).2 (hT.ok p hp).1
    refine ⟨[some (.ref n), some (.str p.1), some (tI p.2)], t1 ++ t2, rfl, ?_⟩
    walk_at "ev"
    rw [List.append_assoc])
  have hb : bools (((dkU T).map pairU).map fun _ => .bl true) = some (((dkU T).map pairU).map fun _ => true) := bools_map (fun _ => true) _
  have ha : ((((dkU T).map pairU).map fun _ : U => true).all id) = true := by rw [List.all_map, List.all_eq_true]; intro x _; rfl
  have hz : (dkU T).length ≤ 16777216 := by rw [dk_len]; have := hT.len; omega
  have hL : lockE 0 (dLc (iItemsF (dSlot 0)) (gTup 2 (gCons (Ev.gName 1) (gCons (Ev.gName 2) gNil))) tYesU (dAnd (dCall d_is_name (lCons (dSlot 1) lNil)) (dCall d_is_entry (lCons (dSlot 2) lNil))) [1, 2]) [some (.ref n), none, none] m = .ok (.ref (m ++ t).length) (m ++ (t ++ [.lst (((dkU T).map pairU).map fun _ => .bl true)])) := by
    refine lock_e rfl hm ?_
    have hi : iItemsF (dSlot 0) [some (.ref n), none, none] (m.set n (.dF (dkU T))) = .ok (.fix ((dkU T).map pairU)) (m.set n (.dF (dkU T))) := by
      show (match (m.set n (Cell.dF (dkU T)))[n]? with | some (.dF kvs) => R.ok (Src.fix (kvs.map pairU)) (m.set n (.dF (dkU T))) | _ => .bad) = _
      rw [hd]
    have hz2 : (dkU T).length ≤ 16777216 := hz
    walk_at "ev"
    rw [List.append_assoc]
    simp only [List.length_append, List.length_set]
  refine ⟨t ++ [.lst (((dkU T).map pairU).map fun _ => .bl true)], ?_⟩
  unfold d_is_tree b_is_tree
  have ht : isTy m .dict (.ref n) = some true := by unfold isTy; simp only [hm]; rfl
  have hx : (m ++ (t ++ [Cell.lst (((dkU T).map pairU).map fun _ => .bl true)]))[(m ++ t).length]? = some (.lst (((dkU T).map pairU).map fun _ => .bl true)) := by rw [← List.append_assoc]; exact mem_last _ _
  walk_at "ev"
end My

set_option Elab.async false
set_option linter.all false
set_option maxRecDepth 100000
set_option maxHeartbeats 2000000
namespace My
open PySem L2 Ev RZ RT
local macro_rules | `(tactic| walk_at "ev") => `(tactic| simp (disch := first | assumption | omega | simp; done | (simp only [List.length_map, List.length_append, List.length_cons, List.length_nil, List.length_replicate]; omega)) only [runB_e, List.length_cons, List.length_nil, List.length_map, Nat.reduceAdd, Nat.reduceSub, List.reduceReplicate, List.map_cons, List.map_nil, List.cons_append, List.nil_append, List.append_nil, List.set_cons_zero, List.set_cons_succ, List.getElem?_cons_zero, List.getElem?_cons_succ, evB, evX, evS, evO, evR, evR2, evI, evJ, evD, eqU_s, eqU_vo, valK_dk, Option.map_none,  nums_ints, flat_rep, Option.map_some, List.getElem?_append_left, dSlot_d, oMulG_a, oMulG_b, oMod_e, oTup_e, oLst_e, oList_e, oAdd_t, oMulG_t, eqU_tI, eqU_nil, eqU_i, dk_len, Bool.not_true, Bool.not_false, Bool.false_eq_true, if_true, if_false, if_pos, if_neg, mem_last, mem_setl, mem_mid, mem_setm, at3_0, at3_1, at3_2, ix3_0, ix3_2, decide_eq_true_eq, decide_true, decide_false, and_true, true_and, and_false, false_and, not_true_eq_false, not_false_eq_true, wipeU, *])
abbrev wGone : Str := st [103, 111, 110, 101]
abbrev wPlace : Str := st [112, 108, 97, 99, 101]
abbrev wLong : Str := st [108, 111, 110, 103]
abbrev wThere : Str := st [116, 104, 101, 114, 101]
theorem st_inj {a b : List Nat} : (st a = st b) = (a = b) := by
  refine propext ⟨fun h => ?_, fun h => h ▸ rfl⟩
  have := congrArg (fun x : Str => x.cps.toList) h
  simpa [st_list] using this
theorem eqU_st {m : Mem} {a b : List Nat} (ha : PyData.strOk (st a) = true) (hb : PyData.strOk (st b) = true) : eqU m (.str (st a)) (.str (st b)) = some (decide (a = b)) := by
  rw [eqU_s ha hb]; simp only [st_inj]
theorem evW :
    (∀ m, eqU m (.str wPut) (.str wPut) = some true) ∧ (∀ m, eqU m (.str wPatch) (.str wPut) = some false) ∧ (∀ m, eqU m (.str wDrop) (.str wPut) = some false) ∧ (∀ m, eqU m (.str wRen) (.str wPut) = some false) ∧
    (∀ m, eqU m (.str wPut) (.str wPatch) = some false) ∧ (∀ m, eqU m (.str wPatch) (.str wPatch) = some true) ∧ (∀ m, eqU m (.str wDrop) (.str wPatch) = some false) ∧ (∀ m, eqU m (.str wRen) (.str wPatch) = some false) ∧
    (∀ m, eqU m (.str wPut) (.str wRen) = some false) ∧ (∀ m, eqU m (.str wPatch) (.str wRen) = some false) ∧ (∀ m, eqU m (.str wDrop) (.str wRen) = some false) ∧ (∀ m, eqU m (.str wRen) (.str wRen) = some true) := by
  refine ⟨?_, ?_, ?_, ?_, ?_, ?_, ?_, ?_, ?_, ?_, ?_, ?_⟩ <;> (intro m; rw [eqU_st (by decide +kernel) (by decide +kernel)]; rfl)
theorem inW :
    (∀ m, inU m (.str wPut) (.tup [.str wPut, .str wPatch]) = some true) ∧ (∀ m, inU m (.str wPatch) (.tup [.str wPut, .str wPatch]) = some true) ∧
    (∀ m, inU m (.str wDrop) (.tup [.str wPut, .str wPatch]) = some false) ∧ (∀ m, inU m (.str wRen) (.tup [.str wPut, .str wPatch]) = some false) := by
  have h : ∀ x ∈ [wPut, wPatch], PyData.strOk x = true := by
    intro x hx
    simp only [List.mem_cons, List.not_mem_nil, or_false] at hx
    rcases hx with h | h <;> (subst h; decide +kernel)
  refine ⟨fun m => ?_, fun m => ?_, fun m => ?_, fun m => ?_⟩ <;>
    (refine (inU_t (l := [wPut, wPatch]) (by decide +kernel) h).trans ?_
     simp only [List.mem_cons, List.not_mem_nil, or_false, st_inj]; rfl)
theorem at_2 : (∀ x y : U, atI [x, y] 0 = some x) ∧ (∀ x y : U, atI [x, y] 1 = some y) ∧ (∀ x y : U, atI [x, y] (-1) = some y) ∧ (∀ x y z : U, atI [x, y, z] (-1) = some z) ∧
    (∀ x y z u v : U, atI [x, y, z, u, v] 0 = some x) ∧ (∀ x y z u v : U, atI [x, y, z, u, v] 1 = some y) ∧ (∀ x y z u v : U, atI [x, y, z, u, v] 2 = some z) ∧ (∀ x y z u v : U, atI [x, y, z, u, v] 3 = some u) ∧ (∀ x y z u v : U, atI [x, y, z, u, v] 4 = some v) ∧ (∀ x y z u v : U, atI [x, y, z, u, v] (-1) = some v) :=
  ⟨fun _ _ => rfl, fun _ _ => rfl, fun _ _ => rfl, fun _ _ _ => rfl, fun _ _ _ _ _ => rfl, fun _ _ _ _ _ => rfl, fun _ _ _ _ _ => rfl, fun _ _ _ _ _ => rfl, fun _ _ _ _ _ => rfl, fun _ _ _ _ _ => rfl⟩
inductive Dd where
  | put (n : Str) (c : List Int) | patch (n : Str) (a o : Nat) (c : List Int) | drop (n : Str) | ren (n k : Str)
def dU : Dd → U
  | .put n c => .tup [.str wPut, .str n, tI c]
  | .patch n a o c => .tup [.str wPatch, .str n, .int a, .int o, tI c]
  | .drop n => .tup [.str wDrop, .str n]
  | .ren n k => .tup [.str wRen, .str n, .str k]
def OkD : Dd → Prop
  | .put n c => n ∈ N7 ∧ okC c ∧ c.length ≤ 48
  | .patch n a o c => n ∈ N7 ∧ a ≤ 996 ∧ o ≤ 996 ∧ okC c ∧ c.length ≤ 48
  | .drop n => n ∈ N7
  | .ren n k => n ∈ N7 ∧ k ∈ N7 ∧ n ≠ k
theorem judge_e {tab : TabU} {i : Nat} {fx fa : XD} {ρ : Ev.Env} {m m' : Mem} {z : Str} {F : List U → Mem → R U} {u r : U} (hl : i < ρ.length) (hx : fx ρ m = .ok (.str z) m) (ht : tabAt tab z = some F) (ha : fa (ρ.set i none) m = .ok u m) (hF : F [u] m = .ok r m') :
    sJudge tab i fx fa ρ m = .ok (.rt r) (ρ.set i none) m' := by
  unfold sJudge
  simp only [hl, if_true, hx, evB, ht, ha, hF]
theorem evT : tabAt tab_JUDGES wPut = some d_is_put ∧ tabAt tab_JUDGES wPatch = some d_is_patch ∧ tabAt tab_JUDGES wDrop = some d_is_drop ∧ tabAt tab_JUDGES wRen = some d_is_rename := by
  refine ⟨?_, ?_, ?_, ?_⟩ <;> simp [tabAt, tab_JUDGES, List.find?_cons, st_inj]
theorem p_is_put (n : Str) (c : List Int) (h : OkD (.put n c)) (m : Mem) : ∃ t, d_is_put [dU (.put n c)] m = .ok (.bl true) (m ++ t) := by
  obtain ⟨t1, e1⟩ := n5_name h.1 m
  obtain ⟨t2, e2⟩ := p_new c (m ++ t1) h.2.2 h.2.1
  refine ⟨t1 ++ t2, ?_⟩
  unfold d_is_put b_is_put dU
  walk_at "ev"
  try rw [List.append_assoc]
theorem p_is_drop (n : Str) (h : OkD (.drop n)) (m : Mem) : ∃ t, d_is_drop [dU (.drop n)] m = .ok (.bl true) (m ++ t) := by
  obtain ⟨t1, e1⟩ := n5_name h m
  refine ⟨t1, ?_⟩
  unfold d_is_drop b_is_drop dU
  have := at_2
  walk_at "ev"
theorem p_is_ren (n k : Str) (h : OkD (.ren n k)) (m : Mem) : ∃ t, d_is_rename [dU (.ren n k)] m = .ok (.bl true) (m ++ t) := by
  obtain ⟨t1, e1⟩ := n5_name h.1 m
  obtain ⟨t2, e2⟩ := n5_name h.2.1 (m ++ t1)
  refine ⟨t1 ++ t2, ?_⟩
  unfold d_is_rename b_is_rename dU
  have hn : eqU (m ++ t1 ++ t2) (.str n) (.str k) = some false := by rw [eqU_s (n5_ok h.1) (n5_ok h.2.1), decide_eq_false h.2.2]
  walk_at "ev"
  try rw [List.append_assoc]
theorem p_is_patch (n : Str) (a o : Nat) (c : List Int) (h : OkD (.patch n a o c)) (m : Mem) : ∃ t, d_is_patch [dU (.patch n a o c)] m = .ok (.bl true) (m ++ t) := by
  obtain ⟨hn, ha, ho, hc, hl⟩ := h
  obtain ⟨t1, e1⟩ := n5_name hn m
  obtain ⟨t2, e2⟩ := p_new c (m ++ t1) hl hc
  refine ⟨t1 ++ t2, ?_⟩
  unfold d_is_patch b_is_patch dU
  have := at_2
  have n1 := p_num a 0 996 (m ++ t1 ++ t2) (by decide) (by decide)
  have n2 := p_num o 0 996 (m ++ t1 ++ t2) (by decide) (by decide)
  have a1 : (a : Int) ≤ 996 := by omega
  have a2 : (o : Int) ≤ 996 := by omega
  have a3 : (0 : Int) ≤ a := by omega
  have a4 : (0 : Int) ≤ o := by omega
  walk_at "ev"
  try rw [List.append_assoc]
theorem p_deed (d : Dd) (h : OkD d) (m : Mem) : ∃ t, d_is_deed [dU d] m = .ok (.bl true) (m ++ t) := by
  have ha := at_2
  have hT := evT
  cases d with
  | put n c =>
    obtain ⟨t, e⟩ := p_is_put n c h m
    refine ⟨t, ?_⟩
    have hj := judge_e (tab := tab_JUDGES) (i := 1) (fx := dOp oIx (dSlot 0) (dC (.int 0))) (fa := dSlot 0) (ρ := [some (dU (.put n c)), none]) (by simp) (by unfold dU; walk_at "ev") evT.1 rfl e
    unfold d_is_deed b_is_deed
    unfold dU at hj ⊢
    have h0 : oTabNot tab_JUDGES (.str wPut) m = some (.bl false, m) := by unfold oTabNot; simp only [evT.1]
    walk_at "ev"
  | patch n a o c =>
    obtain ⟨t, e⟩ := p_is_patch n a o c h m
    refine ⟨t, ?_⟩
    have hj := judge_e (tab := tab_JUDGES) (i := 1) (fx := dOp oIx (dSlot 0) (dC (.int 0))) (fa := dSlot 0) (ρ := [some (dU (.patch n a o c)), none]) (by simp) (by unfold dU; walk_at "ev") evT.2.1 rfl e
    unfold d_is_deed b_is_deed
    unfold dU at hj ⊢
    have h0 : oTabNot tab_JUDGES (.str wPatch) m = some (.bl false, m) := by unfold oTabNot; simp only [evT.2.1]
    walk_at "ev"
  | drop n =>
    obtain ⟨t, e⟩ := p_is_drop n h m
    refine ⟨t, ?_⟩
    have hj := judge_e (tab := tab_JUDGES) (i := 1) (fx := dOp oIx (dSlot 0) (dC (.int 0))) (fa := dSlot 0) (ρ := [some (dU (.drop n)), none]) (by simp) (by unfold dU; walk_at "ev") evT.2.2.1 rfl e
    unfold d_is_deed b_is_deed
    unfold dU at hj ⊢
    have h0 : oTabNot tab_JUDGES (.str wDrop) m = some (.bl false, m) := by unfold oTabNot; simp only [evT.2.2.1]
    walk_at "ev"
  | ren n k =>
    obtain ⟨t, e⟩ := p_is_ren n k h m
    refine ⟨t, ?_⟩
    have hj := judge_e (tab := tab_JUDGES) (i := 1) (fx := dOp oIx (dSlot 0) (dC (.int 0))) (fa := dSlot 0) (ρ := [some (dU (.ren n k)), none]) (by simp) (by unfold dU; walk_at "ev") evT.2.2.2 rfl e
    unfold d_is_deed b_is_deed
    unfold dU at hj ⊢
    have h0 : oTabNot tab_JUDGES (.str wRen) m = some (.bl false, m) := by unfold oTabNot; simp only [evT.2.2.2]
    walk_at "ev"
end My

set_option Elab.async false
set_option linter.all false
set_option maxRecDepth 100000
set_option maxHeartbeats 2000000
namespace My
open PySem L2 Ev RZ RT
local macro_rules | `(tactic| walk_at "ev") => `(tactic| simp (disch := first | assumption | omega | simp; done | (simp only [List.length_map, List.length_append, List.length_cons, List.length_nil, List.length_replicate]; omega)) only [runB_e, List.length_cons, List.length_nil, List.length_map, Nat.reduceAdd, Nat.reduceSub, List.reduceReplicate, List.map_cons, List.map_nil, List.cons_append, List.nil_append, List.append_nil, List.set_cons_zero, List.set_cons_succ, List.getElem?_cons_zero, List.getElem?_cons_succ, evB, evX, evS, evO, evR, evR2, evI, evJ, evD, eqU_s, eqU_vo, valK_dk, Option.map_none,  nums_ints, flat_rep, Option.map_some, List.getElem?_append_left, dSlot_d, oMulG_a, oMulG_b, oMod_e, oTup_e, oLst_e, oList_e, oAdd_t, oMulG_t, eqU_tI, eqU_nil, eqU_i, dk_len, Bool.not_true, Bool.not_false, Bool.false_eq_true, if_true, if_false, if_pos, if_neg, mem_last, mem_setl, mem_mid, mem_setm, at3_0, at3_1, at3_2, ix3_0, ix3_2, decide_eq_true_eq, decide_true, decide_false, and_true, true_and, and_false, false_and, not_true_eq_false, not_false_eq_true, wipeU, *])
def rf (g : Str → Option (List Int)) : Dd → Option (List Str)
  | .put _ _ => none
  | .patch n a o c => match g n with
    | none => some [wGone, n]
    | some r => if r.length < a + o then some [wPlace, n] else if 996 < r.length - o + c.length then some [wLong, n] else none
  | .drop n => match g n with
    | none => some [wGone, n]
    | some _ => none
  | .ren n k => match g n with
    | none => some [wGone, n]
    | some _ => match g k with
      | some _ => some [wThere, k]
      | none => none
theorem rf_ok {g : Str → Option (List Int)} {d : Dd} (h : OkD d) : ∀ l, rf g d = some l → ∀ x ∈ l, PyData.strOk x = true := by
  have w : PyData.strOk wGone = true ∧ PyData.strOk wPlace = true ∧ PyData.strOk wLong = true ∧ PyData.strOk wThere = true := by decide +kernel
  intro l hl x hx
  cases d with
  | put n c => cases hl
  | patch n a o c =>
    have hn := n5_ok h.1
    rw [rf] at hl
    split at hl
    · cases hl
      simp only [List.mem_cons, List.not_mem_nil, or_false] at hx
      rcases hx with e | e <;> subst e
      · exact w.1
      · exact hn
    · split at hl
      · cases hl
        simp only [List.mem_cons, List.not_mem_nil, or_false] at hx
        rcases hx with e | e <;> subst e
        · exact w.2.1
        · exact hn
      · split at hl
        · cases hl
          simp only [List.mem_cons, List.not_mem_nil, or_false] at hx
          rcases hx with e | e <;> subst e
          · exact w.2.2.1
          · exact hn
        · cases hl
  | drop n =>
    have hn := n5_ok h
    rw [rf] at hl
    split at hl
    · cases hl
      simp only [List.mem_cons, List.not_mem_nil, or_false] at hx
      rcases hx with e | e <;> subst e
      · exact w.1
      · exact hn
    · cases hl
  | ren n k =>
    rw [rf] at hl
    split at hl
    · cases hl
      simp only [List.mem_cons, List.not_mem_nil, or_false] at hx
      rcases hx with e | e <;> subst e
      · exact w.1
      · exact n5_ok h.1
    · split at hl
      · cases hl
        simp only [List.mem_cons, List.not_mem_nil, or_false] at hx
        rcases hx with e | e <;> subst e
        · exact w.2.2.2
        · exact n5_ok h.2.1
      · cases hl
theorem p_prefuse (n : Str) (a o : Nat) (c : List Int) (L : Nat) (hc : c.length ≤ 48) (m : Mem) : d_patch_refusal [dU (.patch n a o c), .int L] m = .ok (rsU (if L < a + o then some [wPlace, n] else if 996 < L - o + c.length then some [wLong, n] else none)) m := by
  unfold d_patch_refusal b_patch_refusal dU
  by_cases h1 : L < a + o
  · rw [if_pos h1]
    by_cases h2 : (L : Int) < a
    · walk_at "ev"
      rfl
    · have h3 : (L : Int) - a < o := by omega
      walk_at "ev"
      rfl
  · rw [if_neg h1]
    have h2 : ¬ (L : Int) < a := by omega
    have h3 : ¬ (L : Int) - a < o := by omega
    by_cases h4 : 996 < L - o + c.length
    · have h5 : (996 : Int) < L - o + c.length := by omega
      rw [if_pos h4]
      walk_at "ev"
      rfl
    · have h5 : ¬ (996 : Int) < L - o + c.length := by omega
      rw [if_neg h4]
      walk_at "ev"
      rfl
theorem p_refusal_of (T : Tr) (n : Nat) (d : Dd) (h : OkD d) (m : Mem) (hm : m[n]? = some (cT T)) : d_refusal_of [.ref n, dU d] m = .ok (rsU (rf (tget T) d)) m := by
  have ha := at_2
  have hw := evW
  unfold d_refusal_of b_refusal_of
  cases d with
  | put x c => unfold dU rf; walk_at "ev"; rfl
  | patch x a o c =>
    unfold rf
    cases e : tget T x with
    | none => unfold dU; walk_at "ev"; rfl
    | some r =>
      have hp := p_prefuse x a o c r.length h.2.2.2.2 m
      unfold dU at hp ⊢
      walk_at "ev"
  | drop x =>
    unfold rf
    cases e : tget T x with
    | none => unfold dU; walk_at "ev"; rfl
    | some r => unfold dU; walk_at "ev"; rfl
  | ren x k =>
    unfold rf
    cases e : tget T x with
    | none => unfold dU; walk_at "ev"; rfl
    | some r =>
      cases e2 : tget T k with
      | none => unfold dU; walk_at "ev"; rfl
      | some q => unfold dU; walk_at "ev"; rfl
theorem p_refusal (T : Tr) (hT : OkT T) (n : Nat) (d : Dd) (h : OkD d) (m : Mem) (hm : m[n]? = some (cT T)) : ∃ t, d_refusal [.ref n, dU d] m = .ok (rsU (rf (tget T) d)) (m ++ t) := by
  obtain ⟨t1, e1⟩ := p_tree T hT n m hm
  obtain ⟨t2, e2⟩ := p_deed d h (m ++ t1)
  have e3 := p_refusal_of T n d h (m ++ t1 ++ t2) (mem_old (mem_old hm))
  have c1 : d_check_tree [.ref n] m = .ok .non (m ++ t1) := by unfold d_check_tree b_check_tree; walk_at "ev"
  have c2 : d_check_deed [dU d] (m ++ t1) = .ok .non (m ++ t1 ++ t2) := by unfold d_check_deed b_check_deed; walk_at "ev"
  refine ⟨t1 ++ t2, ?_⟩
  unfold d_refusal b_refusal
  walk_at "ev"
  try rw [List.append_assoc]
end My

set_option Elab.async false
set_option linter.all false
set_option maxRecDepth 100000
set_option maxHeartbeats 2000000
namespace My
open PySem L2 Ev RZ RT
local macro_rules | `(tactic| walk_at "ev") => `(tactic| simp (disch := first | assumption | omega | simp; done | (simp only [List.length_map, List.length_append, List.length_cons, List.length_nil, List.length_replicate]; omega)) only [runB_e, List.length_cons, List.length_nil, List.length_map, Nat.reduceAdd, Nat.reduceSub, List.reduceReplicate, List.map_cons, List.map_nil, List.cons_append, List.nil_append, List.append_nil, List.set_cons_zero, List.set_cons_succ, List.getElem?_cons_zero, List.getElem?_cons_succ, evB, evX, evS, evO, evR, evR2, evI, evJ, evD, eqU_s, eqU_vo, valK_dk, Option.map_none,  nums_ints, flat_rep, Option.map_some, List.getElem?_append_left, dSlot_d, oMulG_a, oMulG_b, oMod_e, oTup_e, oLst_e, oList_e, oAdd_t, oMulG_t, eqU_tI, eqU_nil, eqU_i, dk_len, Bool.not_true, Bool.not_false, Bool.false_eq_true, if_true, if_false, if_pos, if_neg, mem_last, mem_setl, mem_mid, mem_setm, at3_0, at3_1, at3_2, ix3_0, ix3_2, decide_eq_true_eq, decide_true, decide_false, and_true, true_and, and_false, false_and, not_true_eq_false, not_false_eq_true, wipeU, *])
/-- what a deed makes of a tree -/
def actT (T : Tr) : Dd → Tr
  | .put n c => tput T n c
  | .patch n a o c => match tget T n with
    | some r => tput T n (r.take a ++ c ++ r.drop (a + o))
    | none => T
  | .drop n => tdrop T n
  | .ren n k => match tget T n with
    | some e => tput (tdrop T n) k e
    | none => T
def pcU : Dd → List Int
  | .put _ c => c
  | .patch _ _ _ c => c
  | _ => []
theorem p_put_cells (d : Dd) (m : Mem) : d_put_cells [dU d] m = .ok (tI (pcU d)) m := by
  have ha := at_2
  have hw := inW
  have h0 : (U.tup [] : U) = tI [] := rfl
  unfold d_put_cells b_put_cells
  cases d <;> (unfold dU pcU; walk_at "ev")
theorem cut_lo (l : List Int) (a : Nat) (h : a ≤ l.length) (m : Mem) : oSlice (tI l) none (some (a : Int)) m = some (tI (l.take a), m) := by
  show some (U.tup (cutU (l.map U.int) none (some (a : Int))), m) = _
  unfold cutU HT.sIx
  have h1 : ¬ ((a : Int) < 0) := by omega
  simp [h1, Nat.min_eq_left h, List.map_take]
theorem cut_hi (l : List Int) (a : Nat) (h : a ≤ l.length) (m : Mem) : oSlice (tI l) (some (a : Int)) none m = some (tI (l.drop a), m) := by
  show some (U.tup (cutU (l.map U.int) (some (a : Int)) none), m) = _
  unfold cutU HT.sIx
  have h1 : ¬ ((a : Int) < 0) := by omega
  simp [h1, Nat.min_eq_left h, List.map_drop]
  exact List.take_of_length_le (by simp)
theorem rf_patch {g : Str → Option (List Int)} {n : Str} {a o : Nat} {c : List Int} (h : rf g (.patch n a o c) = none) : ∃ r, g n = some r ∧ a + o ≤ r.length ∧ r.length - o + c.length ≤ 996 := by
  rw [rf] at h
  split at h
  · cases h
  · rename_i r e
    split at h
    · cases h
    · split at h
      · cases h
      · exact ⟨r, e, by omega, by omega⟩
theorem sz_lt {T : Tr} (h : T.length ≤ 10) : List.length T < sizeLine := Nat.lt_of_le_of_lt h (by decide)
theorem p_do_deed (T : Tr) (hT : OkT T) (d : Dd) (h : OkD d) (hr : rf (tget T) d = none) (m : Mem) : d_do_deed [.ref m.length, dU d, tI (pcU d)] (m ++ [cT T]) = .ok .non (m ++ [cT (actT T d)]) := by
  have ha := at_2
  have hw := evW
  have hz := sz_lt (T := T) (by have := hT.len; omega)
  unfold d_do_deed b_do_deed
  cases d with
  | put x c =>
    have hp := putU_dk T x c
    unfold dU pcU actT
    walk_at "ev"
  | patch x a o c =>
    obtain ⟨r, e, h1, h2⟩ := rf_patch hr
    have hl := (hT.at e).2
    have hp := putU_dk T x (r.take a ++ c ++ r.drop (a + o))
    have s1 := cut_lo r a (by omega)
    have s2 := cut_hi r (a + o) h1
    rw [Int.natCast_add] at s2
    have a1 : ∀ m : Mem, oAdd (tI (r.take a)) (tI c) m = some (tI (r.take a ++ c), m) := fun m => by rw [oAdd_t (by simp; omega), ← List.map_append]
    have a2 : ∀ m : Mem, oAdd (tI (r.take a ++ c)) (tI (r.drop (a + o))) m = some (tI (r.take a ++ c ++ r.drop (a + o)), m) := fun m => by rw [oAdd_t (by simp; omega), ← List.map_append]
    have hN : ∀ (ρ : Ev.Env) (m : Mem), pNone ρ m = .ok none m := fun _ _ => rfl
    have hP : ∀ (f : XD) (ρ : Ev.Env) (m : Mem), pSome f ρ m = (f ρ m).bind fun z m1 => match z with | .int i => .ok (some i) m1 | _ => .bad := fun _ _ _ => rfl
    unfold dU pcU actT
    simp only [e]
    walk_at "ev"
  | drop x =>
    have hp := dropU_dk T x
    rw [rf] at hr
    split at hr
    · cases hr
    · rename_i r e
      have hD : ∀ (f g : XD) (ρ : Ev.Env) (m : Mem), dDPop f g ρ m = (f ρ m).bind fun u m1 => match dcells m1 u with | some _ => (g ρ m1).bind fun k m2 => (match dcell m2 u, keyOf k with | some (n, kvs), some key => (match valK kvs key with | some x => .ok x (m2.set n (.dK (dropU kvs key))) | none => .bad) | _, _ => .bad) | none => .bad := fun _ _ _ _ => rfl
      have hk : keyOf (.str x) = some (.inr x) := rfl
      unfold dU pcU actT
      walk_at "ev"
  | ren x k =>
    have hp := dropU_dk T x
    have hz2 := sz_lt (T := tdrop T x) (by have := hT.len; have : (tdrop T x).length ≤ T.length := List.length_filter_le _ _; omega)
    rw [rf] at hr
    split at hr
    · cases hr
    · rename_i r e
      have hp2 := putU_dk (tdrop T x) k r
      have hD : ∀ (f g : XD) (ρ : Ev.Env) (m : Mem), dDPop f g ρ m = (f ρ m).bind fun u m1 => match dcells m1 u with | some _ => (g ρ m1).bind fun k m2 => (match dcell m2 u, keyOf k with | some (n, kvs), some key => (match valK kvs key with | some x => .ok x (m2.set n (.dK (dropU kvs key))) | none => .bad) | _, _ => .bad) | none => .bad := fun _ _ _ _ => rfl
      have hk : keyOf (.str x) = some (.inr x) := rfl
      unfold dU pcU actT
      simp only [e]
      walk_at "ev"
end My

set_option Elab.async false
set_option linter.all false
set_option maxRecDepth 100000
set_option maxHeartbeats 2000000
namespace My
open PySem L2 Ev RZ RT
local macro_rules | `(tactic| walk_at "ev") => `(tactic| simp (disch := first | assumption | omega | simp; done | (simp only [List.length_map, List.length_append, List.length_cons, List.length_nil, List.length_replicate]; omega)) only [runB_e, List.length_cons, List.length_nil, List.length_map, Nat.reduceAdd, Nat.reduceSub, List.reduceReplicate, List.map_cons, List.map_nil, List.cons_append, List.nil_append, List.append_nil, List.set_cons_zero, List.set_cons_succ, List.getElem?_cons_zero, List.getElem?_cons_succ, evB, evX, evS, evO, evR, evR2, evI, evJ, evD, eqU_s, eqU_vo, valK_dk, Option.map_none,  nums_ints, flat_rep, Option.map_some, List.getElem?_append_left, dSlot_d, oMulG_a, oMulG_b, oMod_e, oTup_e, oLst_e, oList_e, oAdd_t, oMulG_t, eqU_tI, eqU_nil, eqU_i, dk_len, Bool.not_true, Bool.not_false, Bool.false_eq_true, if_true, if_false, if_pos, if_neg, mem_last, mem_setl, mem_mid, mem_setm, at3_0, at3_1, at3_2, ix3_0, ix3_2, decide_eq_true_eq, decide_true, decide_false, and_true, true_and, and_false, false_and, not_true_eq_false, not_false_eq_true, wipeU, *])
def sortT (T : Tr) : Tr := (sortS (tkeys T)).map fun x => (x, (tget T x).getD [])
theorem mem_sortS {l : List Str} {x : Str} : x ∈ sortS l ↔ x ∈ l := (sortS_perm l).mem_iff
theorem sortT_keys (T : Tr) : tkeys (sortT T) = sortS (tkeys T) := by simp [sortT, Function.comp_def]
theorem tget_map (f : Str → List Int) : ∀ (xs : List Str) (x : Str), tget (xs.map fun x => (x, f x)) x = if x ∈ xs then some (f x) else none
  | [], x => rfl
  | y :: r, x => by
    rw [List.map_cons, tget_cons, tget_map f r x]
    by_cases h : y = x
    · subst h; simp
    · have h' : ¬ x = y := fun z => h z.symm
      rw [if_neg (show ¬ (y, f y).1 = x from h)]
      simp [h']
theorem tget_sortT (T : Tr) (x : Str) : tget (sortT T) x = tget T x := by
  unfold sortT
  rw [tget_map]
  cases e : tget T x with
  | none => rw [if_neg fun z => tget_none.mp e (mem_sortS.mp z)]
  | some c =>
    have : x ∈ tkeys T := Classical.byContradiction fun z => by rw [tget_none.mpr z] at e; cases e
    rw [if_pos (mem_sortS.mpr this)]; rfl
theorem OkT.sort {T : Tr} (h : OkT T) : OkT (sortT T) := by
  refine ⟨?_, fun p hp => ?_, fun p hp => ?_⟩
  · rw [sortT_keys]; exact (sortS_perm _).nodup_iff.mpr h.nd
  · obtain ⟨x, hx, rfl⟩ := List.mem_map.mp hp
    obtain ⟨q, hq, rfl⟩ := List.mem_map.mp (mem_sortS.mp hx)
    exact h.nm q hq
  · obtain ⟨x, hx, rfl⟩ := List.mem_map.mp hp
    obtain ⟨q, hq, rfl⟩ := List.mem_map.mp (mem_sortS.mp hx)
    show okC ((tget T q.1).getD []) ∧ ((tget T q.1).getD []).length ≤ 996
    rw [tget_of_mem h.nd hq]
    exact h.ok q hq
theorem tput_new {T : Tr} {x : Str} {c : List Int} (h : x ∉ tkeys T) : tput T x c = T ++ [(x, c)] := by
  unfold tput
  rw [tany, tget_none.mpr h]; rfl
theorem dc_loop (T : Tr) (hT : OkT T) (n k : Nat) (xs : List Str) (hn : xs.Nodup) (hx : ∀ x ∈ xs, x ∈ tkeys T) (hl : xs.length ≤ 10) (m : Mem) (hm : m[n]? = some (cT T)) (hk : m[k]? = some (cS xs)) :
    ∀ (rest don : List Str), don ++ rest = xs → dcN (nxL k) (Ev.gName 1) tYesU (dSlot 1) (dOp oDGet (dSlot 0) (dSlot 1)) [some (.ref n), none] (rest.length + 1) don.length (dkU (don.map fun x => (x, (tget T x).getD []))) m = some (dkU (xs.map fun x => (x, (tget T x).getD [])), m)
  | [], don, h => by
    rw [List.append_nil] at h
    subst h
    have : nxL k don.length m = some none := by rw [nxL_e hk]; simp
    rw [dcN]
    simp only [this]
  | x :: r, don, h => by
    have hxm : x ∈ xs := by rw [← h]; simp
    obtain ⟨c, hc⟩ : ∃ c, tget T x = some c := by
      cases e : tget T x with
      | none => exact absurd (hx x hxm) (tget_none.mp e)
      | some c => exact ⟨c, rfl⟩
    have hg : nxL k don.length m = some (some (.str x)) := by
      rw [nxL_e hk, ← h]; simp
    have hd : dOp oDGet (dSlot 0) (dSlot 1) [some (U.ref n), some (.str x)] m = .ok (tI c) m := by walk_at "ev"
    have hnew : x ∉ tkeys (don.map fun x => (x, (tget T x).getD [])) := fun z => by
      have hz : x ∈ don := by simpa [Function.comp_def] using z
      rw [← h] at hn
      exact (List.nodup_append.mp hn).2.2 x hz x (by simp) rfl
    have ih := dc_loop T hT n k xs hn hx hl m hm hk r (don ++ [x]) (by simpa using h)
    have hlen : (dkU (don.map fun x => (x, (tget T x).getD []))).length < sizeLine := by
      rw [dk_len, List.length_map]
      have : don.length ≤ xs.length := by rw [← h]; simp
      exact Nat.lt_of_le_of_lt (Nat.le_trans this hl) (by decide)
    rw [List.length_cons, dcN]
    simp only [hg, Ev.gName, List.set_cons_succ, List.set_cons_zero, tYesU, toO, if_true, dSlot_d, List.getElem?_cons_succ, List.getElem?_cons_zero, Ev.keyOf, hd, hlen]
    rw [putU_dk, tput_new hnew]
    rw [List.length_append, List.map_append, List.map_cons, List.map_nil, hc] at ih
    exact ih
theorem p_sorted (T : Tr) (hT : OkT T) (n : Nat) (m : Mem) (hm : m[n]? = some (cT T)) : d_sorted_tree [.ref n] m = .ok (.ref (m ++ [cS (sortS (tkeys T))]).length) (m ++ [cS (sortS (tkeys T))] ++ [cT (sortT T)]) := by
  have hlen : (sortS (tkeys T)).length = T.length := by rw [(sortS_perm _).length_eq]; simp
  have h5 := hT.len
  have hs : oSorted [.ref n] m = some (.ref m.length, m ++ [cS (sortS (tkeys T))]) := by
    unfold oSorted
    simp only [dc_K hm, keysS_dk]
    rw [if_pos (by simp; omega)]
  have hL := dc_loop T hT n m.length (sortS (tkeys T)) ((sortS_perm _).nodup_iff.mpr hT.nd) (fun x hx => mem_sortS.mp hx) (by rw [hlen]; omega) (m ++ [cS (sortS (tkeys T))]) (mem_old hm) (mem_last _ _) (sortS (tkeys T)) [] rfl
  have hA : srcA (m ++ [cS (sortS (tkeys T))]) (.ref m.length) = some (.dyn ((sortS (tkeys T)).length + 1) (nxL m.length)) := by
    simp only [evR, mem_last, List.length_map]
  unfold d_sorted_tree b_sorted_tree
  have hD : dDc (iAny (dB oSorted (lCons (dSlot 0) lNil))) (Ev.gName 1) tYesU (dSlot 1) (dOp oDGet (dSlot 0) (dSlot 1)) [1] [some (.ref n), none] m = .ok (.ref (m ++ [cS (sortS (tkeys T))]).length) (m ++ [cS (sortS (tkeys T))] ++ [cT (sortT T)]) := by
    unfold dDc
    have hi : iAny (dB oSorted (lCons (dSlot 0) lNil)) [some (.ref n), none] m = .ok (.dyn ((sortS (tkeys T)).length + 1) (nxL m.length)) (m ++ [cS (sortS (tkeys T))]) := by
      walk_at "ev"
    rw [hi]
    show (match dcN (nxL m.length) (Ev.gName 1) tYesU (dSlot 1) (dOp oDGet (dSlot 0) (dSlot 1)) [some (.ref n), none] ((sortS (tkeys T)).length + 1) 0 [] (m ++ [cS (sortS (tkeys T))]) with | some (kvs, m2) => R.ok (U.ref m2.length) (m2 ++ [Cell.dK kvs]) | none => .bad) = _
    have : dcN (nxL m.length) (Ev.gName 1) tYesU (dSlot 1) (dOp oDGet (dSlot 0) (dSlot 1)) [some (.ref n), none] ((sortS (tkeys T)).length + 1) 0 [] (m ++ [cS (sortS (tkeys T))]) = _ := hL
    rw [this]; rfl
  walk_at "ev"
end My

set_option Elab.async false
set_option linter.all false
set_option maxRecDepth 100000
set_option maxHeartbeats 2000000
namespace My
open PySem L2 Ev RZ RT
local macro_rules | `(tactic| walk_at "ev") => `(tactic| simp (disch := first | assumption | omega | simp; done | (simp only [List.length_map, List.length_append, List.length_cons, List.length_nil, List.length_replicate]; omega)) only [runB_e, List.length_cons, List.length_nil, List.length_map, Nat.reduceAdd, Nat.reduceSub, List.reduceReplicate, List.map_cons, List.map_nil, List.cons_append, List.nil_append, List.append_nil, List.set_cons_zero, List.set_cons_succ, List.getElem?_cons_zero, List.getElem?_cons_succ, evB, evX, evS, evO, evR, evR2, evI, evJ, evD, eqU_s, eqU_vo, valK_dk, Option.map_none,  nums_ints, flat_rep, Option.map_some, List.getElem?_append_left, dSlot_d, oMulG_a, oMulG_b, oMod_e, oTup_e, oLst_e, oList_e, oAdd_t, oMulG_t, eqU_tI, eqU_nil, eqU_i, dk_len, Bool.not_true, Bool.not_false, Bool.false_eq_true, if_true, if_false, if_pos, if_neg, mem_last, mem_setl, mem_mid, mem_setm, at3_0, at3_1, at3_2, ix3_0, ix3_2, decide_eq_true_eq, decide_true, decide_false, and_true, true_and, and_false, false_and, not_true_eq_false, not_false_eq_true, wipeU, *])
theorem OkT.put {T : Tr} (h : OkT T) {x : Str} {c : List Int} (hx : x ∈ N7) (hc : okC c ∧ c.length ≤ 996) : OkT (tput T x c) := by
  refine ⟨nodup_tput h.nd, fun p hp => ?_, fun p hp => ?_⟩
  · rcases tkeys_put_sub (List.mem_map.mpr ⟨p, hp, rfl⟩) with e | e
    · rw [e]; exact hx
    · obtain ⟨q, hq, e⟩ := List.mem_map.mp e
      rw [← e]; exact h.nm q hq
  · have hg := tget_of_mem (nodup_tput (c := c) (x := x) h.nd) hp
    rw [tget_put] at hg
    split at hg
    · cases hg; exact hc
    · exact h.at hg
theorem OkT.dropx {T : Tr} (h : OkT T) (x : Str) : OkT (tdrop T x) :=
  ⟨nodup_tdrop h.nd, fun p hp => h.nm p (List.mem_filter.mp hp).1, fun p hp => h.ok p (List.mem_filter.mp hp).1⟩
theorem okC_take {l : List Int} (h : okC l) (n : Nat) : okC (l.take n) := fun c hc => h c (List.mem_of_mem_take hc)
theorem okC_drop {l : List Int} (h : okC l) (n : Nat) : okC (l.drop n) := fun c hc => h c (List.mem_of_mem_drop hc)
theorem okC_app {l k : List Int} (h : okC l) (h2 : okC k) : okC (l ++ k) := fun c hc => by
  rcases List.mem_append.mp hc with z | z
  · exact h c z
  · exact h2 c z
theorem OkT.act {T : Tr} (h : OkT T) {d : Dd} (hd : OkD d) (hr : rf (tget T) d = none) : OkT (actT T d) := by
  cases d with
  | put x c => exact h.put hd.1 ⟨hd.2.1, by have := hd.2.2; omega⟩
  | patch x a o c =>
    obtain ⟨r, e, h1, h2⟩ := rf_patch hr
    unfold actT
    simp only [e]
    refine h.put hd.1 ⟨okC_app (okC_app (okC_take (h.at e).1 a) hd.2.2.2.1) (okC_drop (h.at e).1 _), ?_⟩
    simp only [List.length_append, List.length_take, List.length_drop]
    omega
  | drop x => exact h.dropx x
  | ren x k =>
    have : actT T (.ren x k) = match tget T x with | some e => tput (tdrop T x) k e | none => T := rfl
    rw [this]
    cases e : tget T x with
    | none => exact h
    | some r => exact (h.dropx x).put hd.2.1 (h.at e)
/-! by values -/
def act (g : Str → Option (List Int)) : Dd → Str → Option (List Int)
  | .put n c => fun x => if x = n then some c else g x
  | .patch n a o c => fun x => if x = n then (g n).map fun r => r.take a ++ c ++ r.drop (a + o) else g x
  | .drop n => fun x => if x = n then none else g x
  | .ren n k => fun x => if x = k then g n else if x = n then none else g x
def fd (g : Str → Option (List Int)) (d : Dd) : Str → Option (List Int) := if rf g d = none then act g d else g
def nms : Dd → List Str
  | .put n _ => [n]
  | .patch n _ _ _ => [n]
  | .drop n => [n]
  | .ren n k => [n, k]
theorem tget_act {T : Tr} {d : Dd} (hr : rf (tget T) d = none) (x : Str) : tget (actT T d) x = act (tget T) d x := by
  cases d with
  | put n c => unfold actT act; rw [tget_put]
  | patch n a o c =>
    obtain ⟨r, e, h1, h2⟩ := rf_patch hr
    unfold actT act
    simp only [e]
    rw [tget_put]; rfl
  | drop n => unfold actT act; rw [tget_drop]
  | ren n k =>
    rw [rf] at hr
    split at hr
    · cases hr
    · rename_i r e
      unfold actT act
      simp only [e]
      rw [tget_put, tget_drop]
def fdT (T : Tr) (d : Dd) : Tr := if rf (tget T) d = none then sortT (actT T d) else T
theorem tget_fd (T : Tr) (d : Dd) (x : Str) : tget (fdT T d) x = fd (tget T) d x := by
  unfold fdT fd
  split
  · rename_i h; rw [tget_sortT, tget_act h]
  · rfl
theorem OkT.fd {T : Tr} (h : OkT T) {d : Dd} (hd : OkD d) : OkT (fdT T d) := by
  unfold fdT
  split
  · rename_i hr; exact (h.act hd hr).sort
  · exact h
theorem rf_congr {g h : Str → Option (List Int)} {d : Dd} (e : ∀ x ∈ nms d, g x = h x) : rf g d = rf h d := by
  cases d with
  | put n c => rfl
  | patch n a o c => have := e n (by simp [nms]); simp only [rf, this]
  | drop n => have := e n (by simp [nms]); simp only [rf, this]
  | ren n k => have h1 := e n (by simp [nms]); have h2 := e k (by simp [nms]); simp only [rf, h1, h2]
theorem act_congr {g h : Str → Option (List Int)} {d : Dd} (e : ∀ x ∈ nms d, g x = h x) {x : Str} (hx : x ∈ nms d) : act g d x = act h d x := by
  cases d with
  | put n c => have := e x hx; simp only [act, this]
  | patch n a o c => have := e n (by simp [nms]); have h2 := e x hx; simp only [act, this, h2]
  | drop n => have := e x hx; simp only [act, this]
  | ren n k => have h1 := e n (by simp [nms]); have h2 := e x hx; simp only [act, h1, h2]
theorem fd_congr {g h : Str → Option (List Int)} {d : Dd} (e : ∀ x ∈ nms d, g x = h x) {x : Str} (hx : x ∈ nms d) : fd g d x = fd h d x := by
  unfold fd
  rw [rf_congr e]
  split
  · exact act_congr e hx
  · exact e x hx
theorem act_far {g : Str → Option (List Int)} {d : Dd} {x : Str} (hx : x ∉ nms d) : act g d x = g x := by
  cases d with
  | put n c => exact if_neg fun z => hx (by simp [nms, z])
  | patch n a o c => exact if_neg fun z => hx (by simp [nms, z])
  | drop n => exact if_neg fun z => hx (by simp [nms, z])
  | ren n k => exact (if_neg fun z => hx (by simp [nms, z])).trans (if_neg fun z => hx (by simp [nms, z]))
theorem fd_far {g : Str → Option (List Int)} {d : Dd} {x : Str} (hx : x ∉ nms d) : fd g d x = g x := by
  unfold fd
  split
  · exact act_far hx
  · rfl
theorem fd_swap {g : Str → Option (List Int)} {a b : Dd} (h : ∀ x ∈ nms a, x ∉ nms b) (x : Str) : fd (fd g a) b x = fd (fd g b) a x := by
  by_cases ha : x ∈ nms a
  · rw [fd_far (h x ha)]
    exact (fd_congr (fun y hy => fd_far (h y hy)) ha).symm
  · rw [fd_far ha]
    by_cases hb : x ∈ nms b
    · exact fd_congr (fun y hy => fd_far fun z => h y z hy) hb
    · rw [fd_far hb, fd_far hb, fd_far ha]
/-! the memory -/
theorem p_done (T : Tr) (hT : OkT T) (n : Nat) (d : Dd) (h : OkD d) (hr : rf (tget T) d = none) (m : Mem) (hm : m[n]? = some (cT T)) : ∃ k t, d_done [.ref n, dU d] m = .ok (.ref k) (m ++ t) ∧ (m ++ t)[k]? = some (cT (sortT (actT T d))) := by
  obtain ⟨t1, e1⟩ := p_refusal T hT n d h m hm
  rw [hr] at e1
  have e2 := p_put_cells d (m ++ t1 ++ [cT T])
  have e3 := p_do_deed T hT d h hr (m ++ t1)
  have e4 := p_sorted (actT T d) (hT.act h hr) (m ++ t1).length (m ++ t1 ++ [cT (actT T d)]) (mem_last _ _)
  have hm1 : (m ++ t1)[n]? = some (cT T) := mem_old hm
  generalize hM : m ++ t1 = M at *
  refine ⟨(M ++ [cT (actT T d)] ++ [cS (sortS (tkeys (actT T d)))]).length, t1 ++ [cT (actT T d)] ++ [cS (sortS (tkeys (actT T d)))] ++ [cT (sortT (actT T d))], ?_, ?_⟩
  · have hq : m ++ (t1 ++ [cT (actT T d)] ++ [cS (sortS (tkeys (actT T d)))] ++ [cT (sortT (actT T d))]) = M ++ [cT (actT T d)] ++ [cS (sortS (tkeys (actT T d)))] ++ [cT (sortT (actT T d))] := by rw [← hM]; simp
    rw [hq]
    clear hq hM
    have hn : rsU none = .non := rfl
    unfold d_done b_done
    rw [hn] at e1
    walk_at "ev"
  · have hq : m ++ (t1 ++ [cT (actT T d)] ++ [cS (sortS (tkeys (actT T d)))] ++ [cT (sortT (actT T d))]) = M ++ [cT (actT T d)] ++ [cS (sortS (tkeys (actT T d)))] ++ [cT (sortT (actT T d))] := by rw [← hM]; simp
    rw [hq]
    exact mem_last _ _
end My

set_option Elab.async false
set_option linter.all false
set_option maxRecDepth 100000
set_option maxHeartbeats 2000000
namespace My
open PySem L2 Ev RZ RT
local macro_rules | `(tactic| walk_at "ev") => `(tactic| simp (disch := first | assumption | omega | simp; done | (simp only [List.length_map, List.length_append, List.length_cons, List.length_nil, List.length_replicate]; omega)) only [runB_e, List.length_cons, List.length_nil, List.length_map, Nat.reduceAdd, Nat.reduceSub, List.reduceReplicate, List.map_cons, List.map_nil, List.cons_append, List.nil_append, List.append_nil, List.set_cons_zero, List.set_cons_succ, List.getElem?_cons_zero, List.getElem?_cons_succ, evB, evX, evS, evO, evR, evR2, evI, evJ, evD, eqU_s, eqU_vo, valK_dk, Option.map_none,  nums_ints, flat_rep, Option.map_some, List.getElem?_append_left, dSlot_d, oMulG_a, oMulG_b, oMod_e, oTup_e, oLst_e, oList_e, oAdd_t, oMulG_t, eqU_tI, eqU_nil, eqU_i, dk_len, Bool.not_true, Bool.not_false, Bool.false_eq_true, if_true, if_false, if_pos, if_neg, mem_last, mem_setl, mem_mid, mem_setm, at3_0, at3_1, at3_2, ix3_0, ix3_2, decide_eq_true_eq, decide_true, decide_false, and_true, true_and, and_false, false_and, not_true_eq_false, not_false_eq_true, wipeU, *])
theorem memX : (∀ (M : Mem) (x y : Cell), (M ++ [x] ++ [y])[M.length]? = some x) ∧ (∀ (M : Mem) (x y w : Cell), (M ++ [x] ++ [y] ++ [w])[M.length]? = some x) ∧
    (∀ (M : Mem) (x y z : Cell), (M ++ [x] ++ [y]).set M.length z = M ++ [z] ++ [y]) ∧ (∀ (M : Mem) (x y w z : Cell), (M ++ [x] ++ [y] ++ [w]).set M.length z = M ++ [z] ++ [y] ++ [w]) := by
  refine ⟨fun M x y => by simp, fun M x y w => by simp, fun M x y z => by simp, fun M x y w z => by simp⟩
/-- [f for x in texts if t] -/
theorem compS {k : Nat} {t : XT} {e : XD} {ρ : Ev.Env} {T : Str → Bool} {F : Str → U} {P : Mem → Prop} (hP : ∀ m t, P m → P (m ++ t)) : ∀ (xs : List Str) (m : Mem), P m →
    (∀ x ∈ xs, ∀ m, P m → ∃ t1, t (ρ.set k (some (.str x))) m = .ok (T x) (m ++ t1) ∧ (T x = true → ∃ t2, e (ρ.set k (some (.str x))) (m ++ t1) = .ok (F x) (m ++ t1 ++ t2))) →
    ∃ g, compL (Ev.gName k) t e ρ (xs.map .str) m = some ((xs.filter T).map F, m ++ g)
  | [], m, _, _ => ⟨[], by simp [compL]⟩
  | x :: xs, m, hm, h => by
    obtain ⟨t1, e1, e2⟩ := h x (List.mem_cons_self ..) m hm
    cases hT : T x with
    | false =>
      obtain ⟨g, e3⟩ := compS hP xs (m ++ t1) (hP _ _ hm) fun y hy => h y (List.mem_cons_of_mem _ hy)
      refine ⟨t1 ++ g, ?_⟩
      rw [List.map_cons, compL]
      simp only [Ev.gName, e1, toO, hT, Bool.false_eq_true, if_false]
      rw [List.filter_cons_of_neg (by simp [hT])]
      rw [List.append_assoc] at e3
      exact e3
    | true =>
      obtain ⟨t2, e2⟩ := e2 hT
      obtain ⟨g, e3⟩ := compS hP xs (m ++ t1 ++ t2) (hP _ _ (hP _ _ hm)) fun y hy => h y (List.mem_cons_of_mem _ hy)
      refine ⟨t1 ++ t2 ++ g, ?_⟩
      rw [List.map_cons, compL]
      simp only [Ev.gName, e1, toO, hT, if_true, e2]
      rw [List.filter_cons_of_pos (by simp [hT]), List.map_cons]
      have e4 : compL (Ev.gName k) t e ρ (xs.map .str) (m ++ t1 ++ t2) = some ((xs.filter T).map F, m ++ (t1 ++ t2 ++ g)) := by rw [e3]; simp
      rw [e4]
/-- .. over a cell's list -/
theorem compSN {k c : Nat} {t : XT} {e : XD} {ρ : Ev.Env} {T : Str → Bool} {F : Str → U} {P : Mem → Prop} {xs : List Str} (hP : ∀ m t, P m → P (m ++ t)) (hc : ∀ m, P m → m[c]? = some (cS xs)) 
    (h : ∀ x ∈ xs, ∀ m, P m → ∃ t1, t (ρ.set k (some (.str x))) m = .ok (T x) (m ++ t1) ∧ (T x = true → ∃ t2, e (ρ.set k (some (.str x))) (m ++ t1) = .ok (F x) (m ++ t1 ++ t2))) :
    ∀ (rest don : List Str) (m : Mem), don ++ rest = xs → P m → ∃ g, compN (nxL c) (Ev.gName k) t e ρ (rest.length + 1) don.length m = some ((rest.filter T).map F, m ++ g)
  | [], don, m, hd, hm => by
    rw [List.append_nil] at hd
    subst hd
    have : nxL c don.length m = some none := by rw [nxL_e (hc m hm)]; simp
    refine ⟨[], ?_⟩
    rw [compN]
    simp only [this, List.filter_nil, List.map_nil, List.append_nil]
  | x :: r, don, m, hd, hm => by
    have hg : nxL c don.length m = some (some (.str x)) := by rw [nxL_e (hc m hm), ← hd]; simp
    obtain ⟨t1, e1, e2⟩ := h x (by rw [← hd]; simp) m hm
    cases hT : T x with
    | false =>
      obtain ⟨g, e3⟩ := compSN hP hc h r (don ++ [x]) (m ++ t1) (by simpa using hd) (hP _ _ hm)
      refine ⟨t1 ++ g, ?_⟩
      rw [List.length_cons, compN]
      simp only [hg, Ev.gName, e1, toO, hT, Bool.false_eq_true, if_false]
      rw [List.filter_cons_of_neg (by simp [hT])]
      rw [List.append_assoc, List.length_append] at e3
      exact e3
    | true =>
      obtain ⟨t2, e2⟩ := e2 hT
      obtain ⟨g, e3⟩ := compSN hP hc h r (don ++ [x]) (m ++ t1 ++ t2) (by simpa using hd) (hP _ _ (hP _ _ hm))
      refine ⟨t1 ++ t2 ++ g, ?_⟩
      rw [List.length_cons, compN]
      simp only [hg, Ev.gName, e1, toO, hT, if_true, e2]
      rw [List.filter_cons_of_pos (by simp [hT]), List.map_cons]
      have e4 : compN (nxL c) (Ev.gName k) t e ρ (r.length + 1) (don.length + 1) (m ++ t1 ++ t2) = some ((r.filter T).map F, m ++ (t1 ++ t2 ++ g)) := by rw [List.length_append] at e3; exact e3.trans (by simp)
      rw [e4]
/-! touched -/
def tch (d : Dd) : List Str := sortS (nms d)
theorem mem_tch {d : Dd} {x : Str} : x ∈ tch d ↔ x ∈ nms d := mem_sortS
theorem nms_ok {d : Dd} (h : OkD d) : ∀ x ∈ nms d, x ∈ N7 := by
  intro x hx
  cases d with
  | put n c => rw [List.mem_singleton.mp hx]; exact h.1
  | patch n a o c => rw [List.mem_singleton.mp hx]; exact h.1
  | drop n => rw [List.mem_singleton.mp hx]; exact h
  | ren n k =>
    simp only [nms, List.mem_cons, List.not_mem_nil, or_false] at hx
    rcases hx with e | e
    · rw [e]; exact h.1
    · rw [e]; exact h.2.1
theorem tch_ok {d : Dd} (h : OkD d) : ∀ x ∈ tch d, PyData.strOk x = true := fun x hx => n5_ok (nms_ok h x (mem_tch.mp hx))
theorem sorted_t (l : List Str) (hl : l.length < 64) (m : Mem) : oSorted [tS l] m = some (.ref m.length, m ++ [cS (sortS l)]) := by
  show (match itemsOf m (tS l) with | some us => (match txts us with | some ks => if ks.length < 64 then some (U.ref m.length, m ++ [Cell.lst ((sortS ks).map .str)]) else none | none => none) | none => none) = _
  show (match txts (l.map U.str) with | some ks => if ks.length < 64 then some (U.ref m.length, m ++ [Cell.lst ((sortS ks).map .str)]) else none | none => none) = _
  rw [txts_strs]
  exact if_pos hl
theorem p_touched (d : Dd) (h : OkD d) (m : Mem) : ∃ t, d_touched [dU d] m = .ok (tS (tch d)) (m ++ t) := by
  obtain ⟨t1, e1⟩ := p_deed d h m
  have c2 : d_check_deed [dU d] m = .ok .non (m ++ t1) := by unfold d_check_deed b_check_deed; walk_at "ev"
  have ha := at_2
  have hw := evW
  have hN : ∀ (ρ : Ev.Env) (m : Mem), pNone ρ m = .ok none m := fun _ _ => rfl
  have hP : ∀ (i : Int) (ρ : Ev.Env) (m : Mem), pSome (dC (.int i)) ρ m = .ok (some i) m := fun _ _ _ => rfl
  have s := sorted_t (nms d) (by cases d <;> simp [nms]) (m ++ t1)
  have s1 : (∀ (x y : U) (m : Mem), oSlice (.tup [x, y]) (some 1) (some 2) m = some (.tup [y], m)) ∧ (∀ (x y z : U) (m : Mem), oSlice (.tup [x, y, z]) (some 1) (some 2) m = some (.tup [y], m)) ∧
    (∀ (x y z : U) (m : Mem), oSlice (.tup [x, y, z]) (some 1) none m = some (.tup [y, z], m)) ∧ (∀ (x y z u v : U) (m : Mem), oSlice (.tup [x, y, z, u, v]) (some 1) (some 2) m = some (.tup [y], m)) :=
    ⟨fun _ _ _ => rfl, fun _ _ _ _ => rfl, fun _ _ _ _ => rfl, fun _ _ _ _ _ _ => rfl⟩
  refine ⟨t1 ++ [cS (tch d)], ?_⟩
  unfold d_touched b_touched
  cases d <;>
    (unfold dU at c2 ⊢
     unfold nms tS at s
     simp only [List.map_cons, List.map_nil] at s
     unfold tch nms
     clear e1
     walk_at "ev"
     try simp)
/-! a part of a tree -/
def partT (T : Tr) (l : List Str) : Tr := ((tkeys T).filter fun x => decide (x ∈ l)).map fun x => (x, (tget T x).getD [])
theorem tget_part (T : Tr) (l : List Str) (x : Str) : tget (partT T l) x = if x ∈ l then tget T x else none := by
  unfold partT
  rw [tget_map]
  by_cases hl : x ∈ l
  · rw [if_pos hl]
    cases e : tget T x with
    | none => rw [if_neg fun z => tget_none.mp e (List.mem_filter.mp z).1]
    | some c =>
      have : x ∈ tkeys T := Classical.byContradiction fun z => by rw [tget_none.mpr z] at e; cases e
      rw [if_pos (List.mem_filter.mpr ⟨this, by simpa using hl⟩)]; rfl
  · rw [if_neg hl, if_neg fun z => hl (by simpa using (List.mem_filter.mp z).2)]
theorem part_keys (T : Tr) (l : List Str) : tkeys (partT T l) = (tkeys T).filter fun x => decide (x ∈ l) := by simp [partT, Function.comp_def]
theorem OkT.part {T : Tr} (h : OkT T) (l : List Str) : OkT (partT T l) := by
  refine ⟨?_, fun p hp => ?_, fun p hp => ?_⟩
  · rw [part_keys]; exact h.nd.filter _
  · obtain ⟨x, hx, rfl⟩ := List.mem_map.mp hp
    obtain ⟨q, hq, rfl⟩ := List.mem_map.mp (List.mem_filter.mp hx).1
    exact h.nm q hq
  · obtain ⟨x, hx, rfl⟩ := List.mem_map.mp hp
    obtain ⟨q, hq, rfl⟩ := List.mem_map.mp (List.mem_filter.mp hx).1
    show okC ((tget T q.1).getD []) ∧ ((tget T q.1).getD []).length ≤ 996
    rw [tget_of_mem h.nd hq]
    exact h.ok q hq
theorem pairsOfU_dk : ∀ T : Tr, pairsOfU ((dkU T).map pairU) = some (dkU T)
  | [] => rfl
  | p :: r => by
    show (match Ev.keyOf (.str p.1), pairsOfU ((dkU r).map pairU) with | some key, some kvs => some ((key, tI p.2) :: kvs) | _, _ => none) = _
    rw [pairsOfU_dk r]; rfl
theorem merge_dk : ∀ (S T : Tr), (tkeys (T ++ S)).Nodup → mergeU (dkU T) (dkU S) = dkU (T ++ S)
  | [], T, _ => by rw [List.append_nil]; rfl
  | p :: r, T, h => by
    show mergeU (putU (dkU T) (.inr p.1) (tI p.2)) (dkU r) = _
    have hn : p.1 ∉ tkeys T := fun z => by
      rw [tkeys, List.map_append, List.nodup_append] at h
      exact h.2.2 p.1 z p.1 (by simp) rfl
    rw [putU_dk, tput_new hn, merge_dk r (T ++ [(p.1, p.2)]) (by simpa using h)]
    simp
theorem dictP_e {T : Tr} (h : (tkeys T).Nodup) {k : Nat} {m : Mem} (hk : m[k]? = some (.lst ((dkU T).map pairU))) : oDictP [.ref k] m = some (.ref m.length, m ++ [cT T]) := by
  unfold oDictP
  simp only [hk, pairsOfU_dk]
  rw [show mergeU [] (dkU T) = dkU T from by have := merge_dk T [] (by simpa using h); simpa [dkU] using this]
end My

set_option Elab.async false
set_option linter.all false
set_option maxRecDepth 100000
set_option maxHeartbeats 2000000
namespace My
open PySem L2 Ev RZ RT
local macro_rules | `(tactic| walk_at "ev") => `(tactic| simp (disch := first | assumption | omega | simp; done | (simp only [List.length_map, List.length_append, List.length_cons, List.length_nil, List.length_replicate]; omega)) only [runB_e, List.length_cons, List.length_nil, List.length_map, Nat.reduceAdd, Nat.reduceSub, List.reduceReplicate, List.map_cons, List.map_nil, List.cons_append, List.nil_append, List.append_nil, List.set_cons_zero, List.set_cons_succ, List.getElem?_cons_zero, List.getElem?_cons_succ, evB, evX, evS, evO, evR, evR2, evI, evJ, evD, eqU_s, eqU_vo, valK_dk, Option.map_none,  nums_ints, flat_rep, Option.map_some, List.getElem?_append_left, dSlot_d, oMulG_a, oMulG_b, oMod_e, oTup_e, oLst_e, oList_e, oAdd_t, oMulG_t, eqU_tI, eqU_nil, eqU_i, dk_len, Bool.not_true, Bool.not_false, Bool.false_eq_true, if_true, if_false, if_pos, if_neg, mem_last, mem_setl, mem_mid, mem_setm, at3_0, at3_1, at3_2, ix3_0, ix3_2, decide_eq_true_eq, decide_true, decide_false, and_true, true_and, and_false, false_and, not_true_eq_false, not_false_eq_true, wipeU, *])
theorem sz_of {T : Tr} (h : OkT T) : List.length T < sizeLine := sz_lt (by have := h.len; omega)
theorem splice (l c : List Int) (a o : Nat) (h : a + o ≤ l.length) (hc : c.length ≤ 1000) (hl : l.length ≤ 1000) {m : Mem} {n k : Nat} (hn : m[n]? = some (cI l)) (hk : m[k]? = some (cI c)) (hne : n ≠ k) :
    oSetSl (.ref n) (some (a : Int)) (some ((a : Int) + (o : Int))) (.ref k) m = some ((), m.set n (cI (l.take a ++ c ++ l.drop (a + o)))) := by
  unfold oSetSl
  simp only [hn, hk]
  rw [if_pos ⟨hne, by omega, by omega, by simp; omega, by simp; exact Nat.le_trans (by omega : l.length + c.length ≤ 2000) (by decide)⟩]
  have h1 : ((a : Int) + (o : Int)).toNat = a + o := by omega
  have h2 : ((a : Int)).toNat = a := by omega
  rw [h1, h2, ← List.map_take, ← List.map_drop, ← List.map_append, ← List.map_append]
theorem p_behind (T : Tr) (hT : OkT T) (n : Nat) (d : Dd) (h : OkD d) (m : Mem) (hm : m[n]? = some (cT T)) : ∃ k t S, d_law_behind [.ref n, dU d] m = .ok (.tup [rsU (rf (tget T) d), .ref k]) (m ++ t) ∧ (m ++ t)[k]? = some (cT S) ∧ (tkeys S).Nodup ∧ ∀ x, tget S x = fd (tget T) d x := by
  have ha := at_2
  have hw := evW
  have hX := memX
  have hn : n < m.length := (List.getElem?_eq_some_iff.mp hm).1
  have hz := sz_of hT
  have hI : ∀ (f : XD) (ρ : Ev.Env) (m : Mem), dItems f ρ m = (f ρ m).bind fun u m1 => match dcell m1 u with | some (_, kvs) => R.ok (U.ref m1.length) (m1 ++ [Cell.lst (kvs.map pairU)]) | none => .bad := fun _ _ _ => rfl
  have hP := dictP_e hT.nd (k := m.length) (m := m ++ [.lst ((dkU T).map pairU)]) (mem_last _ _)
  have hD : ∀ (f g : XD) (ρ : Ev.Env) (m : Mem), dDPop f g ρ m = (f ρ m).bind fun u m1 => match dcells m1 u with | some _ => (g ρ m1).bind fun k m2 => (match dcell m2 u, Ev.keyOf k with | some (n, kvs), some key => (match valK kvs key with | some x => .ok x (m2.set n (.dK (dropU kvs key))) | none => .bad) | _, _ => .bad) | none => .bad := fun _ _ _ _ => rfl
  have hk : ∀ x : Str, Ev.keyOf (.str x) = some (.inr x) := fun _ => rfl
  have hr0 : rsU none = .non := rfl
  cases d with
  | put x c =>
    have hp := putU_dk T x c
    refine ⟨(m ++ [Cell.lst ((dkU T).map pairU)]).length, [Cell.lst ((dkU T).map pairU)] ++ [cT (tput T x c)], tput T x c, ?_, ?_, nodup_tput hT.nd, fun y => ?_⟩
    · unfold d_law_behind b_law_behind dU rf
      rw [← List.append_assoc m]
      generalize hL : Cell.lst ((dkU T).map pairU) = L at *
      walk_at "ev"
    · rw [← List.append_assoc m]; exact mem_last _ _
    · rw [tget_put]; rfl
  | patch x a o c =>
    cases e : tget T x with
    | none =>
      have hrf : rf (tget T) (.patch x a o c) = some [wGone, x] := by simp only [rf, e]
      refine ⟨n, [Cell.lst ((dkU T).map pairU)] ++ [cT T], T, ?_, mem_old hm, hT.nd, fun y => by unfold fd; rw [hrf]; rfl⟩
      rw [hrf]
      unfold d_law_behind b_law_behind dU
      rw [← List.append_assoc m]
      generalize hL : Cell.lst ((dkU T).map pairU) = L at *
      walk_at "ev"
      rfl
    | some r =>
      have hl := (hT.at e).2
      generalize hL : Cell.lst ((dkU T).map pairU) = L at *
      by_cases h1 : r.length < a + o
      · have hrf : rf (tget T) (.patch x a o c) = some [wPlace, x] := by simp only [rf, e, if_pos h1]
        refine ⟨n, [L] ++ [cT T] ++ [cI r], T, ?_, mem_old hm, hT.nd, fun y => by unfold fd; rw [hrf]; rfl⟩
        rw [hrf]
        unfold d_law_behind b_law_behind dU
        rw [show m ++ ([L] ++ [cT T] ++ [cI r]) = m ++ [L] ++ [cT T] ++ [cI r] by simp]
        by_cases h2 : (r.length : Int) < a
        · walk_at "ev"
          rfl
        · have h3 : (r.length : Int) < a + o := by omega
          walk_at "ev"
          rfl
      · have h2 : ¬ (r.length : Int) < a := by omega
        have h3 : ¬ (r.length : Int) < a + o := by omega
        have hs := splice r c a o (by omega) (by have := h.2.2.2.2; omega) (by omega) (m := m ++ [L] ++ [cT T] ++ [cI r] ++ [cI c]) (n := (m ++ [L] ++ [cT T]).length) (k := (m ++ [L] ++ [cT T] ++ [cI r]).length) (hX.1 _ _ _) (mem_last _ _) (by simp)
        rw [hX.2.2.1] at hs
        have hlen : (r.take a ++ c ++ r.drop (a + o)).length = r.length - o + c.length := by simp; omega
        by_cases h4 : 996 < r.length - o + c.length
        · have hrf : rf (tget T) (.patch x a o c) = some [wLong, x] := by simp only [rf, e, if_neg h1, if_pos h4]
          have h5 : (996 : Int) < ((r.take a ++ c ++ r.drop (a + o)).length : Nat) := by omega
          generalize hR : r.take a ++ c ++ r.drop (a + o) = Rw at *
          refine ⟨n, [L] ++ [cT T] ++ [cI Rw] ++ [cI c], T, ?_, mem_old hm, hT.nd, fun y => by unfold fd; rw [hrf]; rfl⟩
          rw [hrf]
          unfold d_law_behind b_law_behind dU
          rw [show m ++ ([L] ++ [cT T] ++ [cI Rw] ++ [cI c]) = m ++ [L] ++ [cT T] ++ [cI Rw] ++ [cI c] by simp]
          have hS : ∀ (f g : XD) (l hh : Ev.Env → Mem → R (Option Int)) (ρ : Ev.Env) (m : Mem), sSetSl f g l hh ρ m = thenE (f ρ m) ρ fun v m1 => thenE (g ρ m1) ρ fun o m2 => thenE (l ρ m2) ρ fun l m3 => thenE (hh ρ m3) ρ fun h m4 => thenO (oSetSl o l h v m4) fun _ m5 => .ok .nx ρ m5 := fun _ _ _ _ _ _ => rfl
          have hQ : ∀ (f : XD) (ρ : Ev.Env) (m : Mem), pSome f ρ m = (f ρ m).bind fun z m1 => match z with | .int i => .ok (some i) m1 | _ => .bad := fun _ _ _ => rfl
          walk_at "ev"
          rfl
        · have hrf : rf (tget T) (.patch x a o c) = none := by simp only [rf, e, if_neg h1, if_neg h4]
          have h5 : ¬ (996 : Int) < ((r.take a ++ c ++ r.drop (a + o)).length : Nat) := by omega
          have hpu := putU_dk T x (r.take a ++ c ++ r.drop (a + o))
          have hfd : ∀ y, tget (tput T x (r.take a ++ c ++ r.drop (a + o))) y = fd (tget T) (.patch x a o c) y := fun y => by
            unfold fd
            rw [hrf, if_pos rfl, tget_put]
            unfold act
            simp only [e]; rfl
          generalize hR : r.take a ++ c ++ r.drop (a + o) = Rw at *
          refine ⟨(m ++ [L]).length, [L] ++ [cT (tput T x Rw)] ++ [cI Rw] ++ [cI c], tput T x Rw, ?_, ?_, nodup_tput hT.nd, hfd⟩
          · rw [hrf]
            unfold d_law_behind b_law_behind dU
            rw [show m ++ ([L] ++ [cT (tput T x Rw)] ++ [cI Rw] ++ [cI c]) = m ++ [L] ++ [cT (tput T x Rw)] ++ [cI Rw] ++ [cI c] by simp]
            have hS : ∀ (f g : XD) (l hh : Ev.Env → Mem → R (Option Int)) (ρ : Ev.Env) (m : Mem), sSetSl f g l hh ρ m = thenE (f ρ m) ρ fun v m1 => thenE (g ρ m1) ρ fun o m2 => thenE (l ρ m2) ρ fun l m3 => thenE (hh ρ m3) ρ fun h m4 => thenO (oSetSl o l h v m4) fun _ m5 => .ok .nx ρ m5 := fun _ _ _ _ _ _ => rfl
            have hQ : ∀ (f : XD) (ρ : Ev.Env) (m : Mem), pSome f ρ m = (f ρ m).bind fun z m1 => match z with | .int i => .ok (some i) m1 | _ => .bad := fun _ _ _ => rfl
            walk_at "ev"
          · rw [show m ++ ([L] ++ [cT (tput T x Rw)] ++ [cI Rw] ++ [cI c]) = m ++ [L] ++ [cT (tput T x Rw)] ++ [cI Rw] ++ [cI c] by simp]
            exact hX.2.1 _ _ _ _
  | drop x =>
    cases e : tget T x with
    | none =>
      have hrf : rf (tget T) (.drop x) = some [wGone, x] := by simp only [rf, e]
      refine ⟨n, [Cell.lst ((dkU T).map pairU)] ++ [cT T], T, ?_, mem_old hm, hT.nd, fun y => by unfold fd; rw [hrf]; rfl⟩
      rw [hrf]
      unfold d_law_behind b_law_behind dU
      rw [← List.append_assoc m]
      generalize hL : Cell.lst ((dkU T).map pairU) = L at *
      walk_at "ev"
      rfl
    | some r =>
      have hrf : rf (tget T) (.drop x) = none := by simp only [rf, e]
      have hpd := dropU_dk T x
      refine ⟨(m ++ [Cell.lst ((dkU T).map pairU)]).length, [Cell.lst ((dkU T).map pairU)] ++ [cT (tdrop T x)], tdrop T x, ?_, ?_, nodup_tdrop hT.nd, fun y => ?_⟩
      · rw [hrf]
        unfold d_law_behind b_law_behind dU
        rw [← List.append_assoc m]
        generalize hL : Cell.lst ((dkU T).map pairU) = L at *
        walk_at "ev"
      · rw [← List.append_assoc m]; exact mem_last _ _
      · unfold fd; rw [hrf, if_pos rfl, tget_drop]; rfl
  | ren x k =>
    cases e : tget T x with
    | none =>
      have hrf : rf (tget T) (.ren x k) = some [wGone, x] := by simp only [rf, e]
      refine ⟨n, [Cell.lst ((dkU T).map pairU)] ++ [cT T], T, ?_, mem_old hm, hT.nd, fun y => by unfold fd; rw [hrf]; rfl⟩
      rw [hrf]
      unfold d_law_behind b_law_behind dU
      rw [← List.append_assoc m]
      generalize hL : Cell.lst ((dkU T).map pairU) = L at *
      walk_at "ev"
      rfl
    | some r =>
      cases e2 : tget T k with
      | some q =>
        have hrf : rf (tget T) (.ren x k) = some [wThere, k] := by simp only [rf, e, e2]
        refine ⟨n, [Cell.lst ((dkU T).map pairU)] ++ [cT T], T, ?_, mem_old hm, hT.nd, fun y => by unfold fd; rw [hrf]; rfl⟩
        rw [hrf]
        unfold d_law_behind b_law_behind dU
        rw [← List.append_assoc m]
        generalize hL : Cell.lst ((dkU T).map pairU) = L at *
        walk_at "ev"
        rfl
      | none =>
        have hrf : rf (tget T) (.ren x k) = none := by simp only [rf, e, e2]
        have hpd := dropU_dk T x
        have hpp := putU_dk (tdrop T x) k r
        have hz2 := sz_of (hT.dropx x)
        refine ⟨(m ++ [Cell.lst ((dkU T).map pairU)]).length, [Cell.lst ((dkU T).map pairU)] ++ [cT (tput (tdrop T x) k r)], tput (tdrop T x) k r, ?_, ?_, nodup_tput (nodup_tdrop hT.nd), fun y => ?_⟩
        · rw [hrf]
          unfold d_law_behind b_law_behind dU
          rw [← List.append_assoc m]
          generalize hL : Cell.lst ((dkU T).map pairU) = L at *
          walk_at "ev"
        · rw [← List.append_assoc m]; exact mem_last _ _
        · unfold fd; rw [hrf, if_pos rfl, tget_put, tget_drop, ← e]; rfl
end My

set_option Elab.async false
set_option linter.all false
set_option maxRecDepth 100000
set_option maxHeartbeats 2000000
namespace My
open PySem L2 Ev RZ RT
local macro_rules | `(tactic| walk_at "ev") => `(tactic| simp (disch := first | assumption | omega | simp; done | (simp only [List.length_map, List.length_append, List.length_cons, List.length_nil, List.length_replicate]; omega)) only [runB_e, List.length_cons, List.length_nil, List.length_map, Nat.reduceAdd, Nat.reduceSub, List.reduceReplicate, List.map_cons, List.map_nil, List.cons_append, List.nil_append, List.append_nil, List.set_cons_zero, List.set_cons_succ, List.getElem?_cons_zero, List.getElem?_cons_succ, evB, evX, evS, evO, evR, evR2, evI, evJ, evD, eqU_s, eqU_vo, valK_dk, Option.map_none,  nums_ints, flat_rep, Option.map_some, List.getElem?_append_left, dSlot_d, oMulG_a, oMulG_b, oMod_e, oTup_e, oLst_e, oList_e, oAdd_t, oMulG_t, eqU_tI, eqU_nil, eqU_i, dk_len, Bool.not_true, Bool.not_false, Bool.false_eq_true, if_true, if_false, if_pos, if_neg, mem_last, mem_setl, mem_mid, mem_setm, at3_0, at3_1, at3_2, ix3_0, ix3_2, decide_eq_true_eq, decide_true, decide_false, and_true, true_and, and_false, false_and, not_true_eq_false, not_false_eq_true, wipeU, *])
theorem pos_of {α : Type} {l : List α} (h : l ≠ []) : 0 < l.length := List.length_pos_iff.mpr h
theorem runB_3 (l : Nat) (b : SD) (x y z : U) (m : Mem) : runB l 3 b [x, y, z] m = finS (b ([some x, some y, some z] ++ List.replicate (l - 3) none) m) := rfl
theorem runB_2 (l : Nat) (b : SD) (x y : U) (m : Mem) : runB l 2 b [x, y] m = finS (b ([some x, some y] ++ List.replicate (l - 2) none) m) := rfl
theorem runB_1 (l : Nat) (b : SD) (x : U) (m : Mem) : runB l 1 b [x] m = finS (b ([some x] ++ List.replicate (l - 1) none) m) := rfl
theorem seq_ok {a b : SD} {ρ ρ' : Ev.Env} {m m' : Mem} (h : a ρ m = .ok .nx ρ' m') : sSeq a b ρ m = b ρ' m' := by
  show thenS (a ρ m) b = _
  rw [h]; rfl
theorem if_no {t : XT} {a : SD} {ρ : Ev.Env} {m m' : Mem} (h : t ρ m = .ok false m') : sIf t a sNext ρ m = .ok .nx ρ m' := by
  show thenE (t ρ m) ρ _ = _
  rw [h]; rfl
theorem asg_ok {f : XD} {i : Nat} {u : U} {ρ : Ev.Env} {m m' : Mem} (h : f ρ m = .ok u m') : sAsg f (gName i) ρ m = .ok .nx (ρ.set i (some u)) m' := by
  show thenE (f ρ m) ρ _ = _
  rw [h]; rfl
theorem pow57 (m : Mem) : oPow (.int 10) (.int 57) m = some (.int 1000000000000000000000000000000000000000000000000000000000, m) := by
  rw [show oPow (.int 10) (.int 57) m = if (0 : Int) ≤ 57 ∧ (Builtin.Int.intBits 10 : Int) * 57 ≤ 2 ^ 27 then some (.int ((10 : Int) ^ (57 : Int).toNat), m) else none from rfl, if_pos (by decide +kernel)]
  rfl
theorem pow16 (m : Mem) : oPow (.int 10) (.int 16) m = some (.int 10000000000000000, m) := by
  rw [show oPow (.int 10) (.int 16) m = if (0 : Int) ≤ 16 ∧ (Builtin.Int.intBits 10 : Int) * 16 ≤ 2 ^ 27 then some (.int ((10 : Int) ^ (16 : Int).toNat), m) else none from rfl, if_pos (by decide +kernel)]
  rfl
theorem powG : ∃ G : Int, 0 < G ∧ ∀ m : Mem, oPow (.int 1000000000000000000000000000000000000000000000000000000000) (.int 8) m = some (.int G, m) := by
  refine ⟨(1000000000000000000000000000000000000000000000000000000000 : Int) ^ (8 : Int).toNat, by decide +kernel, fun m => ?_⟩
  rw [show oPow (.int 1000000000000000000000000000000000000000000000000000000000) (.int 8) m = if (0 : Int) ≤ 8 ∧ (Builtin.Int.intBits 1000000000000000000000000000000000000000000000000000000000 : Int) * 8 ≤ 2 ^ 27 then some (.int ((1000000000000000000000000000000000000000000000000000000000 : Int) ^ (8 : Int).toNat), m) else none from rfl, if_pos (by decide +kernel)]
theorem p_well (ns : List Int) (spot : Nat) (hs : spot ≤ 1000) (m : Mem) : ∃ (a b : Int) (t : Mem), d_law_well [.rol (ns.map .int), .int spot] m = .ok (.ref (m ++ t).length) (m ++ t ++ [.lst [.int a, .int b, .int 0]]) := by
  have h1 := pow57
  have h3 := pow16
  obtain ⟨G, hG, h4⟩ := powG
  by_cases h : spot < ns.length
  · have ha := atI_ints h
    have hd : decide ((spot : Int) < (ns.length : Int)) = true := decide_eq_true (by omega)
    obtain ⟨a, b, e⟩ : ∃ a b : Int, d_law_well [.rol (ns.map .int), .int spot] m = .ok (.ref m.length) (m ++ [.lst [.int a, .int b, .int 0]]) := by
      unfold d_law_well b_law_well
      walk_at "ev"
      exact ⟨_, _, rfl⟩
    exact ⟨a, b, [], by rw [List.append_nil]; exact e⟩
  · have hd : decide ((spot : Int) < (ns.length : Int)) = false := decide_eq_false (by omega)
    have hN : ∀ (ρ : Ev.Env) (m : Mem), pNone ρ m = .ok none m := fun _ _ => rfl
    have hP : ∀ (ρ : Ev.Env) (m : Mem), pSome (dC (.int 1)) ρ m = .ok (some 1) m := fun _ _ => rfl
    have hsl : ∀ m : Mem, oSlice (.rol (ns.map .int)) none (some 1) m = some (.ref m.length, m ++ [cI (ns.take 1)]) := by
      intro m
      have : cutU (ns.map U.int) none (some 1) = (ns.take 1).map U.int := by
        cases ns with
        | nil => rfl
        | cons a r => simp [cutU, HT.sIx, Nat.min_eq_left]
      show some (U.ref m.length, m ++ [.lst (cutU (ns.map U.int) none (some 1))]) = _
      rw [this]
    have hsum : ∀ m : Mem, oSum [.ref m.length] (m ++ [cI (ns.take 1)]) = some (.int (ns.take 1).sum, m ++ [cI (ns.take 1)]) := by
      intro m
      have hi : itemsOf (m ++ [cI (ns.take 1)]) (.ref m.length) = some ((ns.take 1).map .int) := by unfold itemsOf; simp only [mem_last]
      show (match itemsOf (m ++ [cI (ns.take 1)]) (.ref m.length) with | some us => if isT (.ref m.length) then none else (nums us).map fun z : List Int => (U.int z.sum, m ++ [cI (ns.take 1)]) | none => none) = _
      rw [hi]
      show (if isT (.ref m.length) then none else (nums ((ns.take 1).map U.int)).map fun z : List Int => (U.int z.sum, m ++ [cI (ns.take 1)])) = _
      rw [nums_ints]; rfl
    obtain ⟨a, b, e⟩ : ∃ a b : Int, d_law_well [.rol (ns.map .int), .int spot] m = .ok (.ref (m ++ [cI (ns.take 1)]).length) (m ++ [cI (ns.take 1)] ++ [.lst [.int a, .int b, .int 0]]) := by
      unfold d_law_well b_law_well
      walk_at "ev"
      exact ⟨_, _, rfl⟩
    exact ⟨a, b, [cI (ns.take 1)], e⟩
theorem p_drawn (c : Nat) (total : Int) (h0 : 0 < total) (h1 : total ≤ 1000) (m : Mem) (hw : Well c m) : ∃ i m', d_law_drawn [.ref c, .int total] m = .ok (.int i) m' ∧ 0 ≤ i ∧ i < total ∧ Gr c m m' := by
  unfold d_law_drawn b_law_drawn
  obtain ⟨a, b, d, hm⟩ := id hw
  have hl := (List.getElem?_eq_some_iff.mp hm).1
  have hset : ∀ x, (m.set c x)[c]? = some x := fun x => List.getElem?_set_self hl
  have hlg : total.natAbs.log2 < 9000 := Nat.lt_trans (log2_lt (k := 10) (by omega) (by decide)) (by decide)
  have hdiv : ∀ (x : Int) m, oDiv (.int x) (.int total) m = some (.int (x / total), m) := fun x m => if_pos ⟨h0, hlg⟩
  have hdv2 : ∀ (x : Int) m, oDiv (.int x) (.int 131071) m = some (.int (x / 131071), m) := fun x m => (show oDiv (.int x) (.int 131071) m = if (0 : Int) < 131071 ∧ (131071 : Int).natAbs.log2 < 9000 then some (.int (x / 131071), m) else none from rfl).trans (if_pos (by decide +kernel))
  by_cases h : 0 < a
  · have hd : decide (0 < a) = true := decide_eq_true h
    refine ⟨a % total, m.set c (.lst [.int (a / total), .int b, .int d]), ?_, Int.emod_nonneg _ (by omega), Int.emod_lt_of_pos _ h0, Gr.set _ _ _ hw⟩
    clear hl hw hlg
    walk_at "ev"
  · have hd : decide (0 < a) = false := decide_eq_false h
    obtain ⟨one, ho⟩ : ∃ one, (b + 49979713 * (d + 1)) % 2305843009213693907 = one := ⟨_, rfl⟩
    have ho0 : 0 ≤ one := by omega
    have ho1 : one < 2305843009213693907 := by omega
    refine ⟨(one * one % 2305843009213693951 * 32452867 + one + 47 * (d + 1)) / 131071 % total, m.set c (.lst [.int a, .int b, .int (d + 1)]), ?_, Int.emod_nonneg _ (by omega), Int.emod_lt_of_pos _ h0, Gr.set _ _ _ hw⟩
    clear hl hw hlg h
    walk_at "ev"
theorem p_given (c k : Nat) (us : List U) (hk : k ≠ c) (hne : us ≠ []) (hl : us.length ≤ 1000) (m : Mem) (hw : Well c m) (hm : m[k]? = some (.lst us)) : ∃ u m', d_law_given [.ref c, .ref k] m = .ok u m' ∧ u ∈ us ∧ Gr c m m' := by
  unfold d_law_given b_law_given
  have hpos := pos_of hne
  obtain ⟨i, m', e, h0, h1, hg⟩ := p_drawn c us.length (by omega) (by omega) m hw
  have hm' := hg.get hk hm
  have hi : i.toNat < us.length := by omega
  have hat : atI us i = some us[i.toNat] := atI_at h0 (List.getElem?_eq_getElem hi)
  refine ⟨us[i.toNat], m', ?_, List.getElem_mem hi, hg⟩
  clear hw hg hpos hne hk
  walk_at "ev"
theorem gr_put {c k : Nat} {m m' : Mem} {x : Cell} (h : Gr c m m') (hk : k ≠ c) (hl : m.length ≤ k) : Gr c m (m'.set k x) := by
  refine ⟨by simp; exact h.len, ?_, fun n hn hlt => ?_⟩
  · obtain ⟨a, b, d, e⟩ := h.well
    exact ⟨a, b, d, by rw [List.getElem?_set_ne hk]; exact e⟩
  · rw [List.getElem?_set_ne (by omega)]; exact h.old n hn hlt
theorem well_lt {c : Nat} {m : Mem} (h : Well c m) : c < m.length := by obtain ⟨_, _, _, q⟩ := h; exact (List.getElem?_eq_some_iff.mp q).1
/-- one of a new list -/
theorem p_pick (c : Nat) (us : List U) (hne : us ≠ []) (hl : us.length ≤ 1000) (m : Mem) (hw : Well c m) : ∃ u m', d_law_given [.ref c, .ref m.length] (m ++ [.lst us]) = .ok u m' ∧ u ∈ us ∧ Gr c m m' := by
  have := well_lt hw
  obtain ⟨u, m', e, hu, g⟩ := p_given c m.length us (by omega) hne hl (m ++ [.lst us]) (hw.app _) (mem_last _ _)
  exact ⟨u, m', e, hu, g.from _⟩
theorem p_lcells (c : Nat) (most : Int) (h0 : 0 ≤ most) (h1 : most ≤ 900) (m : Mem) (hw : Well c m) : ∃ l m', d_law_cells [.ref c, .int most] m = .ok (tI l) m' ∧ okC l ∧ (l.length : Int) ≤ most ∧ Gr c m m' := by
  have hc := well_lt hw
  obtain ⟨k, m1, e1, k0, k1, g1⟩ := p_drawn c (most + 1) (by omega) (by omega) (m ++ [.lst []]) (hw.app _)
  have hm1 : m1[m.length]? = some (cI []) := g1.get (by omega) (mem_last _ _)
  have hrg : -4611686018427387904 ≤ k ∧ k < 4611686018427387904 := by omega
  obtain ⟨ρ', m2, e2, y, l, rfl, hlen, hok, hml, hg⟩ := forIx (g := Ev.gName 3) (b := sExpr (dM .list oAppend (dSlot 2) (lCons (dCall d_law_given (lCons (dSlot 0) (lCons (dLst (lCons (dC (.int 0)) (lCons (dC (.int 1)) (lCons (dC (.int 5)) (lCons (dC (.int 996)) (lCons (dCall d_law_drawn (lCons (dSlot 0) (lCons (dC (.int 997)) lNil))) lNil)))))) lNil))) lNil))) (us := runI 0 k.toNat)
    (fun i ρ m' => ∃ (y : Option U) (l : List Int), ρ = [some (.ref c), some (.int most), some (.ref m.length), y] ∧ l.length = i ∧ okC l ∧ m'[m.length]? = some (cI l) ∧ Gr c m m') (by
      rintro i u ρ m' hu ⟨y, l, rfl, hlen, hok, hml, hg⟩
      obtain ⟨hi, rfl⟩ := run_at hu
      obtain ⟨j, m3, e3, j0, j1, g3⟩ := p_drawn c 997 (by decide) (by decide) m' hg.well
      obtain ⟨v, m4, e4, hv, g4⟩ := p_pick c [.int 0, .int 1, .int 5, .int 996, .int j] (by simp) (by simp) m3 g3.well
      have hv' : ∃ x, v = .int x ∧ 0 ≤ x ∧ x ≤ 996 := by
        simp only [List.mem_cons, List.not_mem_nil, or_false] at hv
        rcases hv with h | h | h | h | h <;> exact ⟨_, h, by omega, by omega⟩
      obtain ⟨x, rfl, x0, x1⟩ := hv'
      have hml4 : m4[m.length]? = some (cI l) := (g3.trans g4).get (by omega) hml
      have hll : (l.map U.int).length < 16777216 := by simp; omega
      have hap : l.map U.int ++ [.int x] = (l ++ [x]).map U.int := by simp
      refine ⟨_, m', [some (.ref c), some (.int most), some (.ref m.length), some (.int (i : Nat))], m4.set m.length (cI (l ++ [x])), rfl, ?_, _, l ++ [x], rfl, by simp; omega, fun z hz => ?_, ?_, gr_put ((hg.trans g3).trans g4) (by omega) (Nat.le_refl _)⟩
      · clear hg g3 g4 hw g1 hv hu hok hm1
        have hil : l.length < 16777216 := by simpa using hll
        walk_at "ev"
      · rcases List.mem_append.mp hz with z1 | z1
        · exact hok z z1
        · rw [List.mem_singleton.mp z1]; exact ⟨x0, x1⟩
      · exact List.getElem?_set_self (List.getElem?_eq_some_iff.mp hml4).1) [some (.ref c), some (.int most), some (.ref m.length), none] m1 ⟨none, [], rfl, rfl, (fun _ h => by cases h), hm1, g1.from _⟩
  rw [runI_len] at hlen
  refine ⟨l, m2, ?_, hok, by omega, hg⟩
  unfold d_law_cells b_law_cells
  clear hg hw g1 hok hm1
  have hN : ∀ m : Mem, oLst [] m = some (.ref m.length, m ++ [.lst []]) := fun m => rfl
  walk_at "ev"
end My

set_option Elab.async false
set_option linter.all false
set_option maxRecDepth 100000
set_option maxHeartbeats 2000000
namespace My
open PySem L2 Ev RZ RT
local macro_rules | `(tactic| walk_at "ev") => `(tactic| simp (disch := first | assumption | omega | simp; done | (simp only [List.length_map, List.length_append, List.length_cons, List.length_nil, List.length_replicate]; omega)) only [runB_e, List.length_cons, List.length_nil, List.length_map, Nat.reduceAdd, Nat.reduceSub, List.reduceReplicate, List.map_cons, List.map_nil, List.cons_append, List.nil_append, List.append_nil, List.set_cons_zero, List.set_cons_succ, List.getElem?_cons_zero, List.getElem?_cons_succ, evB, evX, evS, evO, evR, evR2, evI, evJ, evD, eqU_s, eqU_vo, valK_dk, Option.map_none,  nums_ints, flat_rep, Option.map_some, List.getElem?_append_left, dSlot_d, oMulG_a, oMulG_b, oMod_e, oTup_e, oLst_e, oList_e, oAdd_t, oMulG_t, eqU_tI, eqU_nil, eqU_i, dk_len, Bool.not_true, Bool.not_false, Bool.false_eq_true, if_true, if_false, if_pos, if_neg, mem_last, mem_setl, mem_mid, mem_setm, at3_0, at3_1, at3_2, ix3_0, ix3_2, decide_eq_true_eq, decide_true, decide_false, and_true, true_and, and_false, false_and, not_true_eq_false, not_false_eq_true, wipeU, *])
local macro_rules | `(tactic| walk_at "w") => `(tactic| with_reducible repeat (first
  | (apply wr_slot; (focus (with_unfolding_all rfl)))
  | refine wr_C ?_
  | refine wl_cons ?_
  | refine wr_op ?_
  | refine wl_nil ?_
  | refine wr_call ?_
  | refine wr_B ?_
  | refine ws_seq ?_
  | refine ws_asg ?_
  | refine wg_name ?_
  | refine wr_tup ?_
  | refine wr_lst ?_
  | refine ws_if ?_
  | refine wt_bl ?_
  | refine wt_tru ?_
  | refine asb ?_
  | refine asi ?_
  | refine two ?_
  | refine three ?_
  | refine tupp ?_
  | refine one ?_
  | refine wo_add ?_
  | refine wo_sub ?_
  | refine wo_iadd ?_
  | refine wo_neg ?_
  | refine wo_lt ?_
  | refine wo_le ?_
  | refine wo_gt ?_
  | refine wo_ge ?_
  | (apply wo_mod; (focus (first | (with_reducible_and_instances assumption) | (with_unfolding_all first | omega | decide | (simp only [List.length_map, List.length_append, List.length_cons, List.length_nil, List.length_replicate, List.length_reverse, Ev.runI_len] at *; omega)))))
  | (apply wo_mulA; (focus (first | (with_reducible_and_instances assumption) | (with_unfolding_all first | omega | decide | (simp only [List.length_map, List.length_append, List.length_cons, List.length_nil, List.length_replicate, List.length_reverse, Ev.runI_len] at *; omega)))); (focus (first | (with_reducible_and_instances assumption) | (with_unfolding_all first | omega | decide | (simp only [List.length_map, List.length_append, List.length_cons, List.length_nil, List.length_replicate, List.length_reverse, Ev.runI_len] at *; omega)))))
  | (apply wo_mulB; (focus (first | (with_reducible_and_instances assumption) | (with_unfolding_all first | omega | decide | (simp only [List.length_map, List.length_append, List.length_cons, List.length_nil, List.length_replicate, List.length_reverse, Ev.runI_len] at *; omega)))); (focus (first | (with_reducible_and_instances assumption) | (with_unfolding_all first | omega | decide | (simp only [List.length_map, List.length_append, List.length_cons, List.length_nil, List.length_replicate, List.length_reverse, Ev.runI_len] at *; omega)))))
  | (apply wo_div'; (focus (first | (with_reducible_and_instances assumption) | (with_unfolding_all first | omega | decide | (simp only [List.length_map, List.length_append, List.length_cons, List.length_nil, List.length_replicate, List.length_reverse, Ev.runI_len] at *; omega)))); (focus (first | (with_reducible_and_instances assumption) | (with_unfolding_all first | omega | decide | (simp only [List.length_map, List.length_append, List.length_cons, List.length_nil, List.length_replicate, List.length_reverse, Ev.runI_len] at *; omega)))))
  | (apply wo_eq; (focus (first | (with_reducible_and_instances assumption) | (with_unfolding_all first | exact eqU_i _ _ _ | exact eqU_tI _ _ _ | exact eqU_nil _ _) | exact eqU_rr (by with_reducible_and_instances assumption) (by with_reducible_and_instances assumption))))
  | (apply wo_ne; (focus (first | (with_reducible_and_instances assumption) | (with_unfolding_all first | exact eqU_i _ _ _ | exact eqU_tI _ _ _ | exact eqU_nil _ _) | exact eqU_rr (by with_reducible_and_instances assumption) (by with_reducible_and_instances assumption))))
  | refine wo_lenT ?_
  | (apply wo_lenR; (focus (with_reducible_and_instances assumption)))
  | refine wo_lenRol ?_
  | refine wo_intI ?_
  | refine wo_intB ?_
  | refine wo_abs ?_
  | refine wo_max2 ?_
  | refine wo_min2 ?_
  | (apply wo_tup; (focus (first | (with_reducible_and_instances assumption) | (with_unfolding_all first | omega | decide | (simp only [List.length_map, List.length_append, List.length_cons, List.length_nil, List.length_replicate, List.length_reverse, Ev.runI_len] at *; omega)))))
  | (apply wo_lst; (focus (first | (with_reducible_and_instances assumption) | (with_unfolding_all first | omega | decide | (simp only [List.length_map, List.length_append, List.length_cons, List.length_nil, List.length_replicate, List.length_reverse, Ev.runI_len] at *; omega)))))
  | refine wo_tupT ?_
  | (apply wo_tupR; (focus (with_reducible_and_instances assumption)))
  | refine wo_lstT ?_
  | refine wo_lstRol ?_
  | (apply wo_lstR; (focus (with_reducible_and_instances assumption)))
  | (apply wo_ixT; (focus (first | (with_reducible_and_instances assumption) | (with_unfolding_all rfl))))
  | (apply wo_ixRol; (focus (first | (with_reducible_and_instances assumption) | (with_unfolding_all rfl))))
  | (apply wo_ixR; (focus (with_reducible_and_instances assumption)); (focus (first | (with_reducible_and_instances assumption) | (with_unfolding_all rfl))))
  | (apply wo_addT; (focus (first | (with_reducible_and_instances assumption) | (with_unfolding_all first | omega | decide | (simp only [List.length_map, List.length_append, List.length_cons, List.length_nil, List.length_replicate, List.length_reverse, Ev.runI_len] at *; omega)))))
  | (apply wo_addR; (focus (with_reducible_and_instances assumption)); (focus (with_reducible_and_instances assumption)); (focus (first | (with_reducible_and_instances assumption) | (with_unfolding_all first | omega | decide | (simp only [List.length_map, List.length_append, List.length_cons, List.length_nil, List.length_replicate, List.length_reverse, Ev.runI_len] at *; omega)))))
  | refine wo_sliceT ?_
  | (apply wo_sliceR; (focus (with_reducible_and_instances assumption)))
  | (apply wo_append; (focus (with_reducible_and_instances assumption)); (focus (first | (with_reducible_and_instances assumption) | (with_unfolding_all first | omega | decide | (simp only [List.length_map, List.length_append, List.length_cons, List.length_nil, List.length_replicate, List.length_reverse, Ev.runI_len] at *; omega)))))
  | (apply wo_extend; (focus (with_reducible_and_instances assumption)); (focus (with_reducible_and_instances assumption)); (focus (first | (with_reducible_and_instances assumption) | (with_unfolding_all first | omega | decide | (simp only [List.length_map, List.length_append, List.length_cons, List.length_nil, List.length_replicate, List.length_reverse, Ev.runI_len] at *; omega)))))
  | (apply wo_mulT; (focus (first | (with_reducible_and_instances assumption) | (with_unfolding_all first | omega | decide | (simp only [List.length_map, List.length_append, List.length_cons, List.length_nil, List.length_replicate, List.length_reverse, Ev.runI_len] at *; omega)))); (focus (first | (with_reducible_and_instances assumption) | (with_unfolding_all first | omega | decide | (simp only [List.length_map, List.length_append, List.length_cons, List.length_nil, List.length_replicate, List.length_reverse, Ev.runI_len] at *; omega)))); (focus (first | (with_reducible_and_instances assumption) | (with_unfolding_all first | omega | decide | (simp only [List.length_map, List.length_append, List.length_cons, List.length_nil, List.length_replicate, List.length_reverse, Ev.runI_len] at *; omega)))))
  | (apply wo_mulR; (focus (with_reducible_and_instances assumption)); (focus (first | (with_reducible_and_instances assumption) | (with_unfolding_all first | omega | decide | (simp only [List.length_map, List.length_append, List.length_cons, List.length_nil, List.length_replicate, List.length_reverse, Ev.runI_len] at *; omega)))); (focus (first | (with_reducible_and_instances assumption) | (with_unfolding_all first | omega | decide | (simp only [List.length_map, List.length_append, List.length_cons, List.length_nil, List.length_replicate, List.length_reverse, Ev.runI_len] at *; omega)))); (focus (first | (with_reducible_and_instances assumption) | (with_unfolding_all first | omega | decide | (simp only [List.length_map, List.length_append, List.length_cons, List.length_nil, List.length_replicate, List.length_reverse, Ev.runI_len] at *; omega)))))
  | refine wr_and ?_
  | refine wr_or ?_
  | refine wr_not ?_
  | refine wr_chain ?_
  | refine wr_un ?_
  | refine wt_and ?_
  | refine wt_or ?_
  | refine wt_not ?_
  | refine wt_yes ?_
  | refine wr_slice ?_
  | refine wp_none ?_
  | refine wp_some ?_
  | refine wr_isi ?_
  | refine wr_m ?_
  | refine wr_m0 ?_
  | (apply ism; (focus (first | exact isMT_r (by with_reducible_and_instances assumption) | exact isMT_dK (by with_reducible_and_instances assumption) | (with_unfolding_all rfl))))
  | (apply somep; (focus (first | (with_reducible_and_instances assumption) | exact truU_r (by with_reducible_and_instances assumption) | exact isTy_r (by with_reducible_and_instances assumption) | exact srcA_r (by with_reducible_and_instances assumption) | (with_unfolding_all rfl))))
  | refine wr_lc ?_
  | refine wr_lc2 ?_
  | refine wr_sortedSet ?_
  | refine wr_lenset ?_
  | refine wr_revT ?_
  | refine wr_lstRg ?_
  | refine wr_tupRg ?_
  | refine wr_lstRg2 ?_
  | refine wr_tupRg2 ?_
  | (apply wo_tupRg; (focus (first | (with_reducible_and_instances assumption) | (with_unfolding_all first | omega | decide | (simp only [List.length_map, List.length_append, List.length_cons, List.length_nil, List.length_replicate, List.length_reverse, Ev.runI_len] at *; omega)))); (focus (first | (with_reducible_and_instances assumption) | (with_unfolding_all first | omega | decide | (simp only [List.length_map, List.length_append, List.length_cons, List.length_nil, List.length_replicate, List.length_reverse, Ev.runI_len] at *; omega)))); (focus (first | (with_reducible_and_instances assumption) | (with_unfolding_all first | omega | decide | (simp only [List.length_map, List.length_append, List.length_cons, List.length_nil, List.length_replicate, List.length_reverse, Ev.runI_len] at *; omega)))); (focus (first | (with_reducible_and_instances assumption) | (with_unfolding_all first | omega | decide | (simp only [List.length_map, List.length_append, List.length_cons, List.length_nil, List.length_replicate, List.length_reverse, Ev.runI_len] at *; omega)))); (focus (first | (with_reducible_and_instances assumption) | (with_unfolding_all first | omega | decide | (simp only [List.length_map, List.length_append, List.length_cons, List.length_nil, List.length_replicate, List.length_reverse, Ev.runI_len] at *; omega)))))
  | (apply wo_lstRg; (focus (first | (with_reducible_and_instances assumption) | (with_unfolding_all first | omega | decide | (simp only [List.length_map, List.length_append, List.length_cons, List.length_nil, List.length_replicate, List.length_reverse, Ev.runI_len] at *; omega)))); (focus (first | (with_reducible_and_instances assumption) | (with_unfolding_all first | omega | decide | (simp only [List.length_map, List.length_append, List.length_cons, List.length_nil, List.length_replicate, List.length_reverse, Ev.runI_len] at *; omega)))); (focus (first | (with_reducible_and_instances assumption) | (with_unfolding_all first | omega | decide | (simp only [List.length_map, List.length_append, List.length_cons, List.length_nil, List.length_replicate, List.length_reverse, Ev.runI_len] at *; omega)))); (focus (first | (with_reducible_and_instances assumption) | (with_unfolding_all first | omega | decide | (simp only [List.length_map, List.length_append, List.length_cons, List.length_nil, List.length_replicate, List.length_reverse, Ev.runI_len] at *; omega)))); (focus (first | (with_reducible_and_instances assumption) | (with_unfolding_all first | omega | decide | (simp only [List.length_map, List.length_append, List.length_cons, List.length_nil, List.length_replicate, List.length_reverse, Ev.runI_len] at *; omega)))))
  | refine wi_any ?_
  | refine wi_enum ?_
  | refine wi_zip ?_
  | refine wi_range1 ?_
  | refine wi_range2 ?_
  | refine wi_rev ?_
  | refine wi_revR1 ?_
  | refine ws_for ?_
  | refine ws_fix ?_
  | refine ws_ret ?_
  | refine ws_retN ?_
  | refine ws_expr ?_
  | refine ws_next ?_
  | refine ws_break ?_
  | refine ws_cont ?_
  | refine ws_raise ?_
  | (apply ws_aug; (focus (with_unfolding_all rfl)))
  | refine ws_augS ?_
  | refine ws_par ?_
  | refine ws_par3 ?_
  | (apply wg_tup; (focus (with_unfolding_all rfl)))
  | refine wg_cons ?_
  | refine wg_nil ?_
  | (apply wg_cons'; (focus (with_unfolding_all rfl)))
  | (apply wg_nil'; (focus (with_unfolding_all rfl)))
  | refine wg_sub ?_
  | (apply wo_setL; (focus (with_reducible_and_instances assumption)); (focus (first | (with_reducible_and_instances assumption) | (with_unfolding_all first | omega | decide | (simp only [List.length_map, List.length_append, List.length_cons, List.length_nil, List.length_replicate, List.length_reverse, Ev.runI_len] at *; omega)))); (focus (first | (with_reducible_and_instances assumption) | (with_unfolding_all first | omega | decide | (simp only [List.length_map, List.length_append, List.length_cons, List.length_nil, List.length_replicate, List.length_reverse, Ev.runI_len] at *; omega)))))
  | (apply wo_getL; (focus (with_reducible_and_instances assumption)); (focus (first | (with_reducible_and_instances assumption) | (with_unfolding_all rfl))))
  | refine ifp_T ?_
  | refine ifp_F ?_
  | (apply ifp_t; (focus (first | (with_reducible_and_instances assumption) | rfl | (simp only [Ev.Ty.isL, Ev.Ty.isD, decide_eq_true_eq, decide_eq_false_iff_not, Bool.not_eq_true', Bool.not_eq_false', bne_iff_ne, beq_iff_eq, ne_eq, Bool.and_eq_true, Bool.or_eq_true, List.length_map, List.length_append, List.length_cons, List.length_nil]; done) | (simp only [Ev.Ty.isL, Ev.Ty.isD, decide_eq_true_eq, decide_eq_false_iff_not, Bool.not_eq_true', Bool.not_eq_false', bne_iff_ne, beq_iff_eq, ne_eq, Bool.and_eq_true, Bool.or_eq_true, List.length_map, List.length_append, List.length_cons, List.length_nil]; first | (with_reducible_and_instances assumption) | omega))))
  | (apply ifp_f; (focus (first | (with_reducible_and_instances assumption) | rfl | (simp only [Ev.Ty.isL, Ev.Ty.isD, decide_eq_true_eq, decide_eq_false_iff_not, Bool.not_eq_true', Bool.not_eq_false', bne_iff_ne, beq_iff_eq, ne_eq, Bool.and_eq_true, Bool.or_eq_true, List.length_map, List.length_append, List.length_cons, List.length_nil]; done) | (simp only [Ev.Ty.isL, Ev.Ty.isD, decide_eq_true_eq, decide_eq_false_iff_not, Bool.not_eq_true', Bool.not_eq_false', bne_iff_ne, beq_iff_eq, ne_eq, Bool.and_eq_true, Bool.or_eq_true, List.length_map, List.length_append, List.length_cons, List.length_nil]; first | (with_reducible_and_instances assumption) | omega))))))
-- w
theorem sv_of {m m' : Mem} {t : Mem} (h : m' = m ++ t) : Ev.Sv [] m m' := by rw [h]; exact Ev.Sv.app _ _
theorem _root_.Ev.Gr.sv0 {c : Nat} {m m1 m2 : Mem} (h : Gr c m m1) (h2 : Ev.Sv [] m1 m2) : Gr c m m2 := by
  obtain ⟨t, rfl⟩ := h2.ext
  exact h.app t
theorem w_drawn (c : Nat) (total : Int) (h0 : 0 < total) (h1 : total ≤ 1000) (m : Mem) (hw : Well c m) (E' : Ex → Mem → Prop) : WR (d_law_drawn [.ref c, .int total] m) (fun u m' => ∃ i, u = .int i ∧ 0 ≤ i ∧ i < total ∧ Gr c m m') E' := by
  obtain ⟨i, m', e, a, b, g⟩ := p_drawn c total h0 h1 m hw
  exact wr_eq e ⟨i, rfl, a, b, g⟩
theorem w_given (c k : Nat) (us : List U) (hk : k ≠ c) (hne : us ≠ []) (hl : us.length ≤ 1000) (m : Mem) (hw : Well c m) (hm : m[k]? = some (.lst us)) (E' : Ex → Mem → Prop) : WR (d_law_given [.ref c, .ref k] m) (fun u m' => u ∈ us ∧ Gr c m m') E' := by
  obtain ⟨u, m', e, a, g⟩ := p_given c k us hk hne hl m hw hm
  exact wr_eq e ⟨a, g⟩
theorem w_givenS (c k : Nat) (xs : List Str) (hk : k ≠ c) (hne : xs ≠ []) (hl : xs.length ≤ 1000) (m : Mem) (hw : Well c m) (hm : m[k]? = some (cS xs)) (E' : Ex → Mem → Prop) : WR (d_law_given [.ref c, .ref k] m) (fun u m' => ∃ x, u = .str x ∧ x ∈ xs ∧ Gr c m m') E' := by
  refine wr_imp (w_given c k (xs.map .str) hk (by simpa using hne) (by simpa using hl) m hw hm E') ?_
  rintro u m' ⟨h, g⟩
  obtain ⟨x, hx, rfl⟩ := List.mem_map.mp h
  exact ⟨x, rfl, hx, g⟩
/-- one of a new list -/
theorem w_pick (c n : Nat) (us : List U) (hne : us ≠ []) (hl : us.length ≤ 1000) (m m1 : Mem) (hw : Well c m) (hn : Nw m m1 n (.lst us)) (E' : Ex → Mem → Prop) : WR (d_law_given [.ref c, .ref n] m1) (fun u m' => u ∈ us ∧ Gr c m m') E' := by
  have := well_lt hw
  refine wr_imp (w_given c n us (by rw [hn.len]; omega) hne hl m1 (hw.nw hn) hn.at_ E') ?_
  rintro u m' ⟨h, g⟩
  refine ⟨h, ?_⟩
  rw [hn.eq] at g
  exact g.from _
theorem w_cells (c : Nat) (most : Int) (h0 : 0 ≤ most) (h1 : most ≤ 900) (m : Mem) (hw : Well c m) (E' : Ex → Mem → Prop) : WR (d_law_cells [.ref c, .int most] m) (fun u m' => ∃ l, u = tI l ∧ okC l ∧ (l.length : Int) ≤ most ∧ Gr c m m') E' := by
  obtain ⟨l, m', e, a, b, g⟩ := p_lcells c most h0 h1 m hw
  exact wr_eq e ⟨l, rfl, a, b, g⟩
theorem w_refusal (T : Tr) (hT : OkT T) (n : Nat) (d : Dd) (h : OkD d) (m : Mem) (hm : m[n]? = some (cT T)) (E' : Ex → Mem → Prop) : WR (d_refusal [.ref n, dU d] m) (fun u m' => u = rsU (rf (tget T) d) ∧ Ev.Sv [] m m') E' := by
  obtain ⟨t, e⟩ := p_refusal T hT n d h m hm
  exact wr_eq e ⟨rfl, Ev.Sv.app _ _⟩
theorem w_touched (d : Dd) (h : OkD d) (m : Mem) (E' : Ex → Mem → Prop) : WR (d_touched [dU d] m) (fun u m' => u = tS (tch d) ∧ Ev.Sv [] m m') E' := by
  obtain ⟨t, e⟩ := p_touched d h m
  exact wr_eq e ⟨rfl, Ev.Sv.app _ _⟩
theorem w_behind (T : Tr) (hT : OkT T) (n : Nat) (d : Dd) (h : OkD d) (m : Mem) (hm : m[n]? = some (cT T)) (E' : Ex → Mem → Prop) : WR (d_law_behind [.ref n, dU d] m) (fun u m' => ∃ k, u = .tup [rsU (rf (tget T) d), .ref k] ∧ Ev.Sv [] m m' ∧ ∃ S, m'[k]? = some (cT S) ∧ (tkeys S).Nodup ∧ ∀ x, tget S x = fd (tget T) d x) E' := by
  obtain ⟨k, t, S, e, h1, h2, h3⟩ := p_behind T hT n d h m hm
  exact wr_eq e ⟨k, rfl, Ev.Sv.app _ _, S, h1, h2, h3⟩
theorem w_names (m : Mem) (E' : Ex → Mem → Prop) {Q : U → Mem → Prop} (q : ∀ n m', Nw m m' n (cS N5) → Q (.ref n) m') : WR (d_law_names [] m) Q E' := by
  have e : d_law_names [] m = .ok (.ref m.length) (m ++ [cS N5]) := by
    unfold d_law_names b_law_names
    walk_at "ev"
    rfl
  exact wr_eq e (q _ _ (Nw.mk' _ _))
theorem ne_well {c k : Nat} {m : Mem} {T : Tr} (hw : Well c m) (h : m[k]? = some (cT T)) : k ≠ c := fun z => by
  obtain ⟨_, _, _, e⟩ := hw
  rw [z, e] at h; cases h
theorem getD_tI (o : Option (List Int)) : (o.map tI).getD (.tup []) = tI (o.getD []) := by cases o <;> rfl
end My

set_option Elab.async false
set_option linter.all false
set_option maxRecDepth 100000
set_option maxHeartbeats 2000000
namespace My
open PySem L2 Ev RZ RT
local macro_rules | `(tactic| walk_at "ev") => `(tactic| simp (disch := first | assumption | omega | simp; done | (simp only [List.length_map, List.length_append, List.length_cons, List.length_nil, List.length_replicate]; omega)) only [runB_e, List.length_cons, List.length_nil, List.length_map, Nat.reduceAdd, Nat.reduceSub, List.reduceReplicate, List.map_cons, List.map_nil, List.cons_append, List.nil_append, List.append_nil, List.set_cons_zero, List.set_cons_succ, List.getElem?_cons_zero, List.getElem?_cons_succ, evB, evX, evS, evO, evR, evR2, evI, evJ, evD, eqU_s, eqU_vo, valK_dk, Option.map_none,  nums_ints, flat_rep, Option.map_some, List.getElem?_append_left, dSlot_d, oMulG_a, oMulG_b, oMod_e, oTup_e, oLst_e, oList_e, oAdd_t, oMulG_t, eqU_tI, eqU_nil, eqU_i, dk_len, Bool.not_true, Bool.not_false, Bool.false_eq_true, if_true, if_false, if_pos, if_neg, mem_last, mem_setl, mem_mid, mem_setm, at3_0, at3_1, at3_2, ix3_0, ix3_2, decide_eq_true_eq, decide_true, decide_false, and_true, true_and, and_false, false_and, not_true_eq_false, not_false_eq_true, wipeU, *])
local macro_rules | `(tactic| walk_at "w") => `(tactic| with_reducible repeat (first
  | (apply wr_slot; (focus (with_unfolding_all rfl)))
  | refine wr_C ?_
  | refine wl_cons ?_
  | refine wr_op ?_
  | refine wl_nil ?_
  | refine wr_call ?_
  | refine wr_B ?_
  | refine ws_seq ?_
  | refine ws_asg ?_
  | refine wg_name ?_
  | refine wr_tup ?_
  | refine wr_lst ?_
  | refine ws_if ?_
  | refine wt_bl ?_
  | refine wt_tru ?_
  | refine asb ?_
  | refine asi ?_
  | refine two ?_
  | refine three ?_
  | refine tupp ?_
  | refine one ?_
  | refine wo_add ?_
  | refine wo_sub ?_
  | refine wo_iadd ?_
  | refine wo_neg ?_
  | refine wo_lt ?_
  | refine wo_le ?_
  | refine wo_gt ?_
  | refine wo_ge ?_
  | (apply wo_mod; (focus (first | (with_reducible_and_instances assumption) | (with_unfolding_all first | omega | decide | (simp only [List.length_map, List.length_append, List.length_cons, List.length_nil, List.length_replicate, List.length_reverse, Ev.runI_len] at *; omega)))))
  | (apply wo_mulA; (focus (first | (with_reducible_and_instances assumption) | (with_unfolding_all first | omega | decide | (simp only [List.length_map, List.length_append, List.length_cons, List.length_nil, List.length_replicate, List.length_reverse, Ev.runI_len] at *; omega)))); (focus (first | (with_reducible_and_instances assumption) | (with_unfolding_all first | omega | decide | (simp only [List.length_map, List.length_append, List.length_cons, List.length_nil, List.length_replicate, List.length_reverse, Ev.runI_len] at *; omega)))))
  | (apply wo_mulB; (focus (first | (with_reducible_and_instances assumption) | (with_unfolding_all first | omega | decide | (simp only [List.length_map, List.length_append, List.length_cons, List.length_nil, List.length_replicate, List.length_reverse, Ev.runI_len] at *; omega)))); (focus (first | (with_reducible_and_instances assumption) | (with_unfolding_all first | omega | decide | (simp only [List.length_map, List.length_append, List.length_cons, List.length_nil, List.length_replicate, List.length_reverse, Ev.runI_len] at *; omega)))))
  | (apply wo_div'; (focus (first | (with_reducible_and_instances assumption) | (with_unfolding_all first | omega | decide | (simp only [List.length_map, List.length_append, List.length_cons, List.length_nil, List.length_replicate, List.length_reverse, Ev.runI_len] at *; omega)))); (focus (first | (with_reducible_and_instances assumption) | (with_unfolding_all first | omega | decide | (simp only [List.length_map, List.length_append, List.length_cons, List.length_nil, List.length_replicate, List.length_reverse, Ev.runI_len] at *; omega)))))
  | (apply wo_eq; (focus (first | (with_reducible_and_instances assumption) | (with_unfolding_all first | exact eqU_i _ _ _ | exact eqU_tI _ _ _ | exact eqU_nil _ _) | exact eqU_rr (by with_reducible_and_instances assumption) (by with_reducible_and_instances assumption))))
  | (apply wo_ne; (focus (first | (with_reducible_and_instances assumption) | (with_unfolding_all first | exact eqU_i _ _ _ | exact eqU_tI _ _ _ | exact eqU_nil _ _) | exact eqU_rr (by with_reducible_and_instances assumption) (by with_reducible_and_instances assumption))))
  | refine wo_lenT ?_
  | (apply wo_lenR; (focus (with_reducible_and_instances assumption)))
  | refine wo_lenRol ?_
  | refine wo_intI ?_
  | refine wo_intB ?_
  | refine wo_abs ?_
  | refine wo_max2 ?_
  | refine wo_min2 ?_
  | (apply wo_tup; (focus (first | (with_reducible_and_instances assumption) | (with_unfolding_all first | omega | decide | (simp only [List.length_map, List.length_append, List.length_cons, List.length_nil, List.length_replicate, List.length_reverse, Ev.runI_len] at *; omega)))))
  | (apply wo_lst; (focus (first | (with_reducible_and_instances assumption) | (with_unfolding_all first | omega | decide | (simp only [List.length_map, List.length_append, List.length_cons, List.length_nil, List.length_replicate, List.length_reverse, Ev.runI_len] at *; omega)))))
  | refine wo_tupT ?_
  | (apply wo_tupR; (focus (with_reducible_and_instances assumption)))
  | refine wo_lstT ?_
  | refine wo_lstRol ?_
  | (apply wo_lstR; (focus (with_reducible_and_instances assumption)))
  | (apply wo_ixT; (focus (first | (with_reducible_and_instances assumption) | (with_unfolding_all rfl))))
  | (apply wo_ixRol; (focus (first | (with_reducible_and_instances assumption) | (with_unfolding_all rfl))))
  | (apply wo_ixR; (focus (with_reducible_and_instances assumption)); (focus (first | (with_reducible_and_instances assumption) | (with_unfolding_all rfl))))
  | (apply wo_addT; (focus (first | (with_reducible_and_instances assumption) | (with_unfolding_all first | omega | decide | (simp only [List.length_map, List.length_append, List.length_cons, List.length_nil, List.length_replicate, List.length_reverse, Ev.runI_len] at *; omega)))))
  | (apply wo_addR; (focus (with_reducible_and_instances assumption)); (focus (with_reducible_and_instances assumption)); (focus (first | (with_reducible_and_instances assumption) | (with_unfolding_all first | omega | decide | (simp only [List.length_map, List.length_append, List.length_cons, List.length_nil, List.length_replicate, List.length_reverse, Ev.runI_len] at *; omega)))))
  | refine wo_sliceT ?_
  | (apply wo_sliceR; (focus (with_reducible_and_instances assumption)))
  | (apply wo_append; (focus (with_reducible_and_instances assumption)); (focus (first | (with_reducible_and_instances assumption) | (with_unfolding_all first | omega | decide | (simp only [List.length_map, List.length_append, List.length_cons, List.length_nil, List.length_replicate, List.length_reverse, Ev.runI_len] at *; omega)))))
  | (apply wo_extend; (focus (with_reducible_and_instances assumption)); (focus (with_reducible_and_instances assumption)); (focus (first | (with_reducible_and_instances assumption) | (with_unfolding_all first | omega | decide | (simp only [List.length_map, List.length_append, List.length_cons, List.length_nil, List.length_replicate, List.length_reverse, Ev.runI_len] at *; omega)))))
  | (apply wo_mulT; (focus (first | (with_reducible_and_instances assumption) | (with_unfolding_all first | omega | decide | (simp only [List.length_map, List.length_append, List.length_cons, List.length_nil, List.length_replicate, List.length_reverse, Ev.runI_len] at *; omega)))); (focus (first | (with_reducible_and_instances assumption) | (with_unfolding_all first | omega | decide | (simp only [List.length_map, List.length_append, List.length_cons, List.length_nil, List.length_replicate, List.length_reverse, Ev.runI_len] at *; omega)))); (focus (first | (with_reducible_and_instances assumption) | (with_unfolding_all first | omega | decide | (simp only [List.length_map, List.length_append, List.length_cons, List.length_nil, List.length_replicate, List.length_reverse, Ev.runI_len] at *; omega)))))
  | (apply wo_mulR; (focus (with_reducible_and_instances assumption)); (focus (first | (with_reducible_and_instances assumption) | (with_unfolding_all first | omega | decide | (simp only [List.length_map, List.length_append, List.length_cons, List.length_nil, List.length_replicate, List.length_reverse, Ev.runI_len] at *; omega)))); (focus (first | (with_reducible_and_instances assumption) | (with_unfolding_all first | omega | decide | (simp only [List.length_map, List.length_append, List.length_cons, List.length_nil, List.length_replicate, List.length_reverse, Ev.runI_len] at *; omega)))); (focus (first | (with_reducible_and_instances assumption) | (with_unfolding_all first | omega | decide | (simp only [List.length_map, List.length_append, List.length_cons, List.length_nil, List.length_replicate, List.length_reverse, Ev.runI_len] at *; omega)))))
  | refine wr_and ?_
  | refine wr_or ?_
  | refine wr_not ?_
  | refine wr_chain ?_
  | refine wr_un ?_
  | refine wt_and ?_
  | refine wt_or ?_
  | refine wt_not ?_
  | refine wt_yes ?_
  | refine wr_slice ?_
  | refine wp_none ?_
  | refine wp_some ?_
  | refine wr_isi ?_
  | refine wr_m ?_
  | refine wr_m0 ?_
  | (apply ism; (focus (first | exact isMT_r (by with_reducible_and_instances assumption) | exact isMT_dK (by with_reducible_and_instances assumption) | (with_unfolding_all rfl))))
  | (apply somep; (focus (first | (with_reducible_and_instances assumption) | exact truU_r (by with_reducible_and_instances assumption) | exact isTy_r (by with_reducible_and_instances assumption) | exact srcA_r (by with_reducible_and_instances assumption) | (with_unfolding_all rfl))))
  | refine wr_lc ?_
  | refine wr_lc2 ?_
  | refine wr_sortedSet ?_
  | refine wr_lenset ?_
  | refine wr_revT ?_
  | refine wr_lstRg ?_
  | refine wr_tupRg ?_
  | refine wr_lstRg2 ?_
  | refine wr_tupRg2 ?_
  | (apply wo_tupRg; (focus (first | (with_reducible_and_instances assumption) | (with_unfolding_all first | omega | decide | (simp only [List.length_map, List.length_append, List.length_cons, List.length_nil, List.length_replicate, List.length_reverse, Ev.runI_len] at *; omega)))); (focus (first | (with_reducible_and_instances assumption) | (with_unfolding_all first | omega | decide | (simp only [List.length_map, List.length_append, List.length_cons, List.length_nil, List.length_replicate, List.length_reverse, Ev.runI_len] at *; omega)))); (focus (first | (with_reducible_and_instances assumption) | (with_unfolding_all first | omega | decide | (simp only [List.length_map, List.length_append, List.length_cons, List.length_nil, List.length_replicate, List.length_reverse, Ev.runI_len] at *; omega)))); (focus (first | (with_reducible_and_instances assumption) | (with_unfolding_all first | omega | decide | (simp only [List.length_map, List.length_append, List.length_cons, List.length_nil, List.length_replicate, List.length_reverse, Ev.runI_len] at *; omega)))); (focus (first | (with_reducible_and_instances assumption) | (with_unfolding_all first | omega | decide | (simp only [List.length_map, List.length_append, List.length_cons, List.length_nil, List.length_replicate, List.length_reverse, Ev.runI_len] at *; omega)))))
  | (apply wo_lstRg; (focus (first | (with_reducible_and_instances assumption) | (with_unfolding_all first | omega | decide | (simp only [List.length_map, List.length_append, List.length_cons, List.length_nil, List.length_replicate, List.length_reverse, Ev.runI_len] at *; omega)))); (focus (first | (with_reducible_and_instances assumption) | (with_unfolding_all first | omega | decide | (simp only [List.length_map, List.length_append, List.length_cons, List.length_nil, List.length_replicate, List.length_reverse, Ev.runI_len] at *; omega)))); (focus (first | (with_reducible_and_instances assumption) | (with_unfolding_all first | omega | decide | (simp only [List.length_map, List.length_append, List.length_cons, List.length_nil, List.length_replicate, List.length_reverse, Ev.runI_len] at *; omega)))); (focus (first | (with_reducible_and_instances assumption) | (with_unfolding_all first | omega | decide | (simp only [List.length_map, List.length_append, List.length_cons, List.length_nil, List.length_replicate, List.length_reverse, Ev.runI_len] at *; omega)))); (focus (first | (with_reducible_and_instances assumption) | (with_unfolding_all first | omega | decide | (simp only [List.length_map, List.length_append, List.length_cons, List.length_nil, List.length_replicate, List.length_reverse, Ev.runI_len] at *; omega)))))
  | refine wi_any ?_
  | refine wi_enum ?_
  | refine wi_zip ?_
  | refine wi_range1 ?_
  | refine wi_range2 ?_
  | refine wi_rev ?_
  | refine wi_revR1 ?_
  | refine ws_for ?_
  | refine ws_fix ?_
  | refine ws_ret ?_
  | refine ws_retN ?_
  | refine ws_expr ?_
  | refine ws_next ?_
  | refine ws_break ?_
  | refine ws_cont ?_
  | refine ws_raise ?_
  | (apply ws_aug; (focus (with_unfolding_all rfl)))
  | refine ws_augS ?_
  | refine ws_par ?_
  | refine ws_par3 ?_
  | (apply wg_tup; (focus (with_unfolding_all rfl)))
  | refine wg_cons ?_
  | refine wg_nil ?_
  | (apply wg_cons'; (focus (with_unfolding_all rfl)))
  | (apply wg_nil'; (focus (with_unfolding_all rfl)))
  | refine wg_sub ?_
  | (apply wo_setL; (focus (with_reducible_and_instances assumption)); (focus (first | (with_reducible_and_instances assumption) | (with_unfolding_all first | omega | decide | (simp only [List.length_map, List.length_append, List.length_cons, List.length_nil, List.length_replicate, List.length_reverse, Ev.runI_len] at *; omega)))); (focus (first | (with_reducible_and_instances assumption) | (with_unfolding_all first | omega | decide | (simp only [List.length_map, List.length_append, List.length_cons, List.length_nil, List.length_replicate, List.length_reverse, Ev.runI_len] at *; omega)))))
  | (apply wo_getL; (focus (with_reducible_and_instances assumption)); (focus (first | (with_reducible_and_instances assumption) | (with_unfolding_all rfl))))
  | refine ifp_T ?_
  | refine ifp_F ?_
  | (apply ifp_t; (focus (first | (with_reducible_and_instances assumption) | rfl | (simp only [Ev.Ty.isL, Ev.Ty.isD, decide_eq_true_eq, decide_eq_false_iff_not, Bool.not_eq_true', Bool.not_eq_false', bne_iff_ne, beq_iff_eq, ne_eq, Bool.and_eq_true, Bool.or_eq_true, List.length_map, List.length_append, List.length_cons, List.length_nil]; done) | (simp only [Ev.Ty.isL, Ev.Ty.isD, decide_eq_true_eq, decide_eq_false_iff_not, Bool.not_eq_true', Bool.not_eq_false', bne_iff_ne, beq_iff_eq, ne_eq, Bool.and_eq_true, Bool.or_eq_true, List.length_map, List.length_append, List.length_cons, List.length_nil]; first | (with_reducible_and_instances assumption) | omega))))
  | (apply ifp_f; (focus (first | (with_reducible_and_instances assumption) | rfl | (simp only [Ev.Ty.isL, Ev.Ty.isD, decide_eq_true_eq, decide_eq_false_iff_not, Bool.not_eq_true', Bool.not_eq_false', bne_iff_ne, beq_iff_eq, ne_eq, Bool.and_eq_true, Bool.or_eq_true, List.length_map, List.length_append, List.length_cons, List.length_nil]; done) | (simp only [Ev.Ty.isL, Ev.Ty.isD, decide_eq_true_eq, decide_eq_false_iff_not, Bool.not_eq_true', Bool.not_eq_false', bne_iff_ne, beq_iff_eq, ne_eq, Bool.and_eq_true, Bool.or_eq_true, List.length_map, List.length_append, List.length_cons, List.length_nil]; first | (with_reducible_and_instances assumption) | omega))))))
-- w
theorem qDD (m : Mem) : eqU m (.str wDrop) (.str wDrop) = some true := by rw [eqU_st (by decide +kernel) (by decide +kernel)]; rfl
theorem qRD (m : Mem) : eqU m (.str wRen) (.str wDrop) = some false := by rw [eqU_st (by decide +kernel) (by decide +kernel)]; rfl
local macro_rules | `(tactic| walk_at "k") => `(tactic| ((repeat (walk_at "w"; first | refine wr_if ?_ | refine wo_eq (evW.1 _) ?_ | refine wo_eq (evW.2.1 _) ?_ | refine wo_eq (evW.2.2.1 _) ?_ | refine wo_eq (evW.2.2.2.1 _) ?_ | refine wo_eq (evW.2.2.2.2.1 _) ?_ | refine wo_eq (evW.2.2.2.2.2.1 _) ?_ | refine wo_eq (evW.2.2.2.2.2.2.1 _) ?_ | refine wo_eq (evW.2.2.2.2.2.2.2.1 _) ?_ | refine wo_eq (qDD _) ?_ | refine wo_eq (qRD _) ?_)); walk_at "w"))
theorem n7_ne (x : Str) (l : List Str) : ((N5 ++ l).filter fun s => decide (s ≠ x)) ≠ [] := fun z => by
  have h1 : ∀ y ∈ N5 ++ l, ¬ decide (y ≠ x) = true := List.filter_eq_nil_iff.mp z
  have ha : st [97] = x := by simpa using h1 (st [97]) (by simp)
  have hb : st [98] = x := by simpa using h1 (st [98]) (by simp)
  have := ha.trans hb.symm
  rw [st_inj] at this; cases this
theorem w_odd (T : Tr) (hT : OkT T) (n c : Nat) (m : Mem) (hw : Well c m) (hm : m[n]? = some (cT T)) (E' : Ex → Mem → Prop) : WR (d_law_odd_deed [.ref c, .ref n] m) (fun u m' => ∃ d, u = dU d ∧ OkD d ∧ Gr c m m') E' := by
  have hc := well_lt hw
  have hnc := ne_well hw hm
  have h7 := hT.len
  have hlen : (sortS (tkeys T)).length = T.length := by rw [(sortS_perm _).length_eq]; simp
  unfold d_law_odd_deed b_law_odd_deed
  refine wr_run rfl ?_
  walk_at "w"
  refine w_names m _ ?_
  intro n1 m1 N1
  walk_at "w"
  refine wo_sortedD (dcK (N1.old hm)) (keysS_dk T) (by rw [List.length_map]; omega) ?_
  intro n2 m2 N2
  have a1 := N2.old N1.at_
  have a2 := N2.at_
  generalize hxs : N5 ++ sortS (tkeys T) = xs
  have hx7 : ∀ x ∈ xs, x ∈ N7 := by
    intro x hx
    rw [← hxs] at hx
    rcases List.mem_append.mp hx with h | h
    · exact n57 h
    · obtain ⟨p, hp, rfl⟩ := List.mem_map.mp (mem_sortS.mp h)
      exact hT.nm p hp
  have hxl : xs.length ≤ 12 := by rw [← hxs, List.length_append, hlen]; simp; omega
  have hxn : xs ≠ [] := by rw [← hxs]; simp
  refine wo_addR a1 a2 (by rw [List.length_map, List.length_map, hlen]; simp; omega) ?_
  intro n3 m3 N3
  rw [← List.map_append, hxs] at N3
  have g3 : Gr c m m3 := (Gr.refl hw).sv0 (((Ev.Sv.nw N1).trans (Ev.Sv.nw N2)).trans (Ev.Sv.nw N3))
  have h3 := N3.at_
  have hn3 : n3 ≠ c := by have := N3.len; have := N2.len; have := N1.len; have := lt_of_at a1; have := lt_of_at a2; have := g3.len; omega
  walk_at "w"
  refine wr_imp (w_givenS c n3 xs hn3 hxn (by omega) m3 g3.well h3 _) ?_
  rintro u m4 ⟨x, rfl, hx, g4⟩
  have hx5 := hx7 x hx
  walk_at "w"
  intro n5 m5 N5'
  walk_at "w"
  refine wr_imp (w_pick c n5 _ (by simp) (by simp) m4 m5 g4.well N5' _) ?_
  rintro u m6 ⟨hu, g6⟩
  have g : Gr c m m6 := (g3.trans g4).trans g6
  have h6 : m6[n3]? = some (cS xs) := g6.get hn3 (g4.get hn3 h3)
  have hm6 := g.get hnc hm
  clear N5' N3 N2 N1 a1 a2 g3 g4 g6 h3 hm hw
  have mx : ∀ z : Int, ∃ y : Int, (if z > 0 then z else 0) = y ∧ 0 ≤ y ∧ (y = z ∨ y = 0) := fun z => ⟨_, rfl, by split <;> omega, by split <;> omega⟩
  simp only [List.mem_cons, List.not_mem_nil, or_false] at hu
  have hcase : u = .str wPut ∨ u = .str wPatch ∨ u = .str wDrop ∨ u = .str wRen := by
    rcases hu with h | h | h | h | h | h
    · exact .inl h
    · exact .inr (.inl h)
    · exact .inr (.inl h)
    · exact .inr (.inr (.inl h))
    · exact .inr (.inr (.inr h))
    · exact .inr (.inr (.inr h))
  clear hu
  rcases hcase with rfl | rfl | rfl | rfl
  · walk_at "k"
    refine wr_imp (w_cells c 5 (by omega) (by omega) m6 g.well _) ?_
    rintro u m7 ⟨l, rfl, hl, hll, g7⟩
    walk_at "k"
    exact ⟨.put x l, rfl, ⟨hx5, hl, by omega⟩, g.trans g7⟩
  · walk_at "k"
    refine wr_dget2 (n := n) (kvs := dkU T) (key := .inr x) ?_
    walk_at "w"
    refine ⟨rfl, hm6, ?_⟩
    walk_at "w"
    refine ⟨rfl, ?_⟩
    walk_at "w"
    refine ⟨hm6, ?_⟩
    rw [valK_dk, getD_tI]
    have hmany : ((tget T x).getD []).length ≤ 996 := by
      cases e : tget T x with
      | none => simp
      | some r => exact (hT.at e).2
    walk_at "w"
    rw [List.length_map]
    generalize ((tget T x).getD []).length = q at *
    obtain ⟨y1, hy1, y10, y11⟩ := mx ((q : Int) - 1)
    intro n7 m7 N7'
    rw [hy1] at N7'
    walk_at "w"
    refine wr_imp (w_pick c n7 _ (by simp) (by simp) m6 m7 g.well N7' _) ?_
    rintro u m8 ⟨hu, g8⟩
    obtain ⟨a, rfl, a0, a1⟩ : ∃ a : Int, u = .int a ∧ 0 ≤ a ∧ a ≤ 997 := by
      simp only [List.mem_cons, List.not_mem_nil, or_false] at hu
      rcases hu with h | h | h | h | h <;> exact ⟨_, h, by omega, by omega⟩
    clear hu
    replace g := g.trans g8
    clear g8 N7' hm6 h6
    walk_at "w"
    obtain ⟨y2, hy2, y20, y21⟩ := mx ((q : Int) - a)
    intro n9 m9 N9
    rw [hy2] at N9
    walk_at "w"
    refine wr_imp (w_pick c n9 _ (by simp) (by simp) m8 m9 g.well N9 _) ?_
    rintro u m10 ⟨hu, g10⟩
    obtain ⟨o, rfl, o0, o1⟩ : ∃ a : Int, u = .int a ∧ 0 ≤ a ∧ a ≤ 998 := by
      simp only [List.mem_cons, List.not_mem_nil, or_false] at hu
      rcases hu with h | h | h | h | h <;> exact ⟨_, h, by omega, by omega⟩
    clear hu
    replace g := g.trans g10
    clear g10 N9
    walk_at "w"
    intro n11 m11 N11
    walk_at "w"
    refine wr_imp (w_pick c n11 _ (by simp) (by simp) m10 m11 g.well N11 _) ?_
    rintro u m12 ⟨hu, g12⟩
    obtain ⟨z, rfl, z0, z1⟩ : ∃ a : Int, u = .int a ∧ 0 ≤ a ∧ a ≤ 48 := by
      simp only [List.mem_cons, List.not_mem_nil, or_false] at hu
      rcases hu with h | h <;> exact ⟨_, h, by omega, by omega⟩
    clear hu
    replace g := g.trans g12
    clear g12 N11
    walk_at "w"
    refine wr_imp (w_cells c z z0 (by omega) m12 g.well _) ?_
    rintro u m13 ⟨l, rfl, hl, hll, g13⟩
    walk_at "w"
    obtain ⟨a', ha', ha2⟩ : ∃ a' : Nat, (a' : Int) = (if 996 < a then 996 else a) ∧ a' ≤ 996 := ⟨(if 996 < a then 996 else a : Int).toNat, by split <;> omega, by split <;> omega⟩
    obtain ⟨o', ho', ho2⟩ : ∃ a' : Nat, (a' : Int) = (if 996 < o then 996 else o) ∧ a' ≤ 996 := ⟨(if 996 < o then 996 else o : Int).toNat, by split <;> omega, by split <;> omega⟩
    refine ⟨.patch x a' o' l, ?_, ⟨hx5, ha2, ho2, hl, by omega⟩, g.trans g13⟩
    show _ = U.tup [.str wPatch, .str x, .int (a' : Int), .int (o' : Int), tI l]
    rw [ha', ho']
  · walk_at "k"
    exact ⟨.drop x, rfl, hx5, g⟩
  · walk_at "k"
    have hfl : (xs.filter fun s => decide (s ≠ x)).length ≤ 12 := Nat.le_trans (List.length_filter_le _ _) hxl
    refine wc_filtDL (l := xs) (f := U.str) h6 [] (by simp) (fun s => decide (s ≠ x)) U.str ?_ ?_
    · intro s hs m7 hS
      walk_at "w"
      refine wo_ne (eqU_s (n5_ok (hx7 s hs)) (n5_ok hx5)) ?_
      walk_at "w"
      refine ⟨by simp, ?_⟩
      refine ⟨fun _ => ?_, fun _ => hS⟩
      walk_at "w"
      exact ⟨rfl, hS⟩
    intro m7 hS7
    walk_at "w"
    intro n8 m8 N8
    walk_at "w"
    have hg8 : Gr c m m8 := (g.sv0 hS7).sv0 (Ev.Sv.nw N8)
    have hn8 : n8 ≠ c := by have := N8.len; have := well_lt (hg8.well); have := well_lt (g.sv0 hS7).well; omega
    refine wr_imp (w_givenS c n8 (xs.filter fun s => decide (s ≠ x)) hn8 (by rw [← hxs]; exact n7_ne x _) (by omega) m8 hg8.well N8.at_ _) ?_
    rintro u m9 ⟨y, rfl, hy, g9⟩
    walk_at "w"
    have hy' := List.mem_filter.mp hy
    exact ⟨.ren x y, rfl, ⟨hx5, hx7 y hy'.1, fun z => by simpa [z] using hy'.2⟩, hg8.trans g9⟩
end My

set_option Elab.async false
set_option linter.all false
set_option maxRecDepth 100000
set_option maxHeartbeats 2000000
namespace My
open PySem L2 Ev RZ RT
local macro_rules | `(tactic| walk_at "ev") => `(tactic| simp (disch := first | assumption | omega | simp; done | (simp only [List.length_map, List.length_append, List.length_cons, List.length_nil, List.length_replicate]; omega)) only [runB_e, List.length_cons, List.length_nil, List.length_map, Nat.reduceAdd, Nat.reduceSub, List.reduceReplicate, List.map_cons, List.map_nil, List.cons_append, List.nil_append, List.append_nil, List.set_cons_zero, List.set_cons_succ, List.getElem?_cons_zero, List.getElem?_cons_succ, evB, evX, evS, evO, evR, evR2, evI, evJ, evD, eqU_s, eqU_vo, valK_dk, Option.map_none,  nums_ints, flat_rep, Option.map_some, List.getElem?_append_left, dSlot_d, oMulG_a, oMulG_b, oMod_e, oTup_e, oLst_e, oList_e, oAdd_t, oMulG_t, eqU_tI, eqU_nil, eqU_i, dk_len, Bool.not_true, Bool.not_false, Bool.false_eq_true, if_true, if_false, if_pos, if_neg, mem_last, mem_setl, mem_mid, mem_setm, at3_0, at3_1, at3_2, ix3_0, ix3_2, decide_eq_true_eq, decide_true, decide_false, and_true, true_and, and_false, false_and, not_true_eq_false, not_false_eq_true, wipeU, *])
local macro_rules | `(tactic| walk_at "w") => `(tactic| with_reducible repeat (first
  | (apply wr_slot; (focus (with_unfolding_all rfl)))
  | refine wr_C ?_
  | refine wl_cons ?_
  | refine wr_op ?_
  | refine wl_nil ?_
  | refine wr_call ?_
  | refine wr_B ?_
  | refine ws_seq ?_
  | refine ws_asg ?_
  | refine wg_name ?_
  | refine wr_tup ?_
  | refine wr_lst ?_
  | refine ws_if ?_
  | refine wt_bl ?_
  | refine wt_tru ?_
  | refine asb ?_
  | refine asi ?_
  | refine two ?_
  | refine three ?_
  | refine tupp ?_
  | refine one ?_
  | refine wo_add ?_
  | refine wo_sub ?_
  | refine wo_iadd ?_
  | refine wo_neg ?_
  | refine wo_lt ?_
  | refine wo_le ?_
  | refine wo_gt ?_
  | refine wo_ge ?_
  | (apply wo_mod; (focus (first | (with_reducible_and_instances assumption) | (with_unfolding_all first | omega | decide | (simp only [List.length_map, List.length_append, List.length_cons, List.length_nil, List.length_replicate, List.length_reverse, Ev.runI_len] at *; omega)))))
  | (apply wo_mulA; (focus (first | (with_reducible_and_instances assumption) | (with_unfolding_all first | omega | decide | (simp only [List.length_map, List.length_append, List.length_cons, List.length_nil, List.length_replicate, List.length_reverse, Ev.runI_len] at *; omega)))); (focus (first | (with_reducible_and_instances assumption) | (with_unfolding_all first | omega | decide | (simp only [List.length_map, List.length_append, List.length_cons, List.length_nil, List.length_replicate, List.length_reverse, Ev.runI_len] at *; omega)))))
  | (apply wo_mulB; (focus (first | (with_reducible_and_instances assumption) | (with_unfolding_all first | omega | decide | (simp only [List.length_map, List.length_append, List.length_cons, List.length_nil, List.length_replicate, List.length_reverse, Ev.runI_len] at *; omega)))); (focus (first | (with_reducible_and_instances assumption) | (with_unfolding_all first | omega | decide | (simp only [List.length_map, List.length_append, List.length_cons, List.length_nil, List.length_replicate, List.length_reverse, Ev.runI_len] at *; omega)))))
  | (apply wo_div'; (focus (first | (with_reducible_and_instances assumption) | (with_unfolding_all first | omega | decide | (simp only [List.length_map, List.length_append, List.length_cons, List.length_nil, List.length_replicate, List.length_reverse, Ev.runI_len] at *; omega)))); (focus (first | (with_reducible_and_instances assumption) | (with_unfolding_all first | omega | decide | (simp only [List.length_map, List.length_append, List.length_cons, List.length_nil, List.length_replicate, List.length_reverse, Ev.runI_len] at *; omega)))))
  | (apply wo_eq; (focus (first | (with_reducible_and_instances assumption) | (with_unfolding_all first | exact eqU_i _ _ _ | exact eqU_tI _ _ _ | exact eqU_nil _ _) | exact eqU_rr (by with_reducible_and_instances assumption) (by with_reducible_and_instances assumption))))
  | (apply wo_ne; (focus (first | (with_reducible_and_instances assumption) | (with_unfolding_all first | exact eqU_i _ _ _ | exact eqU_tI _ _ _ | exact eqU_nil _ _) | exact eqU_rr (by with_reducible_and_instances assumption) (by with_reducible_and_instances assumption))))
  | refine wo_lenT ?_
  | (apply wo_lenR; (focus (with_reducible_and_instances assumption)))
  | refine wo_lenRol ?_
  | refine wo_intI ?_
  | refine wo_intB ?_
  | refine wo_abs ?_
  | refine wo_max2 ?_
  | refine wo_min2 ?_
  | (apply wo_tup; (focus (first | (with_reducible_and_instances assumption) | (with_unfolding_all first | omega | decide | (simp only [List.length_map, List.length_append, List.length_cons, List.length_nil, List.length_replicate, List.length_reverse, Ev.runI_len] at *; omega)))))
  | (apply wo_lst; (focus (first | (with_reducible_and_instances assumption) | (with_unfolding_all first | omega | decide | (simp only [List.length_map, List.length_append, List.length_cons, List.length_nil, List.length_replicate, List.length_reverse, Ev.runI_len] at *; omega)))))
  | refine wo_tupT ?_
  | (apply wo_tupR; (focus (with_reducible_and_instances assumption)))
  | refine wo_lstT ?_
  | refine wo_lstRol ?_
  | (apply wo_lstR; (focus (with_reducible_and_instances assumption)))
  | (apply wo_ixT; (focus (first | (with_reducible_and_instances assumption) | (with_unfolding_all rfl))))
  | (apply wo_ixRol; (focus (first | (with_reducible_and_instances assumption) | (with_unfolding_all rfl))))
  | (apply wo_ixR; (focus (with_reducible_and_instances assumption)); (focus (first | (with_reducible_and_instances assumption) | (with_unfolding_all rfl))))
  | (apply wo_addT; (focus (first | (with_reducible_and_instances assumption) | (with_unfolding_all first | omega | decide | (simp only [List.length_map, List.length_append, List.length_cons, List.length_nil, List.length_replicate, List.length_reverse, Ev.runI_len] at *; omega)))))
  | (apply wo_addR; (focus (with_reducible_and_instances assumption)); (focus (with_reducible_and_instances assumption)); (focus (first | (with_reducible_and_instances assumption) | (with_unfolding_all first | omega | decide | (simp only [List.length_map, List.length_append, List.length_cons, List.length_nil, List.length_replicate, List.length_reverse, Ev.runI_len] at *; omega)))))
  | refine wo_sliceT ?_
  | (apply wo_sliceR; (focus (with_reducible_and_instances assumption)))
  | (apply wo_append; (focus (with_reducible_and_instances assumption)); (focus (first | (with_reducible_and_instances assumption) | (with_unfolding_all first | omega | decide | (simp only [List.length_map, List.length_append, List.length_cons, List.length_nil, List.length_replicate, List.length_reverse, Ev.runI_len] at *; omega)))))
  | (apply wo_extend; (focus (with_reducible_and_instances assumption)); (focus (with_reducible_and_instances assumption)); (focus (first | (with_reducible_and_instances assumption) | (with_unfolding_all first | omega | decide | (simp only [List.length_map, List.length_append, List.length_cons, List.length_nil, List.length_replicate, List.length_reverse, Ev.runI_len] at *; omega)))))
  | (apply wo_mulT; (focus (first | (with_reducible_and_instances assumption) | (with_unfolding_all first | omega | decide | (simp only [List.length_map, List.length_append, List.length_cons, List.length_nil, List.length_replicate, List.length_reverse, Ev.runI_len] at *; omega)))); (focus (first | (with_reducible_and_instances assumption) | (with_unfolding_all first | omega | decide | (simp only [List.length_map, List.length_append, List.length_cons, List.length_nil, List.length_replicate, List.length_reverse, Ev.runI_len] at *; omega)))); (focus (first | (with_reducible_and_instances assumption) | (with_unfolding_all first | omega | decide | (simp only [List.length_map, List.length_append, List.length_cons, List.length_nil, List.length_replicate, List.length_reverse, Ev.runI_len] at *; omega)))))
  | (apply wo_mulR; (focus (with_reducible_and_instances assumption)); (focus (first | (with_reducible_and_instances assumption) | (with_unfolding_all first | omega | decide | (simp only [List.length_map, List.length_append, List.length_cons, List.length_nil, List.length_replicate, List.length_reverse, Ev.runI_len] at *; omega)))); (focus (first | (with_reducible_and_instances assumption) | (with_unfolding_all first | omega | decide | (simp only [List.length_map, List.length_append, List.length_cons, List.length_nil, List.length_replicate, List.length_reverse, Ev.runI_len] at *; omega)))); (focus (first | (with_reducible_and_instances assumption) | (with_unfolding_all first | omega | decide | (simp only [List.length_map, List.length_append, List.length_cons, List.length_nil, List.length_replicate, List.length_reverse, Ev.runI_len] at *; omega)))))
  | refine wr_and ?_
  | refine wr_or ?_
  | refine wr_not ?_
  | refine wr_chain ?_
  | refine wr_un ?_
  | refine wt_and ?_
  | refine wt_or ?_
  | refine wt_not ?_
  | refine wt_yes ?_
  | refine wr_slice ?_
  | refine wp_none ?_
  | refine wp_some ?_
  | refine wr_isi ?_
  | refine wr_m ?_
  | refine wr_m0 ?_
  | (apply ism; (focus (first | exact isMT_r (by with_reducible_and_instances assumption) | exact isMT_dK (by with_reducible_and_instances assumption) | (with_unfolding_all rfl))))
  | (apply somep; (focus (first | (with_reducible_and_instances assumption) | exact truU_r (by with_reducible_and_instances assumption) | exact isTy_r (by with_reducible_and_instances assumption) | exact srcA_r (by with_reducible_and_instances assumption) | (with_unfolding_all rfl))))
  | refine wr_lc ?_
  | refine wr_lc2 ?_
  | refine wr_sortedSet ?_
  | refine wr_lenset ?_
  | refine wr_revT ?_
  | refine wr_lstRg ?_
  | refine wr_tupRg ?_
  | refine wr_lstRg2 ?_
  | refine wr_tupRg2 ?_
  | (apply wo_tupRg; (focus (first | (with_reducible_and_instances assumption) | (with_unfolding_all first | omega | decide | (simp only [List.length_map, List.length_append, List.length_cons, List.length_nil, List.length_replicate, List.length_reverse, Ev.runI_len] at *; omega)))); (focus (first | (with_reducible_and_instances assumption) | (with_unfolding_all first | omega | decide | (simp only [List.length_map, List.length_append, List.length_cons, List.length_nil, List.length_replicate, List.length_reverse, Ev.runI_len] at *; omega)))); (focus (first | (with_reducible_and_instances assumption) | (with_unfolding_all first | omega | decide | (simp only [List.length_map, List.length_append, List.length_cons, List.length_nil, List.length_replicate, List.length_reverse, Ev.runI_len] at *; omega)))); (focus (first | (with_reducible_and_instances assumption) | (with_unfolding_all first | omega | decide | (simp only [List.length_map, List.length_append, List.length_cons, List.length_nil, List.length_replicate, List.length_reverse, Ev.runI_len] at *; omega)))); (focus (first | (with_reducible_and_instances assumption) | (with_unfolding_all first | omega | decide | (simp only [List.length_map, List.length_append, List.length_cons, List.length_nil, List.length_replicate, List.length_reverse, Ev.runI_len] at *; omega)))))
  | (apply wo_lstRg; (focus (first | (with_reducible_and_instances assumption) | (with_unfolding_all first | omega | decide | (simp only [List.length_map, List.length_append, List.length_cons, List.length_nil, List.length_replicate, List.length_reverse, Ev.runI_len] at *; omega)))); (focus (first | (with_reducible_and_instances assumption) | (with_unfolding_all first | omega | decide | (simp only [List.length_map, List.length_append, List.length_cons, List.length_nil, List.length_replicate, List.length_reverse, Ev.runI_len] at *; omega)))); (focus (first | (with_reducible_and_instances assumption) | (with_unfolding_all first | omega | decide | (simp only [List.length_map, List.length_append, List.length_cons, List.length_nil, List.length_replicate, List.length_reverse, Ev.runI_len] at *; omega)))); (focus (first | (with_reducible_and_instances assumption) | (with_unfolding_all first | omega | decide | (simp only [List.length_map, List.length_append, List.length_cons, List.length_nil, List.length_replicate, List.length_reverse, Ev.runI_len] at *; omega)))); (focus (first | (with_reducible_and_instances assumption) | (with_unfolding_all first | omega | decide | (simp only [List.length_map, List.length_append, List.length_cons, List.length_nil, List.length_replicate, List.length_reverse, Ev.runI_len] at *; omega)))))
  | refine wi_any ?_
  | refine wi_enum ?_
  | refine wi_zip ?_
  | refine wi_range1 ?_
  | refine wi_range2 ?_
  | refine wi_rev ?_
  | refine wi_revR1 ?_
  | refine ws_for ?_
  | refine ws_fix ?_
  | refine ws_ret ?_
  | refine ws_retN ?_
  | refine ws_expr ?_
  | refine ws_next ?_
  | refine ws_break ?_
  | refine ws_cont ?_
  | refine ws_raise ?_
  | (apply ws_aug; (focus (with_unfolding_all rfl)))
  | refine ws_augS ?_
  | refine ws_par ?_
  | refine ws_par3 ?_
  | (apply wg_tup; (focus (with_unfolding_all rfl)))
  | refine wg_cons ?_
  | refine wg_nil ?_
  | (apply wg_cons'; (focus (with_unfolding_all rfl)))
  | (apply wg_nil'; (focus (with_unfolding_all rfl)))
  | refine wg_sub ?_
  | (apply wo_setL; (focus (with_reducible_and_instances assumption)); (focus (first | (with_reducible_and_instances assumption) | (with_unfolding_all first | omega | decide | (simp only [List.length_map, List.length_append, List.length_cons, List.length_nil, List.length_replicate, List.length_reverse, Ev.runI_len] at *; omega)))); (focus (first | (with_reducible_and_instances assumption) | (with_unfolding_all first | omega | decide | (simp only [List.length_map, List.length_append, List.length_cons, List.length_nil, List.length_replicate, List.length_reverse, Ev.runI_len] at *; omega)))))
  | (apply wo_getL; (focus (with_reducible_and_instances assumption)); (focus (first | (with_reducible_and_instances assumption) | (with_unfolding_all rfl))))
  | refine ifp_T ?_
  | refine ifp_F ?_
  | (apply ifp_t; (focus (first | (with_reducible_and_instances assumption) | rfl | (simp only [Ev.Ty.isL, Ev.Ty.isD, decide_eq_true_eq, decide_eq_false_iff_not, Bool.not_eq_true', Bool.not_eq_false', bne_iff_ne, beq_iff_eq, ne_eq, Bool.and_eq_true, Bool.or_eq_true, List.length_map, List.length_append, List.length_cons, List.length_nil]; done) | (simp only [Ev.Ty.isL, Ev.Ty.isD, decide_eq_true_eq, decide_eq_false_iff_not, Bool.not_eq_true', Bool.not_eq_false', bne_iff_ne, beq_iff_eq, ne_eq, Bool.and_eq_true, Bool.or_eq_true, List.length_map, List.length_append, List.length_cons, List.length_nil]; first | (with_reducible_and_instances assumption) | omega))))
  | (apply ifp_f; (focus (first | (with_reducible_and_instances assumption) | rfl | (simp only [Ev.Ty.isL, Ev.Ty.isD, decide_eq_true_eq, decide_eq_false_iff_not, Bool.not_eq_true', Bool.not_eq_false', bne_iff_ne, beq_iff_eq, ne_eq, Bool.and_eq_true, Bool.or_eq_true, List.length_map, List.length_append, List.length_cons, List.length_nil]; done) | (simp only [Ev.Ty.isL, Ev.Ty.isD, decide_eq_true_eq, decide_eq_false_iff_not, Bool.not_eq_true', Bool.not_eq_false', bne_iff_ne, beq_iff_eq, ne_eq, Bool.and_eq_true, Bool.or_eq_true, List.length_map, List.length_append, List.length_cons, List.length_nil]; first | (with_reducible_and_instances assumption) | omega))))))
-- w
theorem keeps_w (m : Mem) : ∀ w ∈ [wGone, wPlace, wLong, wThere], ∀ x ∈ N7, keeps m (tS [w, x]) = true := by
  have h : ∀ w ∈ [wGone, wPlace, wLong, wThere], ∀ x ∈ N7, (showOk (.tuple ([w, x].map .str)) && decide ((PyData.tuple ([w, x].map .str)).shown.length + 100 ≤ sizeLine)) = true := by decide +kernel
  intro w hw x hx
  unfold keeps
  rw [dat_tS]
  exact h w hw x hx
theorem rf_form {g : Str → Option (List Int)} {d : Dd} (h : OkD d) {l : List Str} (hl : rf g d = some l) : ∃ w ∈ [wGone, wPlace, wLong, wThere], ∃ x ∈ N7, l = [w, x] := by
  cases d with
  | put n c => cases hl
  | patch n a o c =>
    rw [rf] at hl
    split at hl
    · cases hl; exact ⟨wGone, by simp, n, h.1, rfl⟩
    · split at hl
      · cases hl; exact ⟨wPlace, by simp, n, h.1, rfl⟩
      · split at hl
        · cases hl; exact ⟨wLong, by simp, n, h.1, rfl⟩
        · cases hl
  | drop n =>
    rw [rf] at hl
    split at hl
    · cases hl; exact ⟨wGone, by simp, n, h, rfl⟩
    · cases hl
  | ren n k =>
    rw [rf] at hl
    split at hl
    · cases hl; exact ⟨wGone, by simp, n, h.1, rfl⟩
    · split at hl
      · cases hl; exact ⟨wThere, by simp, k, h.2.1, rfl⟩
      · cases hl
theorem w_done (T : Tr) (hT : OkT T) (n : Nat) (d : Dd) (h : OkD d) (m : Mem) (hm : m[n]? = some (cT T)) : WR (d_done [.ref n, dU d] m) (fun u m' => rf (tget T) d = none ∧ (∃ k, u = .ref k ∧ m'[k]? = some (cT (sortT (actT T d)))) ∧ Ev.Sv [] m m') (fun x m' => x.cls = 3 ∧ ∃ l, rf (tget T) d = some l ∧ x.val = some (("reason" : PySem.Str), tS l) ∧ Ev.Sv [] m m') := by
  cases hr : rf (tget T) d with
  | none =>
    obtain ⟨k, t, e, hk⟩ := p_done T hT n d h hr m hm
    exact wr_eq e ⟨rfl, ⟨k, rfl, hk⟩, Ev.Sv.app _ _⟩
  | some l =>
    obtain ⟨w, hw, x, hx, hl⟩ := rf_form h hr
    unfold d_done b_done
    refine wr_run rfl ?_
    walk_at "w"
    refine wr_imp (w_refusal T hT n d h m hm _) ?_
    rintro u m1 ⟨rfl, hS⟩
    rw [hr, show rsU (some l) = tS l from rfl]
    walk_at "w"
    refine wo_notN (fun v h => by cases h) ?_
    walk_at "w"
    refine ifp_t rfl ?_
    refine ws_raiseV ?_
    walk_at "w"
    exact ⟨by rw [hl]; exact keeps_w m1 w hw x hx, rfl, l, rfl, rfl, hS⟩
theorem w_refused (T : Tr) (hT : OkT T) (n : Nat) (d : Dd) (h : OkD d) (m : Mem) (hm : m[n]? = some (cT T)) (E' : Ex → Mem → Prop) : WR (d_law_refused [.ref n, dU d] m) (fun u m' => u = rsU (rf (tget T) d) ∧ Ev.Sv [] m m') E' := by
  unfold d_law_refused b_law_refused
  refine wr_run rfl ?_
  walk_at "w"
  refine ws_tryR ?_
  walk_at "w"
  refine wr_imp2 (w_done T hT n d h m hm) ?_ ?_
  · rintro u m1 ⟨hr, _, hS⟩
    walk_at "w"
    exact ⟨by rw [hr]; rfl, hS⟩
  · rintro x m1 ⟨hc, l, hr, hv, hS⟩
    refine .inr ⟨by rw [hc]; rfl, tS l, hv, by simp, ?_, hS⟩
    rw [hr]; rfl
end My

set_option Elab.async false
set_option linter.all false
set_option maxRecDepth 100000
set_option maxHeartbeats 2000000
namespace My
open PySem L2 Ev RZ RT
local macro_rules | `(tactic| walk_at "ev") => `(tactic| simp (disch := first | assumption | omega | simp; done | (simp only [List.length_map, List.length_append, List.length_cons, List.length_nil, List.length_replicate]; omega)) only [runB_e, List.length_cons, List.length_nil, List.length_map, Nat.reduceAdd, Nat.reduceSub, List.reduceReplicate, List.map_cons, List.map_nil, List.cons_append, List.nil_append, List.append_nil, List.set_cons_zero, List.set_cons_succ, List.getElem?_cons_zero, List.getElem?_cons_succ, evB, evX, evS, evO, evR, evR2, evI, evJ, evD, eqU_s, eqU_vo, valK_dk, Option.map_none,  nums_ints, flat_rep, Option.map_some, List.getElem?_append_left, dSlot_d, oMulG_a, oMulG_b, oMod_e, oTup_e, oLst_e, oList_e, oAdd_t, oMulG_t, eqU_tI, eqU_nil, eqU_i, dk_len, Bool.not_true, Bool.not_false, Bool.false_eq_true, if_true, if_false, if_pos, if_neg, mem_last, mem_setl, mem_mid, mem_setm, at3_0, at3_1, at3_2, ix3_0, ix3_2, decide_eq_true_eq, decide_true, decide_false, and_true, true_and, and_false, false_and, not_true_eq_false, not_false_eq_true, wipeU, *])
local macro_rules | `(tactic| walk_at "w") => `(tactic| with_reducible repeat (first
  | (apply wr_slot; (focus (with_unfolding_all rfl)))
  | refine wr_C ?_
  | refine wl_cons ?_
  | refine wr_op ?_
  | refine wl_nil ?_
  | refine wr_call ?_
  | refine wr_B ?_
  | refine ws_seq ?_
  | refine ws_asg ?_
  | refine wg_name ?_
  | refine wr_tup ?_
  | refine wr_lst ?_
  | refine ws_if ?_
  | refine wt_bl ?_
  | refine wt_tru ?_
  | refine asb ?_
  | refine asi ?_
  | refine two ?_
  | refine three ?_
  | refine tupp ?_
  | refine one ?_
  | refine wo_add ?_
  | refine wo_sub ?_
  | refine wo_iadd ?_
  | refine wo_neg ?_
  | refine wo_lt ?_
  | refine wo_le ?_
  | refine wo_gt ?_
  | refine wo_ge ?_
  | (apply wo_mod; (focus (first | (with_reducible_and_instances assumption) | (with_unfolding_all first | omega | decide | (simp only [List.length_map, List.length_append, List.length_cons, List.length_nil, List.length_replicate, List.length_reverse, Ev.runI_len] at *; omega)))))
  | (apply wo_mulA; (focus (first | (with_reducible_and_instances assumption) | (with_unfolding_all first | omega | decide | (simp only [List.length_map, List.length_append, List.length_cons, List.length_nil, List.length_replicate, List.length_reverse, Ev.runI_len] at *; omega)))); (focus (first | (with_reducible_and_instances assumption) | (with_unfolding_all first | omega | decide | (simp only [List.length_map, List.length_append, List.length_cons, List.length_nil, List.length_replicate, List.length_reverse, Ev.runI_len] at *; omega)))))
  | (apply wo_mulB; (focus (first | (with_reducible_and_instances assumption) | (with_unfolding_all first | omega | decide | (simp only [List.length_map, List.length_append, List.length_cons, List.length_nil, List.length_replicate, List.length_reverse, Ev.runI_len] at *; omega)))); (focus (first | (with_reducible_and_instances assumption) | (with_unfolding_all first | omega | decide | (simp only [List.length_map, List.length_append, List.length_cons, List.length_nil, List.length_replicate, List.length_reverse, Ev.runI_len] at *; omega)))))
  | (apply wo_div'; (focus (first | (with_reducible_and_instances assumption) | (with_unfolding_all first | omega | decide | (simp only [List.length_map, List.length_append, List.length_cons, List.length_nil, List.length_replicate, List.length_reverse, Ev.runI_len] at *; omega)))); (focus (first | (with_reducible_and_instances assumption) | (with_unfolding_all first | omega | decide | (simp only [List.length_map, List.length_append, List.length_cons, List.length_nil, List.length_replicate, List.length_reverse, Ev.runI_len] at *; omega)))))
  | (apply wo_eq; (focus (first | (with_reducible_and_instances assumption) | (with_unfolding_all first | exact eqU_i _ _ _ | exact eqU_tI _ _ _ | exact eqU_nil _ _) | exact eqU_rr (by with_reducible_and_instances assumption) (by with_reducible_and_instances assumption))))
  | (apply wo_ne; (focus (first | (with_reducible_and_instances assumption) | (with_unfolding_all first | exact eqU_i _ _ _ | exact eqU_tI _ _ _ | exact eqU_nil _ _) | exact eqU_rr (by with_reducible_and_instances assumption) (by with_reducible_and_instances assumption))))
  | refine wo_lenT ?_
  | (apply wo_lenR; (focus (with_reducible_and_instances assumption)))
  | refine wo_lenRol ?_
  | refine wo_intI ?_
  | refine wo_intB ?_
  | refine wo_abs ?_
  | refine wo_max2 ?_
  | refine wo_min2 ?_
  | (apply wo_tup; (focus (first | (with_reducible_and_instances assumption) | (with_unfolding_all first | omega | decide | (simp only [List.length_map, List.length_append, List.length_cons, List.length_nil, List.length_replicate, List.length_reverse, Ev.runI_len] at *; omega)))))
  | (apply wo_lst; (focus (first | (with_reducible_and_instances assumption) | (with_unfolding_all first | omega | decide | (simp only [List.length_map, List.length_append, List.length_cons, List.length_nil, List.length_replicate, List.length_reverse, Ev.runI_len] at *; omega)))))
  | refine wo_tupT ?_
  | (apply wo_tupR; (focus (with_reducible_and_instances assumption)))
  | refine wo_lstT ?_
  | refine wo_lstRol ?_
  | (apply wo_lstR; (focus (with_reducible_and_instances assumption)))
  | (apply wo_ixT; (focus (first | (with_reducible_and_instances assumption) | (with_unfolding_all rfl))))
  | (apply wo_ixRol; (focus (first | (with_reducible_and_instances assumption) | (with_unfolding_all rfl))))
  | (apply wo_ixR; (focus (with_reducible_and_instances assumption)); (focus (first | (with_reducible_and_instances assumption) | (with_unfolding_all rfl))))
  | (apply wo_addT; (focus (first | (with_reducible_and_instances assumption) | (with_unfolding_all first | omega | decide | (simp only [List.length_map, List.length_append, List.length_cons, List.length_nil, List.length_replicate, List.length_reverse, Ev.runI_len] at *; omega)))))
  | (apply wo_addR; (focus (with_reducible_and_instances assumption)); (focus (with_reducible_and_instances assumption)); (focus (first | (with_reducible_and_instances assumption) | (with_unfolding_all first | omega | decide | (simp only [List.length_map, List.length_append, List.length_cons, List.length_nil, List.length_replicate, List.length_reverse, Ev.runI_len] at *; omega)))))
  | refine wo_sliceT ?_
  | (apply wo_sliceR; (focus (with_reducible_and_instances assumption)))
  | (apply wo_append; (focus (with_reducible_and_instances assumption)); (focus (first | (with_reducible_and_instances assumption) | (with_unfolding_all first | omega | decide | (simp only [List.length_map, List.length_append, List.length_cons, List.length_nil, List.length_replicate, List.length_reverse, Ev.runI_len] at *; omega)))))
  | (apply wo_extend; (focus (with_reducible_and_instances assumption)); (focus (with_reducible_and_instances assumption)); (focus (first | (with_reducible_and_instances assumption) | (with_unfolding_all first | omega | decide | (simp only [List.length_map, List.length_append, List.length_cons, List.length_nil, List.length_replicate, List.length_reverse, Ev.runI_len] at *; omega)))))
  | (apply wo_mulT; (focus (first | (with_reducible_and_instances assumption) | (with_unfolding_all first | omega | decide | (simp only [List.length_map, List.length_append, List.length_cons, List.length_nil, List.length_replicate, List.length_reverse, Ev.runI_len] at *; omega)))); (focus (first | (with_reducible_and_instances assumption) | (with_unfolding_all first | omega | decide | (simp only [List.length_map, List.length_append, List.length_cons, List.length_nil, List.length_replicate, List.length_reverse, Ev.runI_len] at *; omega)))); (focus (first | (with_reducible_and_instances assumption) | (with_unfolding_all first | omega | decide | (simp only [List.length_map, List.length_append, List.length_cons, List.length_nil, List.length_replicate, List.length_reverse, Ev.runI_len] at *; omega)))))
  | (apply wo_mulR; (focus (with_reducible_and_instances assumption)); (focus (first | (with_reducible_and_instances assumption) | (with_unfolding_all first | omega | decide | (simp only [List.length_map, List.length_append, List.length_cons, List.length_nil, List.length_replicate, List.length_reverse, Ev.runI_len] at *; omega)))); (focus (first | (with_reducible_and_instances assumption) | (with_unfolding_all first | omega | decide | (simp only [List.length_map, List.length_append, List.length_cons, List.length_nil, List.length_replicate, List.length_reverse, Ev.runI_len] at *; omega)))); (focus (first | (with_reducible_and_instances assumption) | (with_unfolding_all first | omega | decide | (simp only [List.length_map, List.length_append, List.length_cons, List.length_nil, List.length_replicate, List.length_reverse, Ev.runI_len] at *; omega)))))
  | refine wr_and ?_
  | refine wr_or ?_
  | refine wr_not ?_
  | refine wr_chain ?_
  | refine wr_un ?_
  | refine wt_and ?_
  | refine wt_or ?_
  | refine wt_not ?_
  | refine wt_yes ?_
  | refine wr_slice ?_
  | refine wp_none ?_
  | refine wp_some ?_
  | refine wr_isi ?_
  | refine wr_m ?_
  | refine wr_m0 ?_
  | (apply ism; (focus (first | exact isMT_r (by with_reducible_and_instances assumption) | exact isMT_dK (by with_reducible_and_instances assumption) | (with_unfolding_all rfl))))
  | (apply somep; (focus (first | (with_reducible_and_instances assumption) | exact truU_r (by with_reducible_and_instances assumption) | exact isTy_r (by with_reducible_and_instances assumption) | exact srcA_r (by with_reducible_and_instances assumption) | (with_unfolding_all rfl))))
  | refine wr_lc ?_
  | refine wr_lc2 ?_
  | refine wr_sortedSet ?_
  | refine wr_lenset ?_
  | refine wr_revT ?_
  | refine wr_lstRg ?_
  | refine wr_tupRg ?_
  | refine wr_lstRg2 ?_
  | refine wr_tupRg2 ?_
  | (apply wo_tupRg; (focus (first | (with_reducible_and_instances assumption) | (with_unfolding_all first | omega | decide | (simp only [List.length_map, List.length_append, List.length_cons, List.length_nil, List.length_replicate, List.length_reverse, Ev.runI_len] at *; omega)))); (focus (first | (with_reducible_and_instances assumption) | (with_unfolding_all first | omega | decide | (simp only [List.length_map, List.length_append, List.length_cons, List.length_nil, List.length_replicate, List.length_reverse, Ev.runI_len] at *; omega)))); (focus (first | (with_reducible_and_instances assumption) | (with_unfolding_all first | omega | decide | (simp only [List.length_map, List.length_append, List.length_cons, List.length_nil, List.length_replicate, List.length_reverse, Ev.runI_len] at *; omega)))); (focus (first | (with_reducible_and_instances assumption) | (with_unfolding_all first | omega | decide | (simp only [List.length_map, List.length_append, List.length_cons, List.length_nil, List.length_replicate, List.length_reverse, Ev.runI_len] at *; omega)))); (focus (first | (with_reducible_and_instances assumption) | (with_unfolding_all first | omega | decide | (simp only [List.length_map, List.length_append, List.length_cons, List.length_nil, List.length_replicate, List.length_reverse, Ev.runI_len] at *; omega)))))
  | (apply wo_lstRg; (focus (first | (with_reducible_and_instances assumption) | (with_unfolding_all first | omega | decide | (simp only [List.length_map, List.length_append, List.length_cons, List.length_nil, List.length_replicate, List.length_reverse, Ev.runI_len] at *; omega)))); (focus (first | (with_reducible_and_instances assumption) | (with_unfolding_all first | omega | decide | (simp only [List.length_map, List.length_append, List.length_cons, List.length_nil, List.length_replicate, List.length_reverse, Ev.runI_len] at *; omega)))); (focus (first | (with_reducible_and_instances assumption) | (with_unfolding_all first | omega | decide | (simp only [List.length_map, List.length_append, List.length_cons, List.length_nil, List.length_replicate, List.length_reverse, Ev.runI_len] at *; omega)))); (focus (first | (with_reducible_and_instances assumption) | (with_unfolding_all first | omega | decide | (simp only [List.length_map, List.length_append, List.length_cons, List.length_nil, List.length_replicate, List.length_reverse, Ev.runI_len] at *; omega)))); (focus (first | (with_reducible_and_instances assumption) | (with_unfolding_all first | omega | decide | (simp only [List.length_map, List.length_append, List.length_cons, List.length_nil, List.length_replicate, List.length_reverse, Ev.runI_len] at *; omega)))))
  | refine wi_any ?_
  | refine wi_enum ?_
  | refine wi_zip ?_
  | refine wi_range1 ?_
  | refine wi_range2 ?_
  | refine wi_rev ?_
  | refine wi_revR1 ?_
  | refine ws_for ?_
  | refine ws_fix ?_
  | refine ws_ret ?_
  | refine ws_retN ?_
  | refine ws_expr ?_
  | refine ws_next ?_
  | refine ws_break ?_
  | refine ws_cont ?_
  | refine ws_raise ?_
  | (apply ws_aug; (focus (with_unfolding_all rfl)))
  | refine ws_augS ?_
  | refine ws_par ?_
  | refine ws_par3 ?_
  | (apply wg_tup; (focus (with_unfolding_all rfl)))
  | refine wg_cons ?_
  | refine wg_nil ?_
  | (apply wg_cons'; (focus (with_unfolding_all rfl)))
  | (apply wg_nil'; (focus (with_unfolding_all rfl)))
  | refine wg_sub ?_
  | (apply wo_setL; (focus (with_reducible_and_instances assumption)); (focus (first | (with_reducible_and_instances assumption) | (with_unfolding_all first | omega | decide | (simp only [List.length_map, List.length_append, List.length_cons, List.length_nil, List.length_replicate, List.length_reverse, Ev.runI_len] at *; omega)))); (focus (first | (with_reducible_and_instances assumption) | (with_unfolding_all first | omega | decide | (simp only [List.length_map, List.length_append, List.length_cons, List.length_nil, List.length_replicate, List.length_reverse, Ev.runI_len] at *; omega)))))
  | (apply wo_getL; (focus (with_reducible_and_instances assumption)); (focus (first | (with_reducible_and_instances assumption) | (with_unfolding_all rfl))))
  | refine ifp_T ?_
  | refine ifp_F ?_
  | (apply ifp_t; (focus (first | (with_reducible_and_instances assumption) | rfl | (simp only [Ev.Ty.isL, Ev.Ty.isD, decide_eq_true_eq, decide_eq_false_iff_not, Bool.not_eq_true', Bool.not_eq_false', bne_iff_ne, beq_iff_eq, ne_eq, Bool.and_eq_true, Bool.or_eq_true, List.length_map, List.length_append, List.length_cons, List.length_nil]; done) | (simp only [Ev.Ty.isL, Ev.Ty.isD, decide_eq_true_eq, decide_eq_false_iff_not, Bool.not_eq_true', Bool.not_eq_false', bne_iff_ne, beq_iff_eq, ne_eq, Bool.and_eq_true, Bool.or_eq_true, List.length_map, List.length_append, List.length_cons, List.length_nil]; first | (with_reducible_and_instances assumption) | omega))))
  | (apply ifp_f; (focus (first | (with_reducible_and_instances assumption) | rfl | (simp only [Ev.Ty.isL, Ev.Ty.isD, decide_eq_true_eq, decide_eq_false_iff_not, Bool.not_eq_true', Bool.not_eq_false', bne_iff_ne, beq_iff_eq, ne_eq, Bool.and_eq_true, Bool.or_eq_true, List.length_map, List.length_append, List.length_cons, List.length_nil]; done) | (simp only [Ev.Ty.isL, Ev.Ty.isD, decide_eq_true_eq, decide_eq_false_iff_not, Bool.not_eq_true', Bool.not_eq_false', bne_iff_ne, beq_iff_eq, ne_eq, Bool.and_eq_true, Bool.or_eq_true, List.length_map, List.length_append, List.length_cons, List.length_nil]; first | (with_reducible_and_instances assumption) | omega))))))
-- w
theorem rf_len {g h : Str → Option (List Int)} {d : Dd} (e : ∀ x ∈ nms d, (g x).map List.length = (h x).map List.length) : rf g d = rf h d := by
  have key : ∀ x ∈ nms d, (g x = none ∧ h x = none) ∨ ∃ v w, g x = some v ∧ h x = some w ∧ v.length = w.length := by
    intro x hx
    have := e x hx
    cases hg : g x with
    | none =>
      cases hh : h x with
      | none => exact .inl ⟨rfl, rfl⟩
      | some w => rw [hg, hh] at this; cases this
    | some v =>
      cases hh : h x with
      | none => rw [hg, hh] at this; cases this
      | some w => rw [hg, hh] at this; exact .inr ⟨v, w, rfl, rfl, Option.some.inj this⟩
  cases d with
  | put n c => rfl
  | patch n a o c =>
    rcases key n (by simp [nms]) with ⟨h1, h2⟩ | ⟨v, w, h1, h2, h3⟩
    · simp only [rf, h1, h2]
    · simp only [rf, h1, h2, h3]
  | drop n =>
    rcases key n (by simp [nms]) with ⟨h1, h2⟩ | ⟨v, w, h1, h2, h3⟩
    · simp only [rf, h1, h2]
    · simp only [rf, h1, h2]
  | ren n k =>
    rcases key n (by simp [nms]) with ⟨h1, h2⟩ | ⟨v, w, h1, h2, h3⟩
    · simp only [rf, h1, h2]
    · rcases key k (by simp [nms]) with ⟨h4, h5⟩ | ⟨v', w', h4, h5, h6⟩
      · simp only [rf, h1, h2, h4, h5]
      · simp only [rf, h1, h2, h4, h5]
theorem ints_of : ∀ (ys : List U), (∀ (i : Nat) y, ys[i]? = some y → ∃ v : Int, y = .int v ∧ 0 ≤ v ∧ v < 997) → ∃ l : List Int, ys = l.map U.int ∧ okC l
  | [], _ => ⟨[], rfl, fun c h => by cases h⟩
  | y :: r, h => by
    obtain ⟨v, rfl, v0, v1⟩ := h 0 y rfl
    obtain ⟨l, rfl, hl⟩ := ints_of r fun i z hz => h (i + 1) z (by simpa using hz)
    refine ⟨v :: l, rfl, fun c hc => ?_⟩
    rcases List.mem_cons.mp hc with e | e
    · subst e; omega
    · exact hl c e
/-- as many cells, drawn anew -/
theorem w_redraw (c n : Nat) (T : Tr) (x : Str) (r : List Int) (hr : r.length ≤ 996) (hx : tget T x = some r) (y2 y3 y5 : Option U) (m : Mem) (hw : Well c m) (hd : dcells m (.ref n) = some (dkU T)) (E' : Ex → Mem → Prop) :
    WR (dB oToTup (lCons (dLc (iAny (dOp oDGet (dSlot 1) (dSlot 4))) (Ev.gName 5) tYesU (dCall d_law_drawn (lCons (dSlot 0) (lCons (dC (.int 997)) lNil))) [5]) lNil) [some (.ref c), some (.ref n), y2, y3, some (.str x), y5] m) (fun u m' => ∃ l, u = tI l ∧ okC l ∧ l.length = r.length ∧ Gr c m m') E' := by
  walk_at "w"
  refine wo_dgetC hd rfl (by rw [valK_dk, hx]; rfl) ?_
  walk_at "w"
  refine wc_all [c] (fun _ y => ∃ v : Int, y = .int v ∧ 0 ≤ v ∧ v < 997) (Well c) hw ?_ ?_
  · intro i u m1 hu hS hw1
    walk_at "w"
    refine wr_imp (w_drawn c 997 (by omega) (by omega) m1 hw1 _) ?_
    rintro u m2 ⟨v, rfl, v0, v1, g⟩
    exact ⟨⟨v, rfl, v0, v1⟩, hS.trans (Ev.Sv.gr g), g.well⟩
  · intro ys m1 hl hP hS hw1
    obtain ⟨l, rfl, hok⟩ := ints_of ys hP
    rw [List.length_map, List.length_map] at hl
    walk_at "w"
    intro n2 m2 N2
    have h2 := N2.at_
    walk_at "w"
    exact ⟨l, rfl, hok, hl, (hS.toGr hw1).sv0 (Ev.Sv.nw N2)⟩
end My

set_option Elab.async false
set_option linter.all false
set_option maxRecDepth 100000
set_option maxHeartbeats 2000000
namespace My
open PySem L2 Ev RZ RT
local macro_rules | `(tactic| walk_at "ev") => `(tactic| simp (disch := first | assumption | omega | simp; done | (simp only [List.length_map, List.length_append, List.length_cons, List.length_nil, List.length_replicate]; omega)) only [runB_e, List.length_cons, List.length_nil, List.length_map, Nat.reduceAdd, Nat.reduceSub, List.reduceReplicate, List.map_cons, List.map_nil, List.cons_append, List.nil_append, List.append_nil, List.set_cons_zero, List.set_cons_succ, List.getElem?_cons_zero, List.getElem?_cons_succ, evB, evX, evS, evO, evR, evR2, evI, evJ, evD, eqU_s, eqU_vo, valK_dk, Option.map_none,  nums_ints, flat_rep, Option.map_some, List.getElem?_append_left, dSlot_d, oMulG_a, oMulG_b, oMod_e, oTup_e, oLst_e, oList_e, oAdd_t, oMulG_t, eqU_tI, eqU_nil, eqU_i, dk_len, Bool.not_true, Bool.not_false, Bool.false_eq_true, if_true, if_false, if_pos, if_neg, mem_last, mem_setl, mem_mid, mem_setm, at3_0, at3_1, at3_2, ix3_0, ix3_2, decide_eq_true_eq, decide_true, decide_false, and_true, true_and, and_false, false_and, not_true_eq_false, not_false_eq_true, wipeU, *])
local macro_rules | `(tactic| walk_at "w") => `(tactic| with_reducible repeat (first
  | (apply wr_slot; (focus (with_unfolding_all rfl)))
  | refine wr_C ?_
  | refine wl_cons ?_
  | refine wr_op ?_
  | refine wl_nil ?_
  | refine wr_call ?_
  | refine wr_B ?_
  | refine ws_seq ?_
  | refine ws_asg ?_
  | refine wg_name ?_
  | refine wr_tup ?_
  | refine wr_lst ?_
  | refine ws_if ?_
  | refine wt_bl ?_
  | refine wt_tru ?_
  | refine asb ?_
  | refine asi ?_
  | refine two ?_
  | refine three ?_
  | refine tupp ?_
  | refine one ?_
  | refine wo_add ?_
  | refine wo_sub ?_
  | refine wo_iadd ?_
  | refine wo_neg ?_
  | refine wo_lt ?_
  | refine wo_le ?_
  | refine wo_gt ?_
  | refine wo_ge ?_
  | (apply wo_mod; (focus (first | (with_reducible_and_instances assumption) | (with_unfolding_all first | omega | decide | (simp only [List.length_map, List.length_append, List.length_cons, List.length_nil, List.length_replicate, List.length_reverse, Ev.runI_len] at *; omega)))))
  | (apply wo_mulA; (focus (first | (with_reducible_and_instances assumption) | (with_unfolding_all first | omega | decide | (simp only [List.length_map, List.length_append, List.length_cons, List.length_nil, List.length_replicate, List.length_reverse, Ev.runI_len] at *; omega)))); (focus (first | (with_reducible_and_instances assumption) | (with_unfolding_all first | omega | decide | (simp only [List.length_map, List.length_append, List.length_cons, List.length_nil, List.length_replicate, List.length_reverse, Ev.runI_len] at *; omega)))))
  | (apply wo_mulB; (focus (first | (with_reducible_and_instances assumption) | (with_unfolding_all first | omega | decide | (simp only [List.length_map, List.length_append, List.length_cons, List.length_nil, List.length_replicate, List.length_reverse, Ev.runI_len] at *; omega)))); (focus (first | (with_reducible_and_instances assumption) | (with_unfolding_all first | omega | decide | (simp only [List.length_map, List.length_append, List.length_cons, List.length_nil, List.length_replicate, List.length_reverse, Ev.runI_len] at *; omega)))))
  | (apply wo_div'; (focus (first | (with_reducible_and_instances assumption) | (with_unfolding_all first | omega | decide | (simp only [List.length_map, List.length_append, List.length_cons, List.length_nil, List.length_replicate, List.length_reverse, Ev.runI_len] at *; omega)))); (focus (first | (with_reducible_and_instances assumption) | (with_unfolding_all first | omega | decide | (simp only [List.length_map, List.length_append, List.length_cons, List.length_nil, List.length_replicate, List.length_reverse, Ev.runI_len] at *; omega)))))
  | (apply wo_eq; (focus (first | (with_reducible_and_instances assumption) | (with_unfolding_all first | exact eqU_i _ _ _ | exact eqU_tI _ _ _ | exact eqU_nil _ _) | exact eqU_rr (by with_reducible_and_instances assumption) (by with_reducible_and_instances assumption))))
  | (apply wo_ne; (focus (first | (with_reducible_and_instances assumption) | (with_unfolding_all first | exact eqU_i _ _ _ | exact eqU_tI _ _ _ | exact eqU_nil _ _) | exact eqU_rr (by with_reducible_and_instances assumption) (by with_reducible_and_instances assumption))))
  | refine wo_lenT ?_
  | (apply wo_lenR; (focus (with_reducible_and_instances assumption)))
  | refine wo_lenRol ?_
  | refine wo_intI ?_
  | refine wo_intB ?_
  | refine wo_abs ?_
  | refine wo_max2 ?_
  | refine wo_min2 ?_
  | (apply wo_tup; (focus (first | (with_reducible_and_instances assumption) | (with_unfolding_all first | omega | decide | (simp only [List.length_map, List.length_append, List.length_cons, List.length_nil, List.length_replicate, List.length_reverse, Ev.runI_len] at *; omega)))))
  | (apply wo_lst; (focus (first | (with_reducible_and_instances assumption) | (with_unfolding_all first | omega | decide | (simp only [List.length_map, List.length_append, List.length_cons, List.length_nil, List.length_replicate, List.length_reverse, Ev.runI_len] at *; omega)))))
  | refine wo_tupT ?_
  | (apply wo_tupR; (focus (with_reducible_and_instances assumption)))
  | refine wo_lstT ?_
  | refine wo_lstRol ?_
  | (apply wo_lstR; (focus (with_reducible_and_instances assumption)))
  | (apply wo_ixT; (focus (first | (with_reducible_and_instances assumption) | (with_unfolding_all rfl))))
  | (apply wo_ixRol; (focus (first | (with_reducible_and_instances assumption) | (with_unfolding_all rfl))))
  | (apply wo_ixR; (focus (with_reducible_and_instances assumption)); (focus (first | (with_reducible_and_instances assumption) | (with_unfolding_all rfl))))
  | (apply wo_addT; (focus (first | (with_reducible_and_instances assumption) | (with_unfolding_all first | omega | decide | (simp only [List.length_map, List.length_append, List.length_cons, List.length_nil, List.length_replicate, List.length_reverse, Ev.runI_len] at *; omega)))))
  | (apply wo_addR; (focus (with_reducible_and_instances assumption)); (focus (with_reducible_and_instances assumption)); (focus (first | (with_reducible_and_instances assumption) | (with_unfolding_all first | omega | decide | (simp only [List.length_map, List.length_append, List.length_cons, List.length_nil, List.length_replicate, List.length_reverse, Ev.runI_len] at *; omega)))))
  | refine wo_sliceT ?_
  | (apply wo_sliceR; (focus (with_reducible_and_instances assumption)))
  | (apply wo_append; (focus (with_reducible_and_instances assumption)); (focus (first | (with_reducible_and_instances assumption) | (with_unfolding_all first | omega | decide | (simp only [List.length_map, List.length_append, List.length_cons, List.length_nil, List.length_replicate, List.length_reverse, Ev.runI_len] at *; omega)))))
  | (apply wo_extend; (focus (with_reducible_and_instances assumption)); (focus (with_reducible_and_instances assumption)); (focus (first | (with_reducible_and_instances assumption) | (with_unfolding_all first | omega | decide | (simp only [List.length_map, List.length_append, List.length_cons, List.length_nil, List.length_replicate, List.length_reverse, Ev.runI_len] at *; omega)))))
  | (apply wo_mulT; (focus (first | (with_reducible_and_instances assumption) | (with_unfolding_all first | omega | decide | (simp only [List.length_map, List.length_append, List.length_cons, List.length_nil, List.length_replicate, List.length_reverse, Ev.runI_len] at *; omega)))); (focus (first | (with_reducible_and_instances assumption) | (with_unfolding_all first | omega | decide | (simp only [List.length_map, List.length_append, List.length_cons, List.length_nil, List.length_replicate, List.length_reverse, Ev.runI_len] at *; omega)))); (focus (first | (with_reducible_and_instances assumption) | (with_unfolding_all first | omega | decide | (simp only [List.length_map, List.length_append, List.length_cons, List.length_nil, List.length_replicate, List.length_reverse, Ev.runI_len] at *; omega)))))
  | (apply wo_mulR; (focus (with_reducible_and_instances assumption)); (focus (first | (with_reducible_and_instances assumption) | (with_unfolding_all first | omega | decide | (simp only [List.length_map, List.length_append, List.length_cons, List.length_nil, List.length_replicate, List.length_reverse, Ev.runI_len] at *; omega)))); (focus (first | (with_reducible_and_instances assumption) | (with_unfolding_all first | omega | decide | (simp only [List.length_map, List.length_append, List.length_cons, List.length_nil, List.length_replicate, List.length_reverse, Ev.runI_len] at *; omega)))); (focus (first | (with_reducible_and_instances assumption) | (with_unfolding_all first | omega | decide | (simp only [List.length_map, List.length_append, List.length_cons, List.length_nil, List.length_replicate, List.length_reverse, Ev.runI_len] at *; omega)))))
  | refine wr_and ?_
  | refine wr_or ?_
  | refine wr_not ?_
  | refine wr_chain ?_
  | refine wr_un ?_
  | refine wt_and ?_
  | refine wt_or ?_
  | refine wt_not ?_
  | refine wt_yes ?_
  | refine wr_slice ?_
  | refine wp_none ?_
  | refine wp_some ?_
  | refine wr_isi ?_
  | refine wr_m ?_
  | refine wr_m0 ?_
  | (apply ism; (focus (first | exact isMT_r (by with_reducible_and_instances assumption) | exact isMT_dK (by with_reducible_and_instances assumption) | (with_unfolding_all rfl))))
  | (apply somep; (focus (first | (with_reducible_and_instances assumption) | exact truU_r (by with_reducible_and_instances assumption) | exact isTy_r (by with_reducible_and_instances assumption) | exact srcA_r (by with_reducible_and_instances assumption) | (with_unfolding_all rfl))))
  | refine wr_lc ?_
  | refine wr_lc2 ?_
  | refine wr_sortedSet ?_
  | refine wr_lenset ?_
  | refine wr_revT ?_
  | refine wr_lstRg ?_
  | refine wr_tupRg ?_
  | refine wr_lstRg2 ?_
  | refine wr_tupRg2 ?_
  | (apply wo_tupRg; (focus (first | (with_reducible_and_instances assumption) | (with_unfolding_all first | omega | decide | (simp only [List.length_map, List.length_append, List.length_cons, List.length_nil, List.length_replicate, List.length_reverse, Ev.runI_len] at *; omega)))); (focus (first | (with_reducible_and_instances assumption) | (with_unfolding_all first | omega | decide | (simp only [List.length_map, List.length_append, List.length_cons, List.length_nil, List.length_replicate, List.length_reverse, Ev.runI_len] at *; omega)))); (focus (first | (with_reducible_and_instances assumption) | (with_unfolding_all first | omega | decide | (simp only [List.length_map, List.length_append, List.length_cons, List.length_nil, List.length_replicate, List.length_reverse, Ev.runI_len] at *; omega)))); (focus (first | (with_reducible_and_instances assumption) | (with_unfolding_all first | omega | decide | (simp only [List.length_map, List.length_append, List.length_cons, List.length_nil, List.length_replicate, List.length_reverse, Ev.runI_len] at *; omega)))); (focus (first | (with_reducible_and_instances assumption) | (with_unfolding_all first | omega | decide | (simp only [List.length_map, List.length_append, List.length_cons, List.length_nil, List.length_replicate, List.length_reverse, Ev.runI_len] at *; omega)))))
  | (apply wo_lstRg; (focus (first | (with_reducible_and_instances assumption) | (with_unfolding_all first | omega | decide | (simp only [List.length_map, List.length_append, List.length_cons, List.length_nil, List.length_replicate, List.length_reverse, Ev.runI_len] at *; omega)))); (focus (first | (with_reducible_and_instances assumption) | (with_unfolding_all first | omega | decide | (simp only [List.length_map, List.length_append, List.length_cons, List.length_nil, List.length_replicate, List.length_reverse, Ev.runI_len] at *; omega)))); (focus (first | (with_reducible_and_instances assumption) | (with_unfolding_all first | omega | decide | (simp only [List.length_map, List.length_append, List.length_cons, List.length_nil, List.length_replicate, List.length_reverse, Ev.runI_len] at *; omega)))); (focus (first | (with_reducible_and_instances assumption) | (with_unfolding_all first | omega | decide | (simp only [List.length_map, List.length_append, List.length_cons, List.length_nil, List.length_replicate, List.length_reverse, Ev.runI_len] at *; omega)))); (focus (first | (with_reducible_and_instances assumption) | (with_unfolding_all first | omega | decide | (simp only [List.length_map, List.length_append, List.length_cons, List.length_nil, List.length_replicate, List.length_reverse, Ev.runI_len] at *; omega)))))
  | refine wi_any ?_
  | refine wi_enum ?_
  | refine wi_zip ?_
  | refine wi_range1 ?_
  | refine wi_range2 ?_
  | refine wi_rev ?_
  | refine wi_revR1 ?_
  | refine ws_for ?_
  | refine ws_fix ?_
  | refine ws_ret ?_
  | refine ws_retN ?_
  | refine ws_expr ?_
  | refine ws_next ?_
  | refine ws_break ?_
  | refine ws_cont ?_
  | refine ws_raise ?_
  | (apply ws_aug; (focus (with_unfolding_all rfl)))
  | refine ws_augS ?_
  | refine ws_par ?_
  | refine ws_par3 ?_
  | (apply wg_tup; (focus (with_unfolding_all rfl)))
  | refine wg_cons ?_
  | refine wg_nil ?_
  | (apply wg_cons'; (focus (with_unfolding_all rfl)))
  | (apply wg_nil'; (focus (with_unfolding_all rfl)))
  | refine wg_sub ?_
  | (apply wo_setL; (focus (with_reducible_and_instances assumption)); (focus (first | (with_reducible_and_instances assumption) | (with_unfolding_all first | omega | decide | (simp only [List.length_map, List.length_append, List.length_cons, List.length_nil, List.length_replicate, List.length_reverse, Ev.runI_len] at *; omega)))); (focus (first | (with_reducible_and_instances assumption) | (with_unfolding_all first | omega | decide | (simp only [List.length_map, List.length_append, List.length_cons, List.length_nil, List.length_replicate, List.length_reverse, Ev.runI_len] at *; omega)))))
  | (apply wo_getL; (focus (with_reducible_and_instances assumption)); (focus (first | (with_reducible_and_instances assumption) | (with_unfolding_all rfl))))
  | refine ifp_T ?_
  | refine ifp_F ?_
  | (apply ifp_t; (focus (first | (with_reducible_and_instances assumption) | rfl | (simp only [Ev.Ty.isL, Ev.Ty.isD, decide_eq_true_eq, decide_eq_false_iff_not, Bool.not_eq_true', Bool.not_eq_false', bne_iff_ne, beq_iff_eq, ne_eq, Bool.and_eq_true, Bool.or_eq_true, List.length_map, List.length_append, List.length_cons, List.length_nil]; done) | (simp only [Ev.Ty.isL, Ev.Ty.isD, decide_eq_true_eq, decide_eq_false_iff_not, Bool.not_eq_true', Bool.not_eq_false', bne_iff_ne, beq_iff_eq, ne_eq, Bool.and_eq_true, Bool.or_eq_true, List.length_map, List.length_append, List.length_cons, List.length_nil]; first | (with_reducible_and_instances assumption) | omega))))
  | (apply ifp_f; (focus (first | (with_reducible_and_instances assumption) | rfl | (simp only [Ev.Ty.isL, Ev.Ty.isD, decide_eq_true_eq, decide_eq_false_iff_not, Bool.not_eq_true', Bool.not_eq_false', bne_iff_ne, beq_iff_eq, ne_eq, Bool.and_eq_true, Bool.or_eq_true, List.length_map, List.length_append, List.length_cons, List.length_nil]; done) | (simp only [Ev.Ty.isL, Ev.Ty.isD, decide_eq_true_eq, decide_eq_false_iff_not, Bool.not_eq_true', Bool.not_eq_false', bne_iff_ne, beq_iff_eq, ne_eq, Bool.and_eq_true, Bool.or_eq_true, List.length_map, List.length_append, List.length_cons, List.length_nil]; first | (with_reducible_and_instances assumption) | omega))))))
-- w
theorem tget_mem_keys {T : Tr} {x : Str} (h : x ∈ tkeys T) : ∃ r, tget T x = some r := by
  cases e : tget T x with
  | none => exact absurd h (tget_none.mp e)
  | some r => exact ⟨r, rfl⟩
theorem w_like (T : Tr) (hT : OkT T) (n c : Nat) (d : Dd) (hd : OkD d) (m : Mem) (hw : Well c m) (hm : m[n]? = some (cT T)) (E' : Ex → Mem → Prop) :
    WR (d_law_like [.ref c, .ref n, dU d] m) (fun u m' => ∃ k L, u = .ref k ∧ m'[k]? = some (cT L) ∧ OkT L ∧ (∀ x ∈ nms d, (tget L x).map List.length = (tget T x).map List.length) ∧ Gr c m m') E' := by
  have hc := well_lt hw
  have hnc := ne_well hw hm
  have hn := lt_of_at hm
  unfold d_law_like b_law_like
  refine wr_run rfl ?_
  walk_at "w"
  refine wr_dnew ?_
  intro F m1 N1
  have hF := N1.len
  have hF1 := N1.at_
  have hm1 := N1.old hm
  have hw1 := hw.nw N1
  walk_at "w"
  refine ws_lockS (i := 1) (n := n) (kvs := dkU T) rfl hm1 ?_
  intro m2 S2
  have hw2 : Well c m2 := hw1.st S2 (Ne.symm hnc)
  have hF2 : m2[F]? = some (cT []) := by rw [S2.ne F (by omega)]; exact hF1
  walk_at "w"
  refine wi_keysF (n := n) (kvs := dkU T) ?_
  walk_at "w"
  refine ⟨rfl, S2.at_, ?_⟩
  rw [keyU_dk]
  walk_at "w"
  refine ws_forM (l := tkeys T) (f := U.str) (fun i ρ m' => ∃ y4 y5 L, ρ = [some (.ref c), some (.ref n), some (dU d), some (.ref F), y4, y5] ∧ Ev.Sv [c, F] m2 m' ∧ Well c m' ∧ m'[F]? = some (cT L) ∧ OkT L ∧ (∀ x ∈ tkeys L, x ∈ (tkeys T).take i) ∧ (∀ x ∈ (tkeys T).take i, x ∈ tch d → (tget L x).map List.length = (tget T x).map List.length)) ⟨none, none, [], rfl, Ev.Sv.refl, hw2, hF2, ⟨by simp, fun p h => (by cases h), fun p h => (by cases h)⟩, fun x h => (by cases h), fun x h => (by cases h)⟩ ?_ ?_
  · rintro i hi ρ m3 ⟨y4, y5, L, rfl, hS, hw3, hF3, hL, hsub, hlen⟩
    have htk : (tkeys T).take (i + 1) = (tkeys T).take i ++ [(tkeys T)[i]] := List.take_succ_eq_append_getElem hi
    have hxm : (tkeys T)[i] ∈ tkeys T := List.getElem_mem hi
    have hnew : (tkeys T)[i] ∉ (tkeys T).take i := by
      have := hT.nd
      rw [← List.take_append_drop i (tkeys T), List.drop_eq_getElem_cons hi, List.nodup_append] at this
      exact fun z => this.2.2 _ z _ List.mem_cons_self rfl
    rw [htk]
    generalize (tkeys T)[i] = x at *
    generalize (tkeys T).take i = K at *
    obtain ⟨r, hr⟩ := tget_mem_keys hxm
    have hx7 : x ∈ N7 := by
      obtain ⟨p, hp, rfl⟩ := List.mem_map.mp hxm
      exact hT.nm p hp
    have hdF : m3[n]? = some (.dF (dkU T)) := hS.get S2.at_ (by simp; omega)
    -- the entry is written
    have store : ∀ m4 y5, Gr c m3 m4 → WS (sAsg (dB oToTup (lCons (dLc (iAny (dOp oDGet (dSlot 1) (dSlot 4))) (Ev.gName 5) tYesU (dCall d_law_drawn (lCons (dSlot 0) (lCons (dC (.int 997)) lNil))) [5]) lNil)) (gSub oSetD (dSlot 3) (dSlot 4)) [some (.ref c), some (.ref n), some (dU d), some (.ref F), some (.str x), y5] m4)
        ⟨fun ρ m' => ∃ y4 y5 L', ρ = [some (.ref c), some (.ref n), some (dU d), some (.ref F), y4, y5] ∧ Ev.Sv [c, F] m2 m' ∧ Well c m' ∧ m'[F]? = some (cT L') ∧ OkT L' ∧ (∀ x' ∈ tkeys L', x' ∈ K ++ [x]) ∧ (∀ x' ∈ K ++ [x], x' ∈ tch d → (tget L' x').map List.length = (tget T x').map List.length), fun _ _ => False, fun _ _ => False, fun _ _ => False, fun _ _ _ => False⟩ := by
      intro m4 y5 g4
      refine ws_asg ?_
      refine wr_imp (w_redraw c n T x r (hT.at hr).2 hr (some (dU d)) (some (.ref F)) y5 m4 g4.well (dcF (g4.get hnc hdF)) _) ?_
      rintro u m5 ⟨l, rfl, hl, hll, g5⟩
      have g := g4.trans g5
      have hF5 : m5[F]? = some (cT L) := g.get (by omega) hF3
      walk_at "w"
      have h7 := hL.len
      refine wo_setD hF5 rfl (by rw [dk_len]; exact Nat.lt_of_le_of_lt h7 (by decide)) ?_
      intro m6 S6
      rw [putU_dk] at S6
      have hlr := (hT.at hr).2
      refine ⟨_, _, tput L x l, rfl, (hS.trans ((Ev.Sv.gr g).imp (fun k hk => .inl (by simp at hk; simp [hk])))).st S6 (.inl (by simp)), g.well.st S6 (by omega), S6.at_, hL.put hx7 ⟨hl, by omega⟩, fun x' hx' => ?_, fun x' hx' ht => ?_⟩
      · rcases tkeys_put_sub hx' with e | e
        · subst e; simp
        · exact List.mem_append_left _ (hsub x' e)
      · rw [tget_put]
        by_cases e : x' = x
        · subst e; rw [if_pos rfl, hr]; simp [hll]
        · rw [if_neg e]
          rcases List.mem_append.mp hx' with z | z
          · exact hlen x' z ht
          · exact absurd (List.mem_singleton.mp z) e
    walk_at "w"
    refine wr_imp (w_touched d hd m3 _) ?_
    rintro u m4 ⟨rfl, hS4⟩
    walk_at "w"
    refine wo_in (inU_t (n5_ok hx7) (tch_ok hd)) ?_
    walk_at "w"
    refine ⟨fun ht => ?_, fun ht => ?_⟩
    · refine ifp_T ?_
      exact ws_imp (store m4 y5 ((Gr.refl hw3).sv0 hS4)) (fun _ _ z => z) (fun _ _ z => z.elim) (fun _ _ z => z.elim) (fun _ _ z => z.elim) (fun _ _ _ z => z.elim)
    · walk_at "w"
      have g4 := (Gr.refl hw3).sv0 hS4
      refine wr_imp (w_drawn c 2 (by omega) (by omega) m4 g4.well _) ?_
      rintro u m5 ⟨j, rfl, j0, j1, g5⟩
      walk_at "w"
      refine ⟨fun hj => ?_, fun hj => ?_⟩
      · exact ws_imp (store m5 y5 (g4.trans g5)) (fun _ _ z => z) (fun _ _ z => z.elim) (fun _ _ z => z.elim) (fun _ _ z => z.elim) (fun _ _ _ z => z.elim)
      · walk_at "w"
        have g := g4.trans g5
        refine ⟨_, _, L, rfl, hS.trans ((Ev.Sv.gr g).imp (fun k hk => .inl (by simp at hk; simp [hk]))), g.well, g.get (by omega) hF3, hL, fun x' hx' => List.mem_append_left _ (hsub x' hx'), fun x' hx' ht' => ?_⟩
        rcases List.mem_append.mp hx' with z | z
        · exact hlen x' z ht'
        · rw [List.mem_singleton.mp z] at ht'
          exact absurd ht' (of_decide_eq_false ht)
  · rintro ρ m3 ⟨y4, y5, L, rfl, hS, hw3, hF3, hL, hsub, hlen⟩
    rw [List.take_length] at hsub hlen
    have hl3 := hS.len
    rw [S2.len, N1.eq] at hl3
    refine ⟨by simp at hl3; omega, fun m4 S4 => ?_⟩
    have hF4 : m4[F]? = some (cT L) := by rw [S4.ne F (by omega)]; exact hF3
    have hw4 : Well c m4 := hw3.st S4 (Ne.symm hnc)
    have hS4 : Ev.Sv [c, F] m m4 := (Ev.Sv.nw N1).trans (Ev.Sv.lock hm1 S2 hS S4)
    have hLT : ∀ x ∈ nms d, (tget L x).map List.length = (tget T x).map List.length := by
      intro x hx
      by_cases hk : x ∈ tkeys T
      · exact hlen x hk (mem_tch.mpr hx)
      · rw [tget_none.mpr hk, tget_none.mpr fun z => hk (hsub x z)]
    clear hm1 S2 hS hlen hsub S4 hF3 hw3 hF2 hw2
    walk_at "w"
    refine ws_forM (l := [st [120], st [121, 121]]) (f := U.str) (fun _ ρ m' => ∃ y4 y5 L', ρ = [some (.ref c), some (.ref n), some (dU d), some (.ref F), y4, y5] ∧ Ev.Sv [c, F] m m' ∧ Well c m' ∧ m'[F]? = some (cT L') ∧ OkT L' ∧ ∀ x ∈ nms d, (tget L' x).map List.length = (tget T x).map List.length) ⟨y4, y5, L, rfl, hS4, hw4, hF4, hL, hLT⟩ ?_ ?_
    · rintro i hi ρ m5 ⟨y4, y5, L1, rfl, hS5, hw5, hF5, hL1, hlen1⟩
      have hx7 : [st [120], st [121, 121]][i] ∈ N7 := by
        have : [st [120], st [121, 121]][i] ∈ [st [120], st [121, 121]] := List.getElem_mem hi
        simp only [List.mem_cons, List.not_mem_nil, or_false] at this ⊢
        rcases this with h | h <;> simp [h]
      generalize [st [120], st [121, 121]][i] = x at *
      walk_at "w"
      refine wr_imp (w_touched d hd m5 _) ?_
      rintro u m6 ⟨rfl, hS6⟩
      have g6 := (Gr.refl hw5).sv0 hS6
      walk_at "w"
      refine wo_notIn (inU_t (n5_ok hx7) (tch_ok hd)) ?_
      walk_at "w"
      refine ⟨fun ht => ?_, fun ht => ?_⟩
      · walk_at "w"
        refine wr_imp (w_drawn c 2 (by omega) (by omega) m6 g6.well _) ?_
        rintro u m7 ⟨j, rfl, j0, j1, g7⟩
        replace g6 := g6.trans g7
        clear g7
        walk_at "w"
        refine ⟨fun hj => ?_, fun hj => ?_⟩
        · walk_at "w"
          refine wr_imp (w_cells c 4 (by omega) (by omega) m7 g6.well _) ?_
          rintro u m8 ⟨l, rfl, hl, hll, g8⟩
          have g := g6.trans g8
          have hF8 : m8[F]? = some (cT L1) := g.get (by omega) hF5
          have h7 := hL1.len
          walk_at "w"
          refine wo_setD hF8 rfl (by rw [dk_len]; exact Nat.lt_of_le_of_lt h7 (by decide)) ?_
          intro m9 S9
          rw [putU_dk] at S9
          refine ⟨_, _, tput L1 x l, rfl, (hS5.trans ((Ev.Sv.gr g).imp (fun k hk => .inl (by simp at hk; simp [hk])))).st S9 (.inl (by simp)), g.well.st S9 (by omega), S9.at_, hL1.put hx7 ⟨hl, by omega⟩, fun x' hx' => ?_⟩
          rw [tget_put, if_neg fun e => ?_]
          · exact hlen1 x' hx'
          · subst e
            simp at ht
            exact ht (mem_tch.mpr hx')
        · walk_at "w"
          exact ⟨_, _, L1, rfl, hS5.trans ((Ev.Sv.gr g6).imp (fun k hk => .inl (by simp at hk; simp [hk]))), g6.well, g6.get (by omega) hF5, hL1, hlen1⟩
      · walk_at "w"
        exact ⟨_, _, L1, rfl, hS5.trans ((Ev.Sv.gr g6).imp (fun k hk => .inl (by simp at hk; simp [hk]))), g6.well, g6.get (by omega) hF5, hL1, hlen1⟩
    · rintro ρ m5 ⟨y4, y5, L1, rfl, hS5, hw5, hF5, hL1, hlen1⟩
      walk_at "w"
      exact ⟨F, L1, rfl, hF5, hL1, hlen1, (hS5.imp fun k hk => (by
        simp only [List.mem_cons, List.not_mem_nil, or_false] at hk
        rcases hk with e | e
        · exact .inl (by simp [e])
        · exact .inr (by omega))).toGr hw5⟩
end My

set_option Elab.async false
set_option linter.all false
set_option maxRecDepth 100000
set_option maxHeartbeats 2000000
namespace My
open PySem L2 Ev RZ RT
local macro_rules | `(tactic| walk_at "ev") => `(tactic| simp (disch := first | assumption | omega | simp; done | (simp only [List.length_map, List.length_append, List.length_cons, List.length_nil, List.length_replicate]; omega)) only [runB_e, List.length_cons, List.length_nil, List.length_map, Nat.reduceAdd, Nat.reduceSub, List.reduceReplicate, List.map_cons, List.map_nil, List.cons_append, List.nil_append, List.append_nil, List.set_cons_zero, List.set_cons_succ, List.getElem?_cons_zero, List.getElem?_cons_succ, evB, evX, evS, evO, evR, evR2, evI, evJ, evD, eqU_s, eqU_vo, valK_dk, Option.map_none,  nums_ints, flat_rep, Option.map_some, List.getElem?_append_left, dSlot_d, oMulG_a, oMulG_b, oMod_e, oTup_e, oLst_e, oList_e, oAdd_t, oMulG_t, eqU_tI, eqU_nil, eqU_i, dk_len, Bool.not_true, Bool.not_false, Bool.false_eq_true, if_true, if_false, if_pos, if_neg, mem_last, mem_setl, mem_mid, mem_setm, at3_0, at3_1, at3_2, ix3_0, ix3_2, decide_eq_true_eq, decide_true, decide_false, and_true, true_and, and_false, false_and, not_true_eq_false, not_false_eq_true, wipeU, *])
local macro_rules | `(tactic| walk_at "w") => `(tactic| with_reducible repeat (first
  | (apply wr_slot; (focus (with_unfolding_all rfl)))
  | refine wr_C ?_
  | refine wl_cons ?_
  | refine wr_op ?_
  | refine wl_nil ?_
  | refine wr_call ?_
  | refine wr_B ?_
  | refine ws_seq ?_
  | refine ws_asg ?_
  | refine wg_name ?_
  | refine wr_tup ?_
  | refine wr_lst ?_
  | refine ws_if ?_
  | refine wt_bl ?_
  | refine wt_tru ?_
  | refine asb ?_
  | refine asi ?_
  | refine two ?_
  | refine three ?_
  | refine tupp ?_
  | refine one ?_
  | refine wo_add ?_
  | refine wo_sub ?_
  | refine wo_iadd ?_
  | refine wo_neg ?_
  | refine wo_lt ?_
  | refine wo_le ?_
  | refine wo_gt ?_
  | refine wo_ge ?_
  | (apply wo_mod; (focus (first | (with_reducible_and_instances assumption) | (with_unfolding_all first | omega | decide | (simp only [List.length_map, List.length_append, List.length_cons, List.length_nil, List.length_replicate, List.length_reverse, Ev.runI_len] at *; omega)))))
  | (apply wo_mulA; (focus (first | (with_reducible_and_instances assumption) | (with_unfolding_all first | omega | decide | (simp only [List.length_map, List.length_append, List.length_cons, List.length_nil, List.length_replicate, List.length_reverse, Ev.runI_len] at *; omega)))); (focus (first | (with_reducible_and_instances assumption) | (with_unfolding_all first | omega | decide | (simp only [List.length_map, List.length_append, List.length_cons, List.length_nil, List.length_replicate, List.length_reverse, Ev.runI_len] at *; omega)))))
  | (apply wo_mulB; (focus (first | (with_reducible_and_instances assumption) | (with_unfolding_all first | omega | decide | (simp only [List.length_map, List.length_append, List.length_cons, List.length_nil, List.length_replicate, List.length_reverse, Ev.runI_len] at *; omega)))); (focus (first | (with_reducible_and_instances assumption) | (with_unfolding_all first | omega | decide | (simp only [List.length_map, List.length_append, List.length_cons, List.length_nil, List.length_replicate, List.length_reverse, Ev.runI_len] at *; omega)))))
  | (apply wo_div'; (focus (first | (with_reducible_and_instances assumption) | (with_unfolding_all first | omega | decide | (simp only [List.length_map, List.length_append, List.length_cons, List.length_nil, List.length_replicate, List.length_reverse, Ev.runI_len] at *; omega)))); (focus (first | (with_reducible_and_instances assumption) | (with_unfolding_all first | omega | decide | (simp only [List.length_map, List.length_append, List.length_cons, List.length_nil, List.length_replicate, List.length_reverse, Ev.runI_len] at *; omega)))))
  | (apply wo_eq; (focus (first | (with_reducible_and_instances assumption) | (with_unfolding_all first | exact eqU_i _ _ _ | exact eqU_tI _ _ _ | exact eqU_nil _ _) | exact eqU_rr (by with_reducible_and_instances assumption) (by with_reducible_and_instances assumption))))
  | (apply wo_ne; (focus (first | (with_reducible_and_instances assumption) | (with_unfolding_all first | exact eqU_i _ _ _ | exact eqU_tI _ _ _ | exact eqU_nil _ _) | exact eqU_rr (by with_reducible_and_instances assumption) (by with_reducible_and_instances assumption))))
  | refine wo_lenT ?_
  | (apply wo_lenR; (focus (with_reducible_and_instances assumption)))
  | refine wo_lenRol ?_
  | refine wo_intI ?_
  | refine wo_intB ?_
  | refine wo_abs ?_
  | refine wo_max2 ?_
  | refine wo_min2 ?_
  | (apply wo_tup; (focus (first | (with_reducible_and_instances assumption) | (with_unfolding_all first | omega | decide | (simp only [List.length_map, List.length_append, List.length_cons, List.length_nil, List.length_replicate, List.length_reverse, Ev.runI_len] at *; omega)))))
  | (apply wo_lst; (focus (first | (with_reducible_and_instances assumption) | (with_unfolding_all first | omega | decide | (simp only [List.length_map, List.length_append, List.length_cons, List.length_nil, List.length_replicate, List.length_reverse, Ev.runI_len] at *; omega)))))
  | refine wo_tupT ?_
  | (apply wo_tupR; (focus (with_reducible_and_instances assumption)))
  | refine wo_lstT ?_
  | refine wo_lstRol ?_
  | (apply wo_lstR; (focus (with_reducible_and_instances assumption)))
  | (apply wo_ixT; (focus (first | (with_reducible_and_instances assumption) | (with_unfolding_all rfl))))
  | (apply wo_ixRol; (focus (first | (with_reducible_and_instances assumption) | (with_unfolding_all rfl))))
  | (apply wo_ixR; (focus (with_reducible_and_instances assumption)); (focus (first | (with_reducible_and_instances assumption) | (with_unfolding_all rfl))))
  | (apply wo_addT; (focus (first | (with_reducible_and_instances assumption) | (with_unfolding_all first | omega | decide | (simp only [List.length_map, List.length_append, List.length_cons, List.length_nil, List.length_replicate, List.length_reverse, Ev.runI_len] at *; omega)))))
  | (apply wo_addR; (focus (with_reducible_and_instances assumption)); (focus (with_reducible_and_instances assumption)); (focus (first | (with_reducible_and_instances assumption) | (with_unfolding_all first | omega | decide | (simp only [List.length_map, List.length_append, List.length_cons, List.length_nil, List.length_replicate, List.length_reverse, Ev.runI_len] at *; omega)))))
  | refine wo_sliceT ?_
  | (apply wo_sliceR; (focus (with_reducible_and_instances assumption)))
  | (apply wo_append; (focus (with_reducible_and_instances assumption)); (focus (first | (with_reducible_and_instances assumption) | (with_unfolding_all first | omega | decide | (simp only [List.length_map, List.length_append, List.length_cons, List.length_nil, List.length_replicate, List.length_reverse, Ev.runI_len] at *; omega)))))
  | (apply wo_extend; (focus (with_reducible_and_instances assumption)); (focus (with_reducible_and_instances assumption)); (focus (first | (with_reducible_and_instances assumption) | (with_unfolding_all first | omega | decide | (simp only [List.length_map, List.length_append, List.length_cons, List.length_nil, List.length_replicate, List.length_reverse, Ev.runI_len] at *; omega)))))
  | (apply wo_mulT; (focus (first | (with_reducible_and_instances assumption) | (with_unfolding_all first | omega | decide | (simp only [List.length_map, List.length_append, List.length_cons, List.length_nil, List.length_replicate, List.length_reverse, Ev.runI_len] at *; omega)))); (focus (first | (with_reducible_and_instances assumption) | (with_unfolding_all first | omega | decide | (simp only [List.length_map, List.length_append, List.length_cons, List.length_nil, List.length_replicate, List.length_reverse, Ev.runI_len] at *; omega)))); (focus (first | (with_reducible_and_instances assumption) | (with_unfolding_all first | omega | decide | (simp only [List.length_map, List.length_append, List.length_cons, List.length_nil, List.length_replicate, List.length_reverse, Ev.runI_len] at *; omega)))))
  | (apply wo_mulR; (focus (with_reducible_and_instances assumption)); (focus (first | (with_reducible_and_instances assumption) | (with_unfolding_all first | omega | decide | (simp only [List.length_map, List.length_append, List.length_cons, List.length_nil, List.length_replicate, List.length_reverse, Ev.runI_len] at *; omega)))); (focus (first | (with_reducible_and_instances assumption) | (with_unfolding_all first | omega | decide | (simp only [List.length_map, List.length_append, List.length_cons, List.length_nil, List.length_replicate, List.length_reverse, Ev.runI_len] at *; omega)))); (focus (first | (with_reducible_and_instances assumption) | (with_unfolding_all first | omega | decide | (simp only [List.length_map, List.length_append, List.length_cons, List.length_nil, List.length_replicate, List.length_reverse, Ev.runI_len] at *; omega)))))
  | refine wr_and ?_
  | refine wr_or ?_
  | refine wr_not ?_
  | refine wr_chain ?_
  | refine wr_un ?_
  | refine wt_and ?_
  | refine wt_or ?_
  | refine wt_not ?_
  | refine wt_yes ?_
  | refine wr_slice ?_
  | refine wp_none ?_
  | refine wp_some ?_
  | refine wr_isi ?_
  | refine wr_m ?_
  | refine wr_m0 ?_
  | (apply ism; (focus (first | exact isMT_r (by with_reducible_and_instances assumption) | exact isMT_dK (by with_reducible_and_instances assumption) | (with_unfolding_all rfl))))
  | (apply somep; (focus (first | (with_reducible_and_instances assumption) | exact truU_r (by with_reducible_and_instances assumption) | exact isTy_r (by with_reducible_and_instances assumption) | exact srcA_r (by with_reducible_and_instances assumption) | (with_unfolding_all rfl))))
  | refine wr_lc ?_
  | refine wr_lc2 ?_
  | refine wr_sortedSet ?_
  | refine wr_lenset ?_
  | refine wr_revT ?_
  | refine wr_lstRg ?_
  | refine wr_tupRg ?_
  | refine wr_lstRg2 ?_
  | refine wr_tupRg2 ?_
  | (apply wo_tupRg; (focus (first | (with_reducible_and_instances assumption) | (with_unfolding_all first | omega | decide | (simp only [List.length_map, List.length_append, List.length_cons, List.length_nil, List.length_replicate, List.length_reverse, Ev.runI_len] at *; omega)))); (focus (first | (with_reducible_and_instances assumption) | (with_unfolding_all first | omega | decide | (simp only [List.length_map, List.length_append, List.length_cons, List.length_nil, List.length_replicate, List.length_reverse, Ev.runI_len] at *; omega)))); (focus (first | (with_reducible_and_instances assumption) | (with_unfolding_all first | omega | decide | (simp only [List.length_map, List.length_append, List.length_cons, List.length_nil, List.length_replicate, List.length_reverse, Ev.runI_len] at *; omega)))); (focus (first | (with_reducible_and_instances assumption) | (with_unfolding_all first | omega | decide | (simp only [List.length_map, List.length_append, List.length_cons, List.length_nil, List.length_replicate, List.length_reverse, Ev.runI_len] at *; omega)))); (focus (first | (with_reducible_and_instances assumption) | (with_unfolding_all first | omega | decide | (simp only [List.length_map, List.length_append, List.length_cons, List.length_nil, List.length_replicate, List.length_reverse, Ev.runI_len] at *; omega)))))
  | (apply wo_lstRg; (focus (first | (with_reducible_and_instances assumption) | (with_unfolding_all first | omega | decide | (simp only [List.length_map, List.length_append, List.length_cons, List.length_nil, List.length_replicate, List.length_reverse, Ev.runI_len] at *; omega)))); (focus (first | (with_reducible_and_instances assumption) | (with_unfolding_all first | omega | decide | (simp only [List.length_map, List.length_append, List.length_cons, List.length_nil, List.length_replicate, List.length_reverse, Ev.runI_len] at *; omega)))); (focus (first | (with_reducible_and_instances assumption) | (with_unfolding_all first | omega | decide | (simp only [List.length_map, List.length_append, List.length_cons, List.length_nil, List.length_replicate, List.length_reverse, Ev.runI_len] at *; omega)))); (focus (first | (with_reducible_and_instances assumption) | (with_unfolding_all first | omega | decide | (simp only [List.length_map, List.length_append, List.length_cons, List.length_nil, List.length_replicate, List.length_reverse, Ev.runI_len] at *; omega)))); (focus (first | (with_reducible_and_instances assumption) | (with_unfolding_all first | omega | decide | (simp only [List.length_map, List.length_append, List.length_cons, List.length_nil, List.length_replicate, List.length_reverse, Ev.runI_len] at *; omega)))))
  | refine wi_any ?_
  | refine wi_enum ?_
  | refine wi_zip ?_
  | refine wi_range1 ?_
  | refine wi_range2 ?_
  | refine wi_rev ?_
  | refine wi_revR1 ?_
  | refine ws_for ?_
  | refine ws_fix ?_
  | refine ws_ret ?_
  | refine ws_retN ?_
  | refine ws_expr ?_
  | refine ws_next ?_
  | refine ws_break ?_
  | refine ws_cont ?_
  | refine ws_raise ?_
  | (apply ws_aug; (focus (with_unfolding_all rfl)))
  | refine ws_augS ?_
  | refine ws_par ?_
  | refine ws_par3 ?_
  | (apply wg_tup; (focus (with_unfolding_all rfl)))
  | refine wg_cons ?_
  | refine wg_nil ?_
  | (apply wg_cons'; (focus (with_unfolding_all rfl)))
  | (apply wg_nil'; (focus (with_unfolding_all rfl)))
  | refine wg_sub ?_
  | (apply wo_setL; (focus (with_reducible_and_instances assumption)); (focus (first | (with_reducible_and_instances assumption) | (with_unfolding_all first | omega | decide | (simp only [List.length_map, List.length_append, List.length_cons, List.length_nil, List.length_replicate, List.length_reverse, Ev.runI_len] at *; omega)))); (focus (first | (with_reducible_and_instances assumption) | (with_unfolding_all first | omega | decide | (simp only [List.length_map, List.length_append, List.length_cons, List.length_nil, List.length_replicate, List.length_reverse, Ev.runI_len] at *; omega)))))
  | (apply wo_getL; (focus (with_reducible_and_instances assumption)); (focus (first | (with_reducible_and_instances assumption) | (with_unfolding_all rfl))))
  | refine ifp_T ?_
  | refine ifp_F ?_
  | (apply ifp_t; (focus (first | (with_reducible_and_instances assumption) | rfl | (simp only [Ev.Ty.isL, Ev.Ty.isD, decide_eq_true_eq, decide_eq_false_iff_not, Bool.not_eq_true', Bool.not_eq_false', bne_iff_ne, beq_iff_eq, ne_eq, Bool.and_eq_true, Bool.or_eq_true, List.length_map, List.length_append, List.length_cons, List.length_nil]; done) | (simp only [Ev.Ty.isL, Ev.Ty.isD, decide_eq_true_eq, decide_eq_false_iff_not, Bool.not_eq_true', Bool.not_eq_false', bne_iff_ne, beq_iff_eq, ne_eq, Bool.and_eq_true, Bool.or_eq_true, List.length_map, List.length_append, List.length_cons, List.length_nil]; first | (with_reducible_and_instances assumption) | omega))))
  | (apply ifp_f; (focus (first | (with_reducible_and_instances assumption) | rfl | (simp only [Ev.Ty.isL, Ev.Ty.isD, decide_eq_true_eq, decide_eq_false_iff_not, Bool.not_eq_true', Bool.not_eq_false', bne_iff_ne, beq_iff_eq, ne_eq, Bool.and_eq_true, Bool.or_eq_true, List.length_map, List.length_append, List.length_cons, List.length_nil]; done) | (simp only [Ev.Ty.isL, Ev.Ty.isD, decide_eq_true_eq, decide_eq_false_iff_not, Bool.not_eq_true', Bool.not_eq_false', bne_iff_ne, beq_iff_eq, ne_eq, Bool.and_eq_true, Bool.or_eq_true, List.length_map, List.length_append, List.length_cons, List.length_nil]; first | (with_reducible_and_instances assumption) | omega))))))
-- w
theorem flat_tI (k : Nat) (l : List Int) : (List.replicate k (l.map U.int)).flatten = ((List.replicate k l).flatten).map U.int := by
  rw [List.map_flatten, List.map_replicate]
theorem okC_rep {l : List Int} (h : okC l) (k : Nat) : okC (List.replicate k l).flatten := fun c hc => by
  obtain ⟨r, hr, hc⟩ := List.mem_flatten.mp hc
  rw [(List.mem_replicate.mp hr).2] at hc
  exact h c hc
theorem len_rep (l : List Int) (k : Nat) : (List.replicate k l).flatten.length = k * l.length := by
  induction k with
  | zero => simp
  | succ k ih => rw [List.replicate_succ, List.flatten_cons, List.length_append, ih, Nat.succ_mul]; omega
theorem merge_nil {T : Tr} (h : (tkeys T).Nodup) : mergeU [] (dkU T) = dkU T := by
  have := merge_dk T [] (by simpa using h)
  simpa [dkU] using this
theorem dk_map {T : Tr} (h : (tkeys T).Nodup) : (tkeys T).map (fun x => pairU (.inr x, tI ((tget T x).getD []))) = (dkU T).map pairU := by
  unfold dkU
  rw [List.map_map, List.map_map]
  refine List.map_congr_left fun p hp => ?_
  show pairU (.inr p.1, tI ((tget T p.1).getD [])) = pairU (.inr p.1, tI p.2)
  rw [tget_of_mem h hp]; rfl
theorem w_right (c : Nat) (m : Mem) (hw : Well c m) (E' : Ex → Mem → Prop) : WR (d_law_right [.ref c] m) (fun u _ => u = .bl true) E' := by
  have hc := well_lt hw
  unfold d_law_right b_law_right
  refine wr_run rfl ?_
  walk_at "w"
  refine wr_dnew ?_
  intro n1 m1 N1
  have hn1 : n1 ≠ c := by have := N1.len; omega
  walk_at "w"
  refine wr_imp (w_drawn c 4 (by omega) (by omega) m1 (hw.nw N1) _) ?_
  rintro u m2 ⟨i, rfl, i0, i1, g2⟩
  walk_at "w"
  refine ⟨by omega, ?_⟩
  walk_at "w"
  refine ws_forL (fun _ ρ m' => ∃ y2 y3 T, ρ = [some (.ref c), some (.ref n1), y2, y3, none, none, none] ∧ Well c m' ∧ m'[n1]? = some (cT T) ∧ OkT T) ⟨none, none, [], rfl, g2.well, g2.get hn1 N1.at_, ⟨by simp, fun p h => (by cases h), fun p h => (by cases h)⟩⟩ ?_ ?_
  · rintro j u ρ m3 hu ⟨y2, y3, T, rfl, hw3, h3, hT⟩
    walk_at "w"
    intro n4 m4 N4
    walk_at "w"
    refine wr_imp (w_pick c n4 _ (by simp) (by simp) m3 m4 hw3 N4 _) ?_
    rintro u m5 ⟨hu, g5⟩
    obtain ⟨q, rfl, q0, q1⟩ : ∃ a : Int, u = .int a ∧ 0 ≤ a ∧ a ≤ 40 := by
      simp only [List.mem_cons, List.not_mem_nil, or_false] at hu
      rcases hu with h | h | h | h <;> exact ⟨_, h, by omega, by omega⟩
    clear hu N4
    walk_at "w"
    refine wr_imp (w_cells c q q0 (by omega) m5 g5.well _) ?_
    rintro u m6 ⟨l, rfl, hl, hll, g6⟩
    walk_at "w"
    intro n7 m7 N7
    walk_at "w"
    refine wr_imp (w_pick c n7 _ (by simp) (by simp) m6 m7 g6.well N7 _) ?_
    rintro u m8 ⟨hu, g8⟩
    obtain ⟨k, rfl, hk⟩ : ∃ a : Nat, u = .int a ∧ a ≤ 24 := by
      simp only [List.mem_cons, List.not_mem_nil, or_false] at hu
      rcases hu with h | h | h
      · exact ⟨1, h, by omega⟩
      · exact ⟨1, h, by omega⟩
      · exact ⟨24, h, by omega⟩
    clear hu N7
    have g := (g5.trans g6).trans g8
    clear g5 g6 g8
    walk_at "w"
    rw [Int.toNat_natCast, flat_tI]
    have hlk : (List.replicate k l).flatten.length ≤ 996 := by
      rw [len_rep]
      have : k * l.length ≤ 24 * 40 := Nat.mul_le_mul hk (by omega)
      omega
    have hok := okC_rep hl k
    generalize (List.replicate k l).flatten = L at *
    refine w_names m8 _ ?_
    intro n9 m9 N9
    walk_at "w"
    have hn9 : n9 ≠ c := by have := N9.len; have := well_lt g.well; omega
    refine wr_imp (w_givenS c n9 N5 hn9 (by simp) (by simp) m9 (g.well.nw N9) N9.at_ _) ?_
    rintro u m10 ⟨x, rfl, hx, g10⟩
    have h10 : m10[n1]? = some (cT T) := g10.get hn1 (N9.old (g.get hn1 h3))
    have h7 := hT.len
    refine wo_setD h10 rfl (by rw [dk_len]; exact Nat.lt_of_le_of_lt h7 (by decide)) ?_
    intro m11 S11
    rw [putU_dk] at S11
    exact ⟨_, _, tput T x L, rfl, g10.well.st S11 (Ne.symm hn1), S11.at_, hT.put (n57 hx) ⟨hok, hlk⟩⟩
  rintro ρ m3 ⟨y2, y3, T, rfl, hw3, h3, hT⟩
  have h7 := hT.len
  walk_at "w"
  refine wr_lockE (i := 1) (n := n1) (kvs := dkU T) rfl h3 ?_
  intro m4 S4
  have hl4 := lt_of_at S4.at_
  walk_at "w"
  refine wi_keysF (n := n1) (kvs := dkU T) ?_
  walk_at "w"
  refine ⟨rfl, S4.at_, ?_⟩
  rw [keyU_dk]
  refine wc_mapL (l := tkeys T) (f := U.str) [] (fun x => pairU (.inr x, tI ((tget T x).getD []))) ?_ ?_
  · intro x hx m5 hS5
    obtain ⟨r, hr⟩ := tget_mem_keys hx
    walk_at "w"
    refine wo_dgetC (dcF (hS5.get0 S4.at_)) rfl (by rw [valK_dk, hr]; rfl) ?_
    walk_at "w"
    rw [show (996 : Int) = ((996 : Nat) : Int) from rfl, cutU_to, List.take_of_length_le (by rw [List.length_map]; exact (hT.at hr).2)]
    refine ⟨?_, hS5⟩
    rw [hr]; rfl
  intro m5 hS5
  rw [dk_map hT.nd]
  refine wo_lst (by rw [List.length_map, dk_len]; omega) ?_
  intro n6 m6 N6
  have hl5 := hS5.len
  refine ⟨by have := congrArg List.length N6.eq; rw [List.length_append] at this; omega, ?_⟩
  intro m7 S7
  have hn6 : n6 ≠ n1 := by have := N6.len; omega
  walk_at "w"
  refine wo_dictP (n := n6) (kv := dkU T) (us := (dkU T).map pairU) (by rw [S7.ne n6 hn6]; exact N6.at_) (pairsOfU_dk T) ?_
  rw [merge_nil hT.nd]
  intro n8 m8 N8
  have hw8 : Well c m8 := (((((hw3.st S4 (Ne.symm hn1)).sv hS5 (by simp)).nw N6).st S7 (Ne.symm hn1)).nw N8)
  have h8 := N8.at_
  have hn8 := ne_well hw8 h8
  clear S7 N6 S4 hS5 N8 h3
  walk_at "w"
  refine ⟨by decide, ?_⟩
  walk_at "w"
  refine ws_forL (fun _ ρ m' => ∃ y2 y4 y5, ρ = [some (.ref c), some (.ref n8), y2, y3, y4, y5, none] ∧ Well c m' ∧ m'[n8]? = some (cT T)) ⟨y2, none, none, rfl, hw8, h8⟩ ?_ ?_
  · rintro j u ρ m9 hu ⟨y2, y4, y5, rfl, hw9, h9⟩
    walk_at "w"
    refine wr_imp (w_odd T hT n8 c m9 hw9 h9 _) ?_
    rintro u m10 ⟨d, rfl, hd, g10⟩
    have h10 := g10.get hn8 h9
    walk_at "w"
    refine wr_imp (w_behind T hT n8 d hd m10 h10 _) ?_
    rintro u m11 ⟨k, rfl, hS11, _⟩
    have h11 := hS11.get0 h10
    walk_at "w"
    refine wr_imp (w_refusal T hT n8 d hd m11 h11 _) ?_
    rintro u m12 ⟨rfl, hS12⟩
    have h12 := hS12.get0 h11
    walk_at "w"
    refine wo_ne (eqU_rs (rf_ok hd) (rf_ok hd)) ?_
    walk_at "w"
    refine wr_imp (w_refused T hT n8 d hd m12 h12 _) ?_
    rintro u m13 ⟨rfl, hS13⟩
    have h13 := hS13.get0 h12
    walk_at "w"
    refine wo_ne (eqU_rs (rf_ok hd) (rf_ok hd)) ?_
    walk_at "w"
    have g13 : Gr c m9 m13 := ((g10.sv0 hS11).sv0 hS12).sv0 hS13
    refine wr_imp (w_like T hT n8 c d hd m13 g13.well h13 _) ?_
    rintro u m14 ⟨kL, L, rfl, hL, hLo, hlen, g14⟩
    walk_at "w"
    refine wr_imp (w_refusal L hLo kL d hd m14 hL _) ?_
    rintro u m15 ⟨rfl, hS15⟩
    have hrL : rf (tget L) d = rf (tget T) d := rf_len hlen
    rw [hrL]
    have g15 := (g13.trans g14).sv0 hS15
    have h15 := g15.get hn8 h9
    clear hS15 g14 hL hlen g13 hS13 hS12 hS11 h13 h12 h11 h10
    walk_at "w"
    refine wo_ne (eqU_rs (rf_ok hd) (rf_ok hd)) ?_
    walk_at "w"
    cases d with
    | put x l =>
      unfold dU
      walk_at "w"
      refine wo_eq (evW.1 _) ?_
      walk_at "w"
      refine wo_notN (fun v h => by cases h) ?_
      walk_at "w"
      refine ifp_f rfl ?_
      walk_at "w"
      exact ⟨_, _, _, rfl, g15.well, h15⟩
    | patch x a o l =>
      unfold dU
      walk_at "w"
      refine wo_eq (evW.2.1 _) ?_
      walk_at "w"
      exact ⟨_, _, _, rfl, g15.well, h15⟩
    | drop x =>
      unfold dU
      walk_at "w"
      refine wo_eq (evW.2.2.1 _) ?_
      walk_at "w"
      exact ⟨_, _, _, rfl, g15.well, h15⟩
    | ren x k =>
      unfold dU
      walk_at "w"
      refine wo_eq (evW.2.2.2.1 _) ?_
      walk_at "w"
      exact ⟨_, _, _, rfl, g15.well, h15⟩
  · rintro ρ m9 ⟨y2, y4, y5, rfl, hw9, h9⟩
    walk_at "w"
    rfl
end My

set_option Elab.async false
set_option linter.all false
set_option maxRecDepth 100000
set_option maxHeartbeats 2000000
namespace My
open PySem L2 Ev RZ RT
local macro_rules | `(tactic| walk_at "ev") => `(tactic| simp (disch := first | assumption | omega | simp; done | (simp only [List.length_map, List.length_append, List.length_cons, List.length_nil, List.length_replicate]; omega)) only [runB_e, List.length_cons, List.length_nil, List.length_map, Nat.reduceAdd, Nat.reduceSub, List.reduceReplicate, List.map_cons, List.map_nil, List.cons_append, List.nil_append, List.append_nil, List.set_cons_zero, List.set_cons_succ, List.getElem?_cons_zero, List.getElem?_cons_succ, evB, evX, evS, evO, evR, evR2, evI, evJ, evD, eqU_s, eqU_vo, valK_dk, Option.map_none,  nums_ints, flat_rep, Option.map_some, List.getElem?_append_left, dSlot_d, oMulG_a, oMulG_b, oMod_e, oTup_e, oLst_e, oList_e, oAdd_t, oMulG_t, eqU_tI, eqU_nil, eqU_i, dk_len, Bool.not_true, Bool.not_false, Bool.false_eq_true, if_true, if_false, if_pos, if_neg, mem_last, mem_setl, mem_mid, mem_setm, at3_0, at3_1, at3_2, ix3_0, ix3_2, decide_eq_true_eq, decide_true, decide_false, and_true, true_and, and_false, false_and, not_true_eq_false, not_false_eq_true, wipeU, *])
local macro_rules | `(tactic| walk_at "w") => `(tactic| with_reducible repeat (first
  | (apply wr_slot; (focus (with_unfolding_all rfl)))
  | refine wr_C ?_
  | refine wl_cons ?_
  | refine wr_op ?_
  | refine wl_nil ?_
  | refine wr_call ?_
  | refine wr_B ?_
  | refine ws_seq ?_
  | refine ws_asg ?_
  | refine wg_name ?_
  | refine wr_tup ?_
  | refine wr_lst ?_
  | refine ws_if ?_
  | refine wt_bl ?_
  | refine wt_tru ?_
  | refine asb ?_
  | refine asi ?_
  | refine two ?_
  | refine three ?_
  | refine tupp ?_
  | refine one ?_
  | refine wo_add ?_
  | refine wo_sub ?_
  | refine wo_iadd ?_
  | refine wo_neg ?_
  | refine wo_lt ?_
  | refine wo_le ?_
  | refine wo_gt ?_
  | refine wo_ge ?_
  | (apply wo_mod; (focus (first | (with_reducible_and_instances assumption) | (with_unfolding_all first | omega | decide | (simp only [List.length_map, List.length_append, List.length_cons, List.length_nil, List.length_replicate, List.length_reverse, Ev.runI_len] at *; omega)))))
  | (apply wo_mulA; (focus (first | (with_reducible_and_instances assumption) | (with_unfolding_all first | omega | decide | (simp only [List.length_map, List.length_append, List.length_cons, List.length_nil, List.length_replicate, List.length_reverse, Ev.runI_len] at *; omega)))); (focus (first | (with_reducible_and_instances assumption) | (with_unfolding_all first | omega | decide | (simp only [List.length_map, List.length_append, List.length_cons, List.length_nil, List.length_replicate, List.length_reverse, Ev.runI_len] at *; omega)))))
  | (apply wo_mulB; (focus (first | (with_reducible_and_instances assumption) | (with_unfolding_all first | omega | decide | (simp only [List.length_map, List.length_append, List.length_cons, List.length_nil, List.length_replicate, List.length_reverse, Ev.runI_len] at *; omega)))); (focus (first | (with_reducible_and_instances assumption) | (with_unfolding_all first | omega | decide | (simp only [List.length_map, List.length_append, List.length_cons, List.length_nil, List.length_replicate, List.length_reverse, Ev.runI_len] at *; omega)))))
  | (apply wo_div'; (focus (first | (with_reducible_and_instances assumption) | (with_unfolding_all first | omega | decide | (simp only [List.length_map, List.length_append, List.length_cons, List.length_nil, List.length_replicate, List.length_reverse, Ev.runI_len] at *; omega)))); (focus (first | (with_reducible_and_instances assumption) | (with_unfolding_all first | omega | decide | (simp only [List.length_map, List.length_append, List.length_cons, List.length_nil, List.length_replicate, List.length_reverse, Ev.runI_len] at *; omega)))))
  | (apply wo_eq; (focus (first | (with_reducible_and_instances assumption) | (with_unfolding_all first | exact eqU_i _ _ _ | exact eqU_tI _ _ _ | exact eqU_nil _ _) | exact eqU_rr (by with_reducible_and_instances assumption) (by with_reducible_and_instances assumption))))
  | (apply wo_ne; (focus (first | (with_reducible_and_instances assumption) | (with_unfolding_all first | exact eqU_i _ _ _ | exact eqU_tI _ _ _ | exact eqU_nil _ _) | exact eqU_rr (by with_reducible_and_instances assumption) (by with_reducible_and_instances assumption))))
  | refine wo_lenT ?_
  | (apply wo_lenR; (focus (with_reducible_and_instances assumption)))
  | refine wo_lenRol ?_
  | refine wo_intI ?_
  | refine wo_intB ?_
  | refine wo_abs ?_
  | refine wo_max2 ?_
  | refine wo_min2 ?_
  | (apply wo_tup; (focus (first | (with_reducible_and_instances assumption) | (with_unfolding_all first | omega | decide | (simp only [List.length_map, List.length_append, List.length_cons, List.length_nil, List.length_replicate, List.length_reverse, Ev.runI_len] at *; omega)))))
  | (apply wo_lst; (focus (first | (with_reducible_and_instances assumption) | (with_unfolding_all first | omega | decide | (simp only [List.length_map, List.length_append, List.length_cons, List.length_nil, List.length_replicate, List.length_reverse, Ev.runI_len] at *; omega)))))
  | refine wo_tupT ?_
  | (apply wo_tupR; (focus (with_reducible_and_instances assumption)))
  | refine wo_lstT ?_
  | refine wo_lstRol ?_
  | (apply wo_lstR; (focus (with_reducible_and_instances assumption)))
  | (apply wo_ixT; (focus (first | (with_reducible_and_instances assumption) | (with_unfolding_all rfl))))
  | (apply wo_ixRol; (focus (first | (with_reducible_and_instances assumption) | (with_unfolding_all rfl))))
  | (apply wo_ixR; (focus (with_reducible_and_instances assumption)); (focus (first | (with_reducible_and_instances assumption) | (with_unfolding_all rfl))))
  | (apply wo_addT; (focus (first | (with_reducible_and_instances assumption) | (with_unfolding_all first | omega | decide | (simp only [List.length_map, List.length_append, List.length_cons, List.length_nil, List.length_replicate, List.length_reverse, Ev.runI_len] at *; omega)))))
  | (apply wo_addR; (focus (with_reducible_and_instances assumption)); (focus (with_reducible_and_instances assumption)); (focus (first | (with_reducible_and_instances assumption) | (with_unfolding_all first | omega | decide | (simp only [List.length_map, List.length_append, List.length_cons, List.length_nil, List.length_replicate, List.length_reverse, Ev.runI_len] at *; omega)))))
  | refine wo_sliceT ?_
  | (apply wo_sliceR; (focus (with_reducible_and_instances assumption)))
  | (apply wo_append; (focus (with_reducible_and_instances assumption)); (focus (first | (with_reducible_and_instances assumption) | (with_unfolding_all first | omega | decide | (simp only [List.length_map, List.length_append, List.length_cons, List.length_nil, List.length_replicate, List.length_reverse, Ev.runI_len] at *; omega)))))
  | (apply wo_extend; (focus (with_reducible_and_instances assumption)); (focus (with_reducible_and_instances assumption)); (focus (first | (with_reducible_and_instances assumption) | (with_unfolding_all first | omega | decide | (simp only [List.length_map, List.length_append, List.length_cons, List.length_nil, List.length_replicate, List.length_reverse, Ev.runI_len] at *; omega)))))
  | (apply wo_mulT; (focus (first | (with_reducible_and_instances assumption) | (with_unfolding_all first | omega | decide | (simp only [List.length_map, List.length_append, List.length_cons, List.length_nil, List.length_replicate, List.length_reverse, Ev.runI_len] at *; omega)))); (focus (first | (with_reducible_and_instances assumption) | (with_unfolding_all first | omega | decide | (simp only [List.length_map, List.length_append, List.length_cons, List.length_nil, List.length_replicate, List.length_reverse, Ev.runI_len] at *; omega)))); (focus (first | (with_reducible_and_instances assumption) | (with_unfolding_all first | omega | decide | (simp only [List.length_map, List.length_append, List.length_cons, List.length_nil, List.length_replicate, List.length_reverse, Ev.runI_len] at *; omega)))))
  | (apply wo_mulR; (focus (with_reducible_and_instances assumption)); (focus (first | (with_reducible_and_instances assumption) | (with_unfolding_all first | omega | decide | (simp only [List.length_map, List.length_append, List.length_cons, List.length_nil, List.length_replicate, List.length_reverse, Ev.runI_len] at *; omega)))); (focus (first | (with_reducible_and_instances assumption) | (with_unfolding_all first | omega | decide | (simp only [List.length_map, List.length_append, List.length_cons, List.length_nil, List.length_replicate, List.length_reverse, Ev.runI_len] at *; omega)))); (focus (first | (with_reducible_and_instances assumption) | (with_unfolding_all first | omega | decide | (simp only [List.length_map, List.length_append, List.length_cons, List.length_nil, List.length_replicate, List.length_reverse, Ev.runI_len] at *; omega)))))
  | refine wr_and ?_
  | refine wr_or ?_
  | refine wr_not ?_
  | refine wr_chain ?_
  | refine wr_un ?_
  | refine wt_and ?_
  | refine wt_or ?_
  | refine wt_not ?_
  | refine wt_yes ?_
  | refine wr_slice ?_
  | refine wp_none ?_
  | refine wp_some ?_
  | refine wr_isi ?_
  | refine wr_m ?_
  | refine wr_m0 ?_
  | (apply ism; (focus (first | exact isMT_r (by with_reducible_and_instances assumption) | exact isMT_dK (by with_reducible_and_instances assumption) | (with_unfolding_all rfl))))
  | (apply somep; (focus (first | (with_reducible_and_instances assumption) | exact truU_r (by with_reducible_and_instances assumption) | exact isTy_r (by with_reducible_and_instances assumption) | exact srcA_r (by with_reducible_and_instances assumption) | (with_unfolding_all rfl))))
  | refine wr_lc ?_
  | refine wr_lc2 ?_
  | refine wr_sortedSet ?_
  | refine wr_lenset ?_
  | refine wr_revT ?_
  | refine wr_lstRg ?_
  | refine wr_tupRg ?_
  | refine wr_lstRg2 ?_
  | refine wr_tupRg2 ?_
  | (apply wo_tupRg; (focus (first | (with_reducible_and_instances assumption) | (with_unfolding_all first | omega | decide | (simp only [List.length_map, List.length_append, List.length_cons, List.length_nil, List.length_replicate, List.length_reverse, Ev.runI_len] at *; omega)))); (focus (first | (with_reducible_and_instances assumption) | (with_unfolding_all first | omega | decide | (simp only [List.length_map, List.length_append, List.length_cons, List.length_nil, List.length_replicate, List.length_reverse, Ev.runI_len] at *; omega)))); (focus (first | (with_reducible_and_instances assumption) | (with_unfolding_all first | omega | decide | (simp only [List.length_map, List.length_append, List.length_cons, List.length_nil, List.length_replicate, List.length_reverse, Ev.runI_len] at *; omega)))); (focus (first | (with_reducible_and_instances assumption) | (with_unfolding_all first | omega | decide | (simp only [List.length_map, List.length_append, List.length_cons, List.length_nil, List.length_replicate, List.length_reverse, Ev.runI_len] at *; omega)))); (focus (first | (with_reducible_and_instances assumption) | (with_unfolding_all first | omega | decide | (simp only [List.length_map, List.length_append, List.length_cons, List.length_nil, List.length_replicate, List.length_reverse, Ev.runI_len] at *; omega)))))
  | (apply wo_lstRg; (focus (first | (with_reducible_and_instances assumption) | (with_unfolding_all first | omega | decide | (simp only [List.length_map, List.length_append, List.length_cons, List.length_nil, List.length_replicate, List.length_reverse, Ev.runI_len] at *; omega)))); (focus (first | (with_reducible_and_instances assumption) | (with_unfolding_all first | omega | decide | (simp only [List.length_map, List.length_append, List.length_cons, List.length_nil, List.length_replicate, List.length_reverse, Ev.runI_len] at *; omega)))); (focus (first | (with_reducible_and_instances assumption) | (with_unfolding_all first | omega | decide | (simp only [List.length_map, List.length_append, List.length_cons, List.length_nil, List.length_replicate, List.length_reverse, Ev.runI_len] at *; omega)))); (focus (first | (with_reducible_and_instances assumption) | (with_unfolding_all first | omega | decide | (simp only [List.length_map, List.length_append, List.length_cons, List.length_nil, List.length_replicate, List.length_reverse, Ev.runI_len] at *; omega)))); (focus (first | (with_reducible_and_instances assumption) | (with_unfolding_all first | omega | decide | (simp only [List.length_map, List.length_append, List.length_cons, List.length_nil, List.length_replicate, List.length_reverse, Ev.runI_len] at *; omega)))))
  | refine wi_any ?_
  | refine wi_enum ?_
  | refine wi_zip ?_
  | refine wi_range1 ?_
  | refine wi_range2 ?_
  | refine wi_rev ?_
  | refine wi_revR1 ?_
  | refine ws_for ?_
  | refine ws_fix ?_
  | refine ws_ret ?_
  | refine ws_retN ?_
  | refine ws_expr ?_
  | refine ws_next ?_
  | refine ws_break ?_
  | refine ws_cont ?_
  | refine ws_raise ?_
  | (apply ws_aug; (focus (with_unfolding_all rfl)))
  | refine ws_augS ?_
  | refine ws_par ?_
  | refine ws_par3 ?_
  | (apply wg_tup; (focus (with_unfolding_all rfl)))
  | refine wg_cons ?_
  | refine wg_nil ?_
  | (apply wg_cons'; (focus (with_unfolding_all rfl)))
  | (apply wg_nil'; (focus (with_unfolding_all rfl)))
  | refine wg_sub ?_
  | (apply wo_setL; (focus (with_reducible_and_instances assumption)); (focus (first | (with_reducible_and_instances assumption) | (with_unfolding_all first | omega | decide | (simp only [List.length_map, List.length_append, List.length_cons, List.length_nil, List.length_replicate, List.length_reverse, Ev.runI_len] at *; omega)))); (focus (first | (with_reducible_and_instances assumption) | (with_unfolding_all first | omega | decide | (simp only [List.length_map, List.length_append, List.length_cons, List.length_nil, List.length_replicate, List.length_reverse, Ev.runI_len] at *; omega)))))
  | (apply wo_getL; (focus (with_reducible_and_instances assumption)); (focus (first | (with_reducible_and_instances assumption) | (with_unfolding_all rfl))))
  | refine ifp_T ?_
  | refine ifp_F ?_
  | (apply ifp_t; (focus (first | (with_reducible_and_instances assumption) | rfl | (simp only [Ev.Ty.isL, Ev.Ty.isD, decide_eq_true_eq, decide_eq_false_iff_not, Bool.not_eq_true', Bool.not_eq_false', bne_iff_ne, beq_iff_eq, ne_eq, Bool.and_eq_true, Bool.or_eq_true, List.length_map, List.length_append, List.length_cons, List.length_nil]; done) | (simp only [Ev.Ty.isL, Ev.Ty.isD, decide_eq_true_eq, decide_eq_false_iff_not, Bool.not_eq_true', Bool.not_eq_false', bne_iff_ne, beq_iff_eq, ne_eq, Bool.and_eq_true, Bool.or_eq_true, List.length_map, List.length_append, List.length_cons, List.length_nil]; first | (with_reducible_and_instances assumption) | omega))))
  | (apply ifp_f; (focus (first | (with_reducible_and_instances assumption) | rfl | (simp only [Ev.Ty.isL, Ev.Ty.isD, decide_eq_true_eq, decide_eq_false_iff_not, Bool.not_eq_true', Bool.not_eq_false', bne_iff_ne, beq_iff_eq, ne_eq, Bool.and_eq_true, Bool.or_eq_true, List.length_map, List.length_append, List.length_cons, List.length_nil]; done) | (simp only [Ev.Ty.isL, Ev.Ty.isD, decide_eq_true_eq, decide_eq_false_iff_not, Bool.not_eq_true', Bool.not_eq_false', bne_iff_ne, beq_iff_eq, ne_eq, Bool.and_eq_true, Bool.or_eq_true, List.length_map, List.length_append, List.length_cons, List.length_nil]; first | (with_reducible_and_instances assumption) | omega))))))
-- w
abbrev nA : Str := st [97]
abbrev nB : Str := st [98]
abbrev nC : Str := st [99]
def rsD : Option (List Str) → PyData
  | none => .none
  | some l => .tuple (l.map .str)
theorem rep_rs : Rep rsU rsD (fun o => ∀ l, o = some l → ∀ x ∈ l, PyData.strOk x = true) 1 where
  dt a res := by
    cases a with
    | none => rfl
    | some l =>
      show (datRL res (l.map U.str)).map PyData.tuple = _
      rw [datRL_strs]; rfl
  can a h := by
    cases a with
    | none => rfl
    | some l =>
      have := canAll_strs l (h l rfl)
      simpa [rsD, PyData.canLay0] using this
  dp a := by
    cases a with
    | none => simp [rsD, PyData.depth]
    | some l => simp [rsD, PyData.depth, depth_strs]
  eq a b := by
    cases a with
    | none =>
      cases b with
      | none => rfl
      | some l => rfl
    | some k =>
      cases b with
      | none => rfl
      | some l =>
        show PyData.eqvAll _ _ = _
        rw [eqvAll_strs]
        simp
instance (d : Dd) : Decidable (OkD d) := by cases d <;> unfold OkD <;> infer_instance
def TT : Tr := [(nA, [5, 6, 7]), (nB, [])]
theorem okTT : OkT TT := by
  refine ⟨by decide +kernel, ?_, ?_⟩
  · decide +kernel
  · decide +kernel
def D8 : List Dd := [.drop nC, .patch nC 9 9 [], .patch nA 3 1 [], .patch nA 3 0 [], .ren nA nB, .ren nC nB, .patch nA 4 0 [], .put nA []]
def R8 : List (Option (List Str)) := [some [wGone, nC], some [wGone, nC], some [wPlace, nA], none, some [wThere, nB], some [wGone, nC], some [wPlace, nA], none]
theorem ok8 : ∀ d ∈ D8, OkD d := by decide +kernel
theorem r8 : D8.map (rf (tget TT)) = R8 := by decide +kernel
theorem r8_ok : ∀ o ∈ R8, ∀ l, o = some l → ∀ x ∈ l, PyData.strOk x = true := by
  intro o ho
  rw [← r8] at ho
  obtain ⟨d, hd, rfl⟩ := List.mem_map.mp ho
  exact rf_ok (ok8 d hd)
theorem w_law (ns : List Int) (hns : ns.length ≤ 63) : WR (d_law [.rol (ns.map .int)] []) (fun u _ => u = .bl true) noE := by
  obtain ⟨N, hN⟩ : ∃ N : Nat, max 1 (min 3 ns.length) = N := ⟨_, rfl⟩
  have hmx : (if (if (ns.length : Int) < 3 then (ns.length : Int) else 3) > 1 then (if (ns.length : Int) < 3 then (ns.length : Int) else 3) else 1) = (N : Int) := by
    split <;> split <;> omega
  unfold d_law b_law
  refine wr_run rfl ?_
  walk_at "w"
  rw [List.length_map, hmx]
  refine ⟨by omega, ?_⟩
  walk_at "w"
  refine ws_forL (fun _ ρ _ => ∃ y, ρ = [some (.rol (ns.map .int)), y, none, none, none, none]) ⟨none, rfl⟩ ?_ ?_
  · rintro i u ρ m hu ⟨y, rfl⟩
    obtain ⟨hj, rfl⟩ := run_at hu
    rw [Int.toNat_natCast] at hj
    obtain ⟨a, b, t, e⟩ := p_well ns i (by omega) m
    walk_at "w"
    refine wr_eq e ?_
    walk_at "w"
    refine wr_imp (w_right _ _ ⟨a, b, 0, mem_last _ _⟩ _) ?_
    rintro u m1 rfl
    walk_at "w"
    exact ⟨_, rfl⟩
  rintro ρ m ⟨y, rfl⟩
  walk_at "w"
  refine wr_disp (ps := [(.str nA, tI [5, 6, 7]), (.str nB, tI [])]) (kv := dkU TT) (m1 := m) (by with_unfolding_all rfl) rfl (by decide) ?_
  rw [merge_nil okTT.nd]
  intro n1 m1 N1
  have h1 := N1.at_
  walk_at "w"
  intro n2 m2 N2
  have h2 := N2.at_
  replace h1 := N2.old h1
  walk_at "w"
  intro n3 m3 N3
  have h3 := N3.at_
  replace h2 := N3.old h2
  replace h1 := N3.old h1
  walk_at "w"
  intro n4 m4 N4
  have h4 := N4.at_
  replace h1 := N4.old h1
  walk_at "w"
  intro n5 m5 N5
  have h5 := N5.at_
  replace h4 := N5.old h4
  replace h1 := N5.old h1
  walk_at "w"
  intro n6 m6 N6
  have h6 := N6.at_
  replace h1 := N6.old h1
  walk_at "w"
  intro n7 m7 N7
  have h7 := N7.at_
  replace h6 := N7.old h6
  replace h1 := N7.old h1
  have h6' : m7[n6]? = some (.lst (D8.map dU)) := h6
  have h7' : m7[n7]? = some (.lst (R8.map rsU)) := h7
  clear h6 h7 h2 h3 h4 h5 N1 N2 N3 N4 N5 N6 N7
  walk_at "w"
  refine wc_mapDL (l := D8) (f := dU) h6' [] (by simp) (fun d => rsU (rf (tget TT) d)) ?_ ?_
  · intro d hd m8 hS8
    walk_at "w"
    refine wr_imp (w_refusal TT okTT n1 d (ok8 d hd) m8 (hS8.get0 h1) _) ?_
    rintro u m9 ⟨rfl, hS9⟩
    exact ⟨rfl, hS8.trans hS9⟩
  intro m8 hS8
  have h8 := hS8.get0 h7'
  have e8 : D8.map (fun d => rsU (rf (tget TT) d)) = R8.map rsU := by rw [← r8, List.map_map]; rfl
  rw [e8]
  walk_at "w"
  intro n9 m9 N9
  have h9 := N9.at_
  replace h8 := N9.old h8
  walk_at "w"
  refine wo_eq (rep_rs.eqR (by decide) h9 h8 r8_ok r8_ok) ?_
  rw [decide_eq_true rfl]
theorem law_true : ∀ ns : List Int, ns.length ≤ 63 → ∃ m, d_law [.rol (ns.map .int)] [] = .ok (.bl true) m := by
  intro ns hns
  obtain ⟨u, m, e, rfl⟩ := wr_get (w_law ns hns)
  exact ⟨m, e⟩
end My

set_option Elab.async false
set_option linter.all false
set_option maxRecDepth 100000
set_option maxHeartbeats 4000000
namespace My
open PySem L2 Ev RZ RT
def top (i : Nat) : Stmt := PySem.Challenge.pw_stillread_k32_whole_reasons_of_refusals.main.body.getD i (.Pass ⟨0, 0, 0, 0⟩)
abbrev s_is_number : Stmt := top 7
abbrev n_is_number : List Str := ["value", "least", "most"]
theorem sc_is_number : FnScope n_is_number ["value", "least", "most"] (defScope s_is_number) := ⟨rfl, rfl, rfl, by decide +kernel, rfl, by decide +kernel, by decide +kernel⟩
abbrev s_is_cell : Stmt := top 12
abbrev n_is_cell : List Str := ["value"]
theorem sc_is_cell : FnScope n_is_cell ["value"] (defScope s_is_cell) := ⟨rfl, rfl, rfl, by decide +kernel, rfl, by decide +kernel, by decide +kernel⟩
abbrev s_is_cells : Stmt := top 13
abbrev n_is_cells : List Str := ["value", "cell"]
theorem sc_is_cells : FnScope n_is_cells ["value"] (defScope s_is_cells) := ⟨rfl, rfl, rfl, by decide +kernel, rfl, by decide +kernel, by decide +kernel⟩
abbrev s_is_name : Stmt := top 14
abbrev n_is_name : List Str := ["value", "letter"]
theorem sc_is_name : FnScope n_is_name ["value"] (defScope s_is_name) := ⟨rfl, rfl, rfl, by decide +kernel, rfl, by decide +kernel, by decide +kernel⟩
abbrev s_is_tree : Stmt := top 18
abbrev n_is_tree : List Str := ["value", "name", "cells"]
theorem sc_is_tree : FnScope n_is_tree ["value"] (defScope s_is_tree) := ⟨rfl, rfl, rfl, by decide +kernel, rfl, by decide +kernel, by decide +kernel⟩
abbrev s_is_entry : Stmt := top 19
abbrev n_is_entry : List Str := ["value"]
theorem sc_is_entry : FnScope n_is_entry ["value"] (defScope s_is_entry) := ⟨rfl, rfl, rfl, by decide +kernel, rfl, by decide +kernel, by decide +kernel⟩
abbrev s_are_new : Stmt := top 20
abbrev n_are_new : List Str := ["value"]
theorem sc_are_new : FnScope n_are_new ["value"] (defScope s_are_new) := ⟨rfl, rfl, rfl, by decide +kernel, rfl, by decide +kernel, by decide +kernel⟩
abbrev s_is_put : Stmt := top 21
abbrev n_is_put : List Str := ["value"]
theorem sc_is_put : FnScope n_is_put ["value"] (defScope s_is_put) := ⟨rfl, rfl, rfl, by decide +kernel, rfl, by decide +kernel, by decide +kernel⟩
abbrev s_is_patch : Stmt := top 22
abbrev n_is_patch : List Str := ["value"]
theorem sc_is_patch : FnScope n_is_patch ["value"] (defScope s_is_patch) := ⟨rfl, rfl, rfl, by decide +kernel, rfl, by decide +kernel, by decide +kernel⟩
abbrev s_is_drop : Stmt := top 23
abbrev n_is_drop : List Str := ["value"]
theorem sc_is_drop : FnScope n_is_drop ["value"] (defScope s_is_drop) := ⟨rfl, rfl, rfl, by decide +kernel, rfl, by decide +kernel, by decide +kernel⟩
abbrev s_is_rename : Stmt := top 24
abbrev n_is_rename : List Str := ["value"]
theorem sc_is_rename : FnScope n_is_rename ["value"] (defScope s_is_rename) := ⟨rfl, rfl, rfl, by decide +kernel, rfl, by decide +kernel, by decide +kernel⟩
abbrev s_is_deed : Stmt := top 26
abbrev n_is_deed : List Str := ["value", "judge"]
theorem sc_is_deed : FnScope n_is_deed ["value"] (defScope s_is_deed) := ⟨rfl, rfl, rfl, by decide +kernel, rfl, by decide +kernel, by decide +kernel⟩
abbrev s_check_tree : Stmt := top 27
abbrev n_check_tree : List Str := ["tree"]
theorem sc_check_tree : FnScope n_check_tree ["tree"] (defScope s_check_tree) := ⟨rfl, rfl, rfl, by decide +kernel, rfl, by decide +kernel, by decide +kernel⟩
abbrev s_check_deed : Stmt := top 28
abbrev n_check_deed : List Str := ["deed"]
theorem sc_check_deed : FnScope n_check_deed ["deed"] (defScope s_check_deed) := ⟨rfl, rfl, rfl, by decide +kernel, rfl, by decide +kernel, by decide +kernel⟩
abbrev s_sorted_tree : Stmt := top 29
abbrev n_sorted_tree : List Str := ["tree", "name"]
theorem sc_sorted_tree : FnScope n_sorted_tree ["tree"] (defScope s_sorted_tree) := ⟨rfl, rfl, rfl, by decide +kernel, rfl, by decide +kernel, by decide +kernel⟩
abbrev s_done : Stmt := top 30
abbrev n_done : List Str := ["tree", "deed", "reason", "behind"]
theorem sc_done : FnScope n_done ["tree", "deed"] (defScope s_done) := ⟨rfl, rfl, rfl, by decide +kernel, rfl, by decide +kernel, by decide +kernel⟩
abbrev s_refusal : Stmt := top 31
abbrev n_refusal : List Str := ["tree", "deed"]
theorem sc_refusal : FnScope n_refusal ["tree", "deed"] (defScope s_refusal) := ⟨rfl, rfl, rfl, by decide +kernel, rfl, by decide +kernel, by decide +kernel⟩
abbrev s_refusal_of : Stmt := top 32
abbrev n_refusal_of : List Str := ["tree", "deed", "word", "name"]
theorem sc_refusal_of : FnScope n_refusal_of ["tree", "deed"] (defScope s_refusal_of) := ⟨rfl, rfl, rfl, by decide +kernel, rfl, by decide +kernel, by decide +kernel⟩
abbrev s_patch_refusal : Stmt := top 33
abbrev n_patch_refusal : List Str := ["deed", "length", "word", "name", "at", "out", "cells"]
theorem sc_patch_refusal : FnScope n_patch_refusal ["deed", "length"] (defScope s_patch_refusal) := ⟨rfl, rfl, rfl, by decide +kernel, rfl, by decide +kernel, by decide +kernel⟩
abbrev s_do_deed : Stmt := top 34
abbrev n_do_deed : List Str := ["tree", "deed", "cells", "word", "name", "at", "out", "entry"]
theorem sc_do_deed : FnScope n_do_deed ["tree", "deed", "cells"] (defScope s_do_deed) := ⟨rfl, rfl, rfl, by decide +kernel, rfl, by decide +kernel, by decide +kernel⟩
abbrev s_put_cells : Stmt := top 35
abbrev n_put_cells : List Str := ["deed"]
theorem sc_put_cells : FnScope n_put_cells ["deed"] (defScope s_put_cells) := ⟨rfl, rfl, rfl, by decide +kernel, rfl, by decide +kernel, by decide +kernel⟩
abbrev s_touched : Stmt := top 36
abbrev n_touched : List Str := ["deed", "names"]
theorem sc_touched : FnScope n_touched ["deed"] (defScope s_touched) := ⟨rfl, rfl, rfl, by decide +kernel, rfl, by decide +kernel, by decide +kernel⟩
abbrev s_law_well : Stmt := top 38
abbrev n_law_well : List Str := ["script", "spot", "cell", "great", "mixed"]
theorem sc_law_well : FnScope n_law_well ["script", "spot"] (defScope s_law_well) := ⟨rfl, rfl, rfl, by decide +kernel, rfl, by decide +kernel, by decide +kernel⟩
abbrev s_law_drawn : Stmt := top 39
abbrev n_law_drawn : List Str := ["well", "many", "found", "one", "two"]
theorem sc_law_drawn : FnScope n_law_drawn ["well", "many"] (defScope s_law_drawn) := ⟨rfl, rfl, rfl, by decide +kernel, rfl, by decide +kernel, by decide +kernel⟩
abbrev s_law_given : Stmt := top 40
abbrev n_law_given : List Str := ["well", "items"]
theorem sc_law_given : FnScope n_law_given ["well", "items"] (defScope s_law_given) := ⟨rfl, rfl, rfl, by decide +kernel, rfl, by decide +kernel, by decide +kernel⟩
abbrev s_law_cells : Stmt := top 41
abbrev n_law_cells : List Str := ["well", "most", "found", "turn"]
theorem sc_law_cells : FnScope n_law_cells ["well", "most"] (defScope s_law_cells) := ⟨rfl, rfl, rfl, by decide +kernel, rfl, by decide +kernel, by decide +kernel⟩
abbrev s_law_behind : Stmt := top 42
abbrev n_law_behind : List Str := ["tree", "deed", "word", "name", "found", "row", "at", "out", "held"]
theorem sc_law_behind : FnScope n_law_behind ["tree", "deed"] (defScope s_law_behind) := ⟨rfl, rfl, rfl, by decide +kernel, rfl, by decide +kernel, by decide +kernel⟩
abbrev s_law_names : Stmt := top 43
abbrev n_law_names : List Str := []
theorem sc_law_names : FnScope n_law_names [] (defScope s_law_names) := ⟨rfl, rfl, rfl, by decide +kernel, rfl, by decide +kernel, by decide +kernel⟩
abbrev s_law_odd_deed : Stmt := top 44
abbrev n_law_odd_deed : List Str := ["well", "tree", "names", "name", "word", "many", "at", "out", "one"]
theorem sc_law_odd_deed : FnScope n_law_odd_deed ["well", "tree"] (defScope s_law_odd_deed) := ⟨rfl, rfl, rfl, by decide +kernel, rfl, by decide +kernel, by decide +kernel⟩
abbrev s_law_like : Stmt := top 45
abbrev n_law_like : List Str := ["well", "tree", "deed", "found", "name", "cell"]
theorem sc_law_like : FnScope n_law_like ["well", "tree", "deed"] (defScope s_law_like) := ⟨rfl, rfl, rfl, by decide +kernel, rfl, by decide +kernel, by decide +kernel⟩
abbrev s_law_refused : Stmt := top 46
abbrev n_law_refused : List Str := ["tree", "deed", "error"]
theorem sc_law_refused : FnScope n_law_refused ["tree", "deed"] (defScope s_law_refused) := ⟨rfl, rfl, rfl, by decide +kernel, rfl, by decide +kernel, by decide +kernel⟩
abbrev s_law_right : Stmt := top 47
abbrev n_law_right : List Str := ["well", "tree", "turn", "most", "deed", "reason", "name"]
theorem sc_law_right : FnScope n_law_right ["well"] (defScope s_law_right) := ⟨rfl, rfl, rfl, by decide +kernel, rfl, by decide +kernel, by decide +kernel⟩
abbrev s_law : Stmt := top 48
abbrev n_law : List Str := ["script", "spot", "tree", "some", "due", "deed"]
theorem sc_law : FnScope n_law ["script"] (defScope s_law) := ⟨rfl, rfl, rfl, by decide +kernel, rfl, by decide +kernel, by decide +kernel⟩
abbrev s_i_Refused : Stmt := inCls (top 4) 0
theorem sc_i_Refused : FnScope [("self" : Str), "reason"] [("self" : Str), "reason"] (defScope s_i_Refused) := ⟨rfl, rfl, rfl, by decide +kernel, rfl, by decide +kernel, by decide +kernel⟩
structure Ad where
  is_number : Addr
  is_cell : Addr
  is_cells : Addr
  is_name : Addr
  is_tree : Addr
  is_entry : Addr
  are_new : Addr
  is_put : Addr
  is_patch : Addr
  is_drop : Addr
  is_rename : Addr
  is_deed : Addr
  check_tree : Addr
  check_deed : Addr
  sorted_tree : Addr
  done : Addr
  refusal : Addr
  refusal_of : Addr
  patch_refusal : Addr
  do_deed : Addr
  put_cells : Addr
  touched : Addr
  law_well : Addr
  law_drawn : Addr
  law_given : Addr
  law_cells : Addr
  law_behind : Addr
  law_names : Addr
  law_odd_deed : Addr
  law_like : Addr
  law_refused : Addr
  law_right : Addr
  law : Addr
  JUDGES : Addr
  i_Refused : Addr
structure Fd where
  is_number : FuncData
  is_cell : FuncData
  is_cells : FuncData
  is_name : FuncData
  is_tree : FuncData
  is_entry : FuncData
  are_new : FuncData
  is_put : FuncData
  is_patch : FuncData
  is_drop : FuncData
  is_rename : FuncData
  is_deed : FuncData
  check_tree : FuncData
  check_deed : FuncData
  sorted_tree : FuncData
  done : FuncData
  refusal : FuncData
  refusal_of : FuncData
  patch_refusal : FuncData
  do_deed : FuncData
  put_cells : FuncData
  touched : FuncData
  law_well : FuncData
  law_drawn : FuncData
  law_given : FuncData
  law_cells : FuncData
  law_behind : FuncData
  law_names : FuncData
  law_odd_deed : FuncData
  law_like : FuncData
  law_refused : FuncData
  law_right : FuncData
  law : FuncData
  i_Refused : FuncData
structure Txt (w : World) (K : PySem.W.Frag) (c : Nat → Addr) (mg : Str → Option Value) (a : Ad) (d : Fd) : Prop where
  b_ArithmeticError : mg "ArithmeticError" = none
  b_abs : mg "abs" = none
  b_all : mg "all" = none
  b_bool : mg "bool" = none
  b_dict : mg "dict" = none
  b_int : mg "int" = none
  b_isinstance : mg "isinstance" = none
  b_len : mg "len" = none
  b_list : mg "list" = none
  b_max : mg "max" = none
  b_min : mg "min" = none
  b_range : mg "range" = none
  b_sorted : mg "sorted" = none
  b_str : mg "str" = none
  b_sum : mg "sum" = none
  b_tuple : mg "tuple" = none
  c_LETTERS : ∃ t, mg "LETTERS" = some (.str (st [97, 98, 99, 100, 101, 102, 103, 104, 105, 106, 107, 108, 109, 110, 111, 112, 113, 114, 115, 116, 117, 118, 119, 120, 121, 122]) t)
  c_LONGEST : ∃ t, mg "LONGEST" = some (.int 999999999999999999999999999999999999999999999999999999999999 t)
  c_MAX_CELL : ∃ t, mg "MAX_CELL" = some (.int 996 t)
  c_MAX_NAME : ∃ t, mg "MAX_NAME" = some (.int 4 t)
  c_MOST_LENGTH : ∃ t, mg "MOST_LENGTH" = some (.int 996 t)
  c_MOST_NEW : ∃ t, mg "MOST_NEW" = some (.int 48 t)
  g_JUDGES : mg "JUDGES" = some (.ref a.JUDGES)
  kd_JUDGES : ∃ es n, KDict K w a.JUDGES es n
  n_JUDGES_0 : PySem.W.nsIn K a.JUDGES (st [112, 117, 116]) = some (some (.ref a.is_put))
  n_JUDGES_1 : PySem.W.nsIn K a.JUDGES (st [112, 97, 116, 99, 104]) = some (some (.ref a.is_patch))
  n_JUDGES_2 : PySem.W.nsIn K a.JUDGES (st [100, 114, 111, 112]) = some (some (.ref a.is_drop))
  n_JUDGES_3 : PySem.W.nsIn K a.JUDGES (st [114, 101, 110, 97, 109, 101]) = some (some (.ref a.is_rename))
  cx_Refused : Xc K "ArithmeticError.__new__" tlArith (c 3)
  cf_Refused : PySem.W.findIn K (.ref (c 3)) "reason" = some none
  ci_Refused : PySem.W.findIn K (.ref (c 3)) "__init__" = some (some (.ref a.i_Refused))
  ct_Refused : PySem.W.typeIn K (.ref a.i_Refused) = some (.type "function")
  cF_Refused : Fun K "__init__" "Refused.__init__" s_i_Refused a.i_Refused d.i_Refused
  cB_Refused : Binds K d.i_Refused [("self" : Str), "reason"] []
  cg_Refused : mg "Refused" = some (.ref (c 3))
  cv_Refused : PySem.W.findCls K (.type "ArithmeticError") (.type "type") "__init__" = some (.val (.builtin "ArithmeticError.__init__"))
  ce_Refused : PySem.W.exmOne K (.ref (c 3)) (.ref (c 3)) = some true
  cz_Refused : xfB K (c 3) = true
  g_is_number : mg "is_number" = some (.ref a.is_number)
  k_is_number : PySem.W.keepIn K (.ref a.is_number) = true
  B_is_number : Binds K d.is_number ["value", "least", "most"] []
  F_is_number : Fun K "is_number" "is_number" s_is_number a.is_number d.is_number
  g_is_cell : mg "is_cell" = some (.ref a.is_cell)
  k_is_cell : PySem.W.keepIn K (.ref a.is_cell) = true
  B_is_cell : Binds K d.is_cell ["value"] []
  F_is_cell : Fun K "is_cell" "is_cell" s_is_cell a.is_cell d.is_cell
  g_is_cells : mg "is_cells" = some (.ref a.is_cells)
  k_is_cells : PySem.W.keepIn K (.ref a.is_cells) = true
  B_is_cells : Binds K d.is_cells ["value"] []
  F_is_cells : Fun K "is_cells" "is_cells" s_is_cells a.is_cells d.is_cells
  g_is_name : mg "is_name" = some (.ref a.is_name)
  k_is_name : PySem.W.keepIn K (.ref a.is_name) = true
  B_is_name : Binds K d.is_name ["value"] []
  F_is_name : Fun K "is_name" "is_name" s_is_name a.is_name d.is_name
  g_is_tree : mg "is_tree" = some (.ref a.is_tree)
  k_is_tree : PySem.W.keepIn K (.ref a.is_tree) = true
  B_is_tree : Binds K d.is_tree ["value"] []
  F_is_tree : Fun K "is_tree" "is_tree" s_is_tree a.is_tree d.is_tree
  g_is_entry : mg "is_entry" = some (.ref a.is_entry)
  k_is_entry : PySem.W.keepIn K (.ref a.is_entry) = true
  B_is_entry : Binds K d.is_entry ["value"] []
  F_is_entry : Fun K "is_entry" "is_entry" s_is_entry a.is_entry d.is_entry
  g_are_new : mg "are_new" = some (.ref a.are_new)
  k_are_new : PySem.W.keepIn K (.ref a.are_new) = true
  B_are_new : Binds K d.are_new ["value"] []
  F_are_new : Fun K "are_new" "are_new" s_are_new a.are_new d.are_new
  g_is_put : mg "is_put" = some (.ref a.is_put)
  k_is_put : PySem.W.keepIn K (.ref a.is_put) = true
  B_is_put : Binds K d.is_put ["value"] []
  F_is_put : Fun K "is_put" "is_put" s_is_put a.is_put d.is_put
  g_is_patch : mg "is_patch" = some (.ref a.is_patch)
  k_is_patch : PySem.W.keepIn K (.ref a.is_patch) = true
  B_is_patch : Binds K d.is_patch ["value"] []
  F_is_patch : Fun K "is_patch" "is_patch" s_is_patch a.is_patch d.is_patch
  g_is_drop : mg "is_drop" = some (.ref a.is_drop)
  k_is_drop : PySem.W.keepIn K (.ref a.is_drop) = true
  B_is_drop : Binds K d.is_drop ["value"] []
  F_is_drop : Fun K "is_drop" "is_drop" s_is_drop a.is_drop d.is_drop
  g_is_rename : mg "is_rename" = some (.ref a.is_rename)
  k_is_rename : PySem.W.keepIn K (.ref a.is_rename) = true
  B_is_rename : Binds K d.is_rename ["value"] []
  F_is_rename : Fun K "is_rename" "is_rename" s_is_rename a.is_rename d.is_rename
  g_is_deed : mg "is_deed" = some (.ref a.is_deed)
  k_is_deed : PySem.W.keepIn K (.ref a.is_deed) = true
  B_is_deed : Binds K d.is_deed ["value"] []
  F_is_deed : Fun K "is_deed" "is_deed" s_is_deed a.is_deed d.is_deed
  g_check_tree : mg "check_tree" = some (.ref a.check_tree)
  k_check_tree : PySem.W.keepIn K (.ref a.check_tree) = true
  B_check_tree : Binds K d.check_tree ["tree"] []
  F_check_tree : Fun K "check_tree" "check_tree" s_check_tree a.check_tree d.check_tree
  g_check_deed : mg "check_deed" = some (.ref a.check_deed)
  k_check_deed : PySem.W.keepIn K (.ref a.check_deed) = true
  B_check_deed : Binds K d.check_deed ["deed"] []
  F_check_deed : Fun K "check_deed" "check_deed" s_check_deed a.check_deed d.check_deed
  g_sorted_tree : mg "sorted_tree" = some (.ref a.sorted_tree)
  k_sorted_tree : PySem.W.keepIn K (.ref a.sorted_tree) = true
  B_sorted_tree : Binds K d.sorted_tree ["tree"] []
  F_sorted_tree : Fun K "sorted_tree" "sorted_tree" s_sorted_tree a.sorted_tree d.sorted_tree
  g_done : mg "done" = some (.ref a.done)
  k_done : PySem.W.keepIn K (.ref a.done) = true
  B_done : Binds K d.done ["tree", "deed"] []
  F_done : Fun K "done" "done" s_done a.done d.done
  g_refusal : mg "refusal" = some (.ref a.refusal)
  k_refusal : PySem.W.keepIn K (.ref a.refusal) = true
  B_refusal : Binds K d.refusal ["tree", "deed"] []
  F_refusal : Fun K "refusal" "refusal" s_refusal a.refusal d.refusal
  g_refusal_of : mg "refusal_of" = some (.ref a.refusal_of)
  k_refusal_of : PySem.W.keepIn K (.ref a.refusal_of) = true
  B_refusal_of : Binds K d.refusal_of ["tree", "deed"] []
  F_refusal_of : Fun K "refusal_of" "refusal_of" s_refusal_of a.refusal_of d.refusal_of
  g_patch_refusal : mg "patch_refusal" = some (.ref a.patch_refusal)
  k_patch_refusal : PySem.W.keepIn K (.ref a.patch_refusal) = true
  B_patch_refusal : Binds K d.patch_refusal ["deed", "length"] []
  F_patch_refusal : Fun K "patch_refusal" "patch_refusal" s_patch_refusal a.patch_refusal d.patch_refusal
  g_do_deed : mg "do_deed" = some (.ref a.do_deed)
  k_do_deed : PySem.W.keepIn K (.ref a.do_deed) = true
  B_do_deed : Binds K d.do_deed ["tree", "deed", "cells"] []
  F_do_deed : Fun K "do_deed" "do_deed" s_do_deed a.do_deed d.do_deed
  g_put_cells : mg "put_cells" = some (.ref a.put_cells)
  k_put_cells : PySem.W.keepIn K (.ref a.put_cells) = true
  B_put_cells : Binds K d.put_cells ["deed"] []
  F_put_cells : Fun K "put_cells" "put_cells" s_put_cells a.put_cells d.put_cells
  g_touched : mg "touched" = some (.ref a.touched)
  k_touched : PySem.W.keepIn K (.ref a.touched) = true
  B_touched : Binds K d.touched ["deed"] []
  F_touched : Fun K "touched" "touched" s_touched a.touched d.touched
  g_law_well : mg "_law_well" = some (.ref a.law_well)
  k_law_well : PySem.W.keepIn K (.ref a.law_well) = true
  B_law_well : Binds K d.law_well ["script", "spot"] []
  F_law_well : Fun K "_law_well" "_law_well" s_law_well a.law_well d.law_well
  g_law_drawn : mg "_law_drawn" = some (.ref a.law_drawn)
  k_law_drawn : PySem.W.keepIn K (.ref a.law_drawn) = true
  B_law_drawn : Binds K d.law_drawn ["well", "many"] []
  F_law_drawn : Fun K "_law_drawn" "_law_drawn" s_law_drawn a.law_drawn d.law_drawn
  g_law_given : mg "_law_given" = some (.ref a.law_given)
  k_law_given : PySem.W.keepIn K (.ref a.law_given) = true
  B_law_given : Binds K d.law_given ["well", "items"] []
  F_law_given : Fun K "_law_given" "_law_given" s_law_given a.law_given d.law_given
  g_law_cells : mg "_law_cells" = some (.ref a.law_cells)
  k_law_cells : PySem.W.keepIn K (.ref a.law_cells) = true
  B_law_cells : Binds K d.law_cells ["well", "most"] []
  F_law_cells : Fun K "_law_cells" "_law_cells" s_law_cells a.law_cells d.law_cells
  g_law_behind : mg "_law_behind" = some (.ref a.law_behind)
  k_law_behind : PySem.W.keepIn K (.ref a.law_behind) = true
  B_law_behind : Binds K d.law_behind ["tree", "deed"] []
  F_law_behind : Fun K "_law_behind" "_law_behind" s_law_behind a.law_behind d.law_behind
  g_law_names : mg "_law_names" = some (.ref a.law_names)
  k_law_names : PySem.W.keepIn K (.ref a.law_names) = true
  B_law_names : Binds K d.law_names [] []
  F_law_names : Fun K "_law_names" "_law_names" s_law_names a.law_names d.law_names
  g_law_odd_deed : mg "_law_odd_deed" = some (.ref a.law_odd_deed)
  k_law_odd_deed : PySem.W.keepIn K (.ref a.law_odd_deed) = true
  B_law_odd_deed : Binds K d.law_odd_deed ["well", "tree"] []
  F_law_odd_deed : Fun K "_law_odd_deed" "_law_odd_deed" s_law_odd_deed a.law_odd_deed d.law_odd_deed
  g_law_like : mg "_law_like" = some (.ref a.law_like)
  k_law_like : PySem.W.keepIn K (.ref a.law_like) = true
  B_law_like : Binds K d.law_like ["well", "tree", "deed"] []
  F_law_like : Fun K "_law_like" "_law_like" s_law_like a.law_like d.law_like
  g_law_refused : mg "_law_refused" = some (.ref a.law_refused)
  k_law_refused : PySem.W.keepIn K (.ref a.law_refused) = true
  B_law_refused : Binds K d.law_refused ["tree", "deed"] []
  F_law_refused : Fun K "_law_refused" "_law_refused" s_law_refused a.law_refused d.law_refused
  g_law_right : mg "_law_right" = some (.ref a.law_right)
  k_law_right : PySem.W.keepIn K (.ref a.law_right) = true
  B_law_right : Binds K d.law_right ["well"] []
  F_law_right : Fun K "_law_right" "_law_right" s_law_right a.law_right d.law_right
  g_law : mg "law" = some (.ref a.law)
  k_law : PySem.W.keepIn K (.ref a.law) = true
  B_law : Binds K d.law ["script"] []
  F_law : Fun K "law" "law" s_law a.law d.law
section
variable {P : Program} {w : World} {K : PySem.W.Frag} {mg : Str → Option Value} {base : Heap} {a : Ad} {d : Fd} {c : Nat → Addr}
theorem ok_init_Refused (T : Txt w K c mg a d) : FnG P w K mg base (L2.CX P w) 1 a.i_Refused d.i_Refused [("self" : Str), "reason"] (spI K "ArithmeticError.__new__" tlArith "reason") :=
  fn_init bas_arith T.cF_Refused sc_i_Refused rfl (by decide) (by decide) (by decide) (fun _ _ _ _ _ _ => by rfl) T.b_ArithmeticError (fun _ _ _ _ _ _ => ⟨_, by rfl⟩) PyProof.Rows.Boot.«ArithmeticError» (by decide) (by decide) T.cv_Refused
theorem ok_is_number (T : Txt w K c mg a d)  : FnG P w K mg base (L2.CX P w) 1 a.is_number d.is_number ["value", "least", "most"] (spF K c 3 d_is_number) := by
  refine fn_evG (b := b_is_number) T.F_is_number sc_is_number rfl rfl rfl fun cdv A outer s H E hr hg => ?_
  have tk := takes_of (X := cxOf (L2.CX P w) P w K mg base n_is_number "is_number" (defScope s_is_number) a.is_number cdv A outer s H E) rfl rfl rfl rfl
  exact (sb_cons (ss_if (st_w (sw_or (st_not (st_tru (se_isi (T := .int) (pe_callB call_isi (by rfl) T.b_isinstance (by decide +kernel) (pa_cons (se_sl 0) (pa_cons (pe_bltn (v := .ty "int") (by rfl) T.b_int (by decide +kernel) rfl) pa_nil)))) (by intro _; rfl))) (sw_or1 (st_tru (se_isi (T := .bool) (pe_callB call_isi (by rfl) T.b_isinstance (by decide +kernel) (pa_cons (se_sl 0) (pa_cons (pe_bltn (v := .ty "bool") (by rfl) T.b_bool (by decide +kernel) rfl) pa_nil)))) (by intro _; rfl))))) (sb_one (ss_ret se_bl)) sb_nil)
    (sb_one (ss_ret (se_chain x_le x_le (se_b (pe_callB (b_max2 rfl) (by rfl) T.b_max (by decide +kernel) (sl_cons (se_sl 1) (sl_cons (se_un x_neg (se_c (pe_glob (v := .int 999999999999999999999999999999999999999999999999999999999999) rfl T.c_LONGEST.choose_spec ⟨_, rfl⟩) fun _ _ => .int _)) sl_nil)))) (se_sl 0) (se_b (pe_callB (b_min2 rfl) (by rfl) T.b_min (by decide +kernel) (sl_cons (se_sl 2) (sl_cons (se_c (pe_glob (v := .int 999999999999999999999999999999999999999999999999999999999999) rfl T.c_LONGEST.choose_spec ⟨_, rfl⟩) fun _ _ => .int _) sl_nil))))))))
theorem ok_is_name (T : Txt w K c mg a d)  : FnG P w K mg base (L2.CX P w) 1 a.is_name d.is_name ["value"] (spF K c 1 d_is_name) := by
  refine fn_evG (b := b_is_name) T.F_is_name sc_is_name rfl rfl rfl fun cdv A outer s H E hr hg => ?_
  have tk := takes_of (X := cxOf (L2.CX P w) P w K mg base n_is_name "is_name" (defScope s_is_name) a.is_name cdv A outer s H E) rfl rfl rfl rfl
  exact (sb_cons (ss_if (st_w (sw_or (st_not (st_tru (se_isi (T := .str) (pe_callB call_isi (by rfl) T.b_isinstance (by decide +kernel) (pa_cons (se_sl 0) (pa_cons (pe_bltn (v := .ty "str") (by rfl) T.b_str (by decide +kernel) rfl) pa_nil)))) (by intro _; rfl))) (sw_or1 (st_not (st_chain x_le x_le se_int (se_b (pe_callB b_len (by rfl) T.b_len (by decide +kernel) (sl_cons (se_sl 0) sl_nil))) (se_c (pe_glob (v := .int 4) rfl T.c_MAX_NAME.choose_spec ⟨_, rfl⟩) fun _ _ => .int _)))))) (sb_one (ss_ret se_bl)) sb_nil)
    (sb_one (ss_ret (se_b (pe_callB (b_all rfl) (by rfl) T.b_all (by decide +kernel) (sl_cons (se_lc (gw_name (by decide)) (pe_lc (own := [("letter", 1)]) (g := (L2.gName 1)) rfl sc_is_name.nd (si_any (se_sl 0)) (blkOk_by (N := n_is_name) (sc := defScope s_is_name) (by decide +kernel)) (fun _ _ _ _ _ => (pg_name (i := 1) sc_is_name.nd rfl (by first | exact Or.inl rfl | exact Or.inr rfl) (by first | exact .inr rfl | exact .inl rfl))) (fun _ _ _ _ _ => sts_nil) (fun _ _ _ _ _ => (se_cmp (x_in (u65 hr)) (se_sl 1) (se_c (pe_glob (v := .str (st [97, 98, 99, 100, 101, 102, 103, 104, 105, 106, 107, 108, 109, 110, 111, 112, 113, 114, 115, 116, 117, 118, 119, 120, 121, 122])) rfl T.c_LETTERS.choose_spec ⟨_, rfl⟩) fun _ _ => .str _) (by with_unfolding_all rfl))))) sl_nil))))))
theorem ok_sorted_tree (T : Txt w K c mg a d)  : FnG P w K mg base (L2.CX P w) 1 a.sorted_tree d.sorted_tree ["tree"] (spF K c 1 d_sorted_tree) := by
  refine fn_evG (b := b_sorted_tree) T.F_sorted_tree sc_sorted_tree rfl rfl rfl fun cdv A outer s H E hr hg => ?_
  have tk := takes_of (X := cxOf (L2.CX P w) P w K mg base n_sorted_tree "sorted_tree" (defScope s_sorted_tree) a.sorted_tree cdv A outer s H E) rfl rfl rfl rfl
  exact (sb_one (ss_ret (se_dc (gw_name (by decide)) (pe_dc (own := [("name", 1)]) (g := (L2.gName 1)) rfl sc_sorted_tree.nd (si_any (se_b (pe_callB (b_sorted rfl) (by rfl) T.b_sorted (by decide +kernel) (sl_cons (se_sl 0) sl_nil)))) (blkOk_by (N := n_sorted_tree) (sc := defScope s_sorted_tree) (by decide +kernel)) (fun _ _ _ _ _ => (pg_name (i := 1) sc_sorted_tree.nd rfl (by first | exact Or.inl rfl | exact Or.inr rfl) (by first | exact .inr rfl | exact .inl rfl))) (fun _ _ _ _ _ => sts_nil) (fun _ _ _ _ _ => (se_sl 1)) (fun _ _ _ _ _ => (se_dget (u1 hr) (se_sl 0) (se_sl 1) (fun _ _ => rfl)))))))
theorem ok_patch_refusal (T : Txt w K c mg a d)  : FnG P w K mg base (L2.CX P w) 1 a.patch_refusal d.patch_refusal ["deed", "length"] (spF K c 2 d_patch_refusal) := by
  refine fn_evG (b := b_patch_refusal) T.F_patch_refusal sc_patch_refusal rfl rfl rfl fun cdv A outer s H E hr hg => ?_
  have tk := takes_of (X := cxOf (L2.CX P w) P w K mg base n_patch_refusal "patch_refusal" (defScope s_patch_refusal) a.patch_refusal cdv A outer s H E) rfl rfl rfl rfl
  exact (sb_cons (ss_asg (ps_asg (se_sl 0) (sg_tup (pg_tup rfl (sgs_cons (pgs_cons (sg_name (i := 2) sc_patch_refusal.nd rfl (Or.inl rfl)) (sgs_cons (pgs_cons (sg_name (i := 3) sc_patch_refusal.nd rfl (Or.inl rfl)) (sgs_cons (pgs_cons (sg_name (i := 4) sc_patch_refusal.nd rfl (Or.inl rfl)) (sgs_cons (pgs_cons (sg_name (i := 5) sc_patch_refusal.nd rfl (Or.inl rfl)) (sgs_cons (pgs_cons (sg_name (i := 6) sc_patch_refusal.nd rfl (Or.inl rfl)) sgs_nil))))))))))))))
    (sb_cons (ss_if (st_w (sw_or (st_cmp x_gt (se_sl 4) (se_sl 1) (nomark _)) (sw_or1 (st_cmp x_gt (se_sl 5) (se_op x_sub (se_sl 1) (se_sl 4)) (nomark _))))) (sb_one (ss_ret (se_tup (sl_cons (se_str (by decide +kernel)) (sl_cons (se_sl 3) sl_nil))))) sb_nil)
    (sb_cons (ss_if (st_cmp x_gt (se_op x_add (se_op x_sub (se_sl 1) (se_sl 5)) (se_b (pe_callB b_len (by rfl) T.b_len (by decide +kernel) (sl_cons (se_sl 6) sl_nil)))) (se_c (pe_glob (v := .int 996) rfl T.c_MOST_LENGTH.choose_spec ⟨_, rfl⟩) fun _ _ => .int _) (nomark _)) (sb_one (ss_ret (se_tup (sl_cons (se_str (by decide +kernel)) (sl_cons (se_sl 3) sl_nil))))) sb_nil)
    (sb_one (ss_ret se_non)))))
theorem ok_do_deed (T : Txt w K c mg a d)  : FnG P w K mg base (L2.CX P w) 1 a.do_deed d.do_deed ["tree", "deed", "cells"] (spF K c 3 d_do_deed) := by
  refine fn_evG (b := b_do_deed) T.F_do_deed sc_do_deed rfl rfl rfl fun cdv A outer s H E hr hg => ?_
  have tk := takes_of (X := cxOf (L2.CX P w) P w K mg base n_do_deed "do_deed" (defScope s_do_deed) a.do_deed cdv A outer s H E) rfl rfl rfl rfl
  exact (sb_cons (ss_par (ps_par (i := 3) (j := 4) (by rfl) sc_do_deed.nd rfl rfl (by decide) rfl rfl (sl_cons (se_ix (se_sl 1) se_int (fun _ _ => rfl)) (sl_cons (se_ix (se_sl 1) se_int (fun _ _ => rfl)) sl_nil)) (by rfl)))
    (sb_one (ss_if (st_cmp (x_eq hr.units) (se_sl 3) (se_str (by decide +kernel)) (nomark _)) (sb_one (ss_dput (u1 hr) (se_sl 0) (se_sl 4) (se_sl 2) (by rfl))) (sb_one (ss_if (st_cmp (x_eq hr.units) (se_sl 3) (se_str (by decide +kernel)) (nomark _)) (sb_cons (ss_par (ps_par (i := 5) (j := 6) (by rfl) sc_do_deed.nd rfl rfl (by decide) rfl rfl (sl_cons (se_ix (se_sl 1) se_int (fun _ _ => rfl)) (sl_cons (se_ix (se_sl 1) se_int (fun _ _ => rfl)) sl_nil)) (by rfl)))
    (sb_one (ss_dput (u1 hr) (se_sl 0) (se_sl 4) (se_op x_add (se_op x_add (se_slice (se_dget (u1 hr) (se_sl 0) (se_sl 4) (fun _ _ => rfl)) sp_none (sp_some (se_sl 5))) (se_sl 2)) (se_slice (se_dget (u1 hr) (se_sl 0) (se_sl 4) (fun _ _ => rfl)) (sp_some (se_op x_add (se_sl 5) (se_sl 6))) sp_none)) (by rfl)))) (sb_cons (ss_set (i := 7) sc_do_deed.nd rfl (Or.inl rfl) (se_dpop (se_sl 0) (se_sl 4) ⟨by rfl, by rfl, by rfl, by rfl⟩))
    (sb_one (ss_if (st_cmp (x_eq hr.units) (se_sl 3) (se_str (by decide +kernel)) (nomark _)) (sb_one (ss_dput (u1 hr) (se_sl 0) (se_ix (se_sl 1) se_int (fun _ _ => rfl)) (se_sl 7) (by rfl))) sb_nil))))))))
theorem ok_put_cells (T : Txt w K c mg a d)  : FnG P w K mg base (L2.CX P w) 1 a.put_cells d.put_cells ["deed"] (spF K c 1 d_put_cells) := by
  refine fn_evG (b := b_put_cells) T.F_put_cells sc_put_cells rfl rfl rfl fun cdv A outer s H E hr hg => ?_
  have tk := takes_of (X := cxOf (L2.CX P w) P w K mg base n_put_cells "put_cells" (defScope s_put_cells) a.put_cells cdv A outer s H E) rfl rfl rfl rfl
  exact (sb_one (ss_ret (se_if (st_cmp (x_in (u65 hr)) (se_ix (se_sl 0) se_int (fun _ _ => rfl)) (se_tup (sl_cons (se_str (by decide +kernel)) (sl_cons (se_str (by decide +kernel)) sl_nil))) (by with_unfolding_all rfl)) (se_ix (se_sl 0) (se_un x_neg se_int) (fun _ _ => rfl)) (se_tup sl_nil))))
theorem ok_law_well (T : Txt w K c mg a d)  : FnG P w K mg base (L2.CX P w) 1 a.law_well d.law_well ["script", "spot"] (spF K c 2 d_law_well) := by
  refine fn_evG (b := b_law_well) T.F_law_well sc_law_well rfl rfl rfl fun cdv A outer s H E hr hg => ?_
  have tk := takes_of (X := cxOf (L2.CX P w) P w K mg base n_law_well "_law_well" (defScope s_law_well) a.law_well cdv A outer s H E) rfl rfl rfl rfl
  exact (sb_cons (ss_set (i := 2) sc_law_well.nd rfl (Or.inl rfl) (se_if (st_cmp x_lt (se_sl 1) (se_b (pe_callB b_len (by rfl) T.b_len (by decide +kernel) (sl_cons (se_sl 0) sl_nil))) (nomark _)) (se_b (pe_callTy b_int (by rfl) T.b_int (by decide +kernel) (sl_cons (se_ix (se_sl 0) (se_sl 1) (fun _ _ => rfl)) sl_nil))) (se_op x_add (se_op x_add (se_op x_mulG se_int (se_sl 1)) se_int) (se_op x_mod (se_b (pe_callTy b_int (by rfl) T.b_int (by decide +kernel) (sl_cons (se_b (pe_callB (b_sum rfl) (by rfl) T.b_sum (by decide +kernel) (sl_cons (se_slice (se_sl 0) sp_none (sp_some se_int)) sl_nil))) sl_nil))) se_int))))
    (sb_cons (ss_set (i := 3) sc_law_well.nd rfl (Or.inl rfl) (se_op x_mod (se_b (pe_callTy b_int (by rfl) T.b_int (by decide +kernel) (sl_cons (se_b (pe_callB b_abs (by rfl) T.b_abs (by decide +kernel) (sl_cons (se_sl 2) sl_nil))) sl_nil))) (se_op x_pow (se_op x_pow se_int se_int) se_int)))
    (sb_cons (ss_set (i := 4) sc_law_well.nd rfl (Or.inl rfl) (se_b (pe_callTy b_int (by rfl) T.b_int (by decide +kernel) (sl_cons (se_op x_add (se_op x_add (se_op x_add (se_op x_mulG (se_op x_mod (se_sl 3) se_int) se_int) (se_op x_mulG se_int (se_sl 1))) (se_op x_mulG se_int (se_b (pe_callTy b_int (by rfl) T.b_int (by decide +kernel) (sl_cons (se_cmp x_lt (se_sl 2) se_int (nomark _)) sl_nil))))) se_int) sl_nil))))
    (sb_one (ss_ret (se_lst (sl_cons (se_b (pe_callB (b_max2 rfl) (by rfl) T.b_max (by decide +kernel) (sl_cons se_int (sl_cons (se_op x_sub (se_sl 3) (se_op x_pow se_int se_int)) sl_nil)))) (sl_cons (se_op x_mod (se_sl 4) se_int) (sl_cons se_int sl_nil)))))))))
theorem ok_law_drawn (T : Txt w K c mg a d)  : FnG P w K mg base (L2.CX P w) 1 a.law_drawn d.law_drawn ["well", "many"] (spF K c 2 d_law_drawn) := by
  refine fn_evG (b := b_law_drawn) T.F_law_drawn sc_law_drawn rfl rfl rfl fun cdv A outer s H E hr hg => ?_
  have tk := takes_of (X := cxOf (L2.CX P w) P w K mg base n_law_drawn "_law_drawn" (defScope s_law_drawn) a.law_drawn cdv A outer s H E) rfl rfl rfl rfl
  exact (sb_cons (ss_if (st_cmp x_gt (se_ix (se_sl 0) se_int (fun _ _ => rfl)) se_int (nomark _)) (sb_cons (ss_set (i := 2) sc_law_drawn.nd rfl (Or.inl rfl) (se_op x_mod (se_b (pe_callTy b_int (by rfl) T.b_int (by decide +kernel) (sl_cons (se_ix (se_sl 0) se_int (fun _ _ => rfl)) sl_nil))) (se_sl 1)))
    (sb_cons (ss_asg (ps_asg (se_op x_div (se_ix (se_sl 0) se_int (fun _ _ => rfl)) (se_sl 1)) (sg_sub (c := c) (W := fun cls d _ H' => E cls d H') (pg_sub (se_sl 0) se_int x_setL))))
    (sb_one (ss_ret (se_sl 2))))) sb_nil)
    (sb_cons (ss_asg (ps_asg (se_op x_add (se_ix (se_sl 0) se_int (fun _ _ => rfl)) se_int) (sg_sub (c := c) (W := fun cls d _ H' => E cls d H') (pg_sub (se_sl 0) se_int x_setL))))
    (sb_cons (ss_set (i := 3) sc_law_drawn.nd rfl (Or.inl rfl) (se_op x_mod (se_b (pe_callTy b_int (by rfl) T.b_int (by decide +kernel) (sl_cons (se_op x_add (se_ix (se_sl 0) se_int (fun _ _ => rfl)) (se_op x_mulG se_int (se_ix (se_sl 0) se_int (fun _ _ => rfl)))) sl_nil))) se_int))
    (sb_cons (ss_set (i := 4) sc_law_drawn.nd rfl (Or.inl rfl) (se_op x_add (se_op x_add (se_op x_mulG (se_op x_mod (se_b (pe_callTy b_int (by rfl) T.b_int (by decide +kernel) (sl_cons (se_op x_mulG (se_sl 3) (se_sl 3)) sl_nil))) se_int) se_int) (se_sl 3)) (se_op x_mulG se_int (se_ix (se_sl 0) se_int (fun _ _ => rfl)))))
    (sb_one (ss_ret (se_op x_mod (se_b (pe_callTy b_int (by rfl) T.b_int (by decide +kernel) (sl_cons (se_op x_div (se_sl 4) se_int) sl_nil))) (se_sl 1))))))))
theorem ok_law_behind (T : Txt w K c mg a d)  : FnG P w K mg base (L2.CX P w) 1 a.law_behind d.law_behind ["tree", "deed"] (spF K c 2 d_law_behind) := by
  refine fn_evG (b := b_law_behind) T.F_law_behind sc_law_behind rfl rfl rfl fun cdv A outer s H E hr hg => ?_
  have tk := takes_of (X := cxOf (L2.CX P w) P w K mg base n_law_behind "_law_behind" (defScope s_law_behind) a.law_behind cdv A outer s H E) rfl rfl rfl rfl
  exact (sb_cons (ss_par3 (ps_par3 (i := 2) (j := 3) (l := 4) (by rfl) sc_law_behind.nd rfl rfl rfl (by decide) (by decide) (by decide) rfl rfl rfl (sl_cons (se_ix (se_sl 1) se_int (fun _ _ => rfl)) (sl_cons (se_ix (se_sl 1) se_int (fun _ _ => rfl)) (sl_cons (se_b (pe_callTy (b_dictP rfl) (by rfl) T.b_dict (by decide +kernel) (sl_cons (se_items (LiI.pe_listItems (by rfl) (se_sl 0) (by rfl) T.b_list (by decide +kernel))) sl_nil))) sl_nil))) (by rfl)))
    (sb_cons (ss_if (st_cmp (x_eq hr.units) (se_sl 2) (se_str (by decide +kernel)) (nomark _)) (sb_cons (ss_dput (u1 hr) (se_sl 4) (se_sl 3) (se_ix (se_sl 1) se_int (fun _ _ => rfl)) (by rfl))
    (sb_one (ss_ret (se_tup (sl_cons se_non (sl_cons (se_sl 4) sl_nil)))))) sb_nil)
    (sb_cons (ss_if (st_dnotin (u1 hr) (se_sl 3) (se_sl 0) (by with_unfolding_all rfl)) (sb_one (ss_ret (se_tup (sl_cons (se_tup (sl_cons (se_str (by decide +kernel)) (sl_cons (se_sl 3) sl_nil))) (sl_cons (se_sl 0) sl_nil))))) sb_nil)
    (sb_cons (ss_if (st_cmp (x_eq hr.units) (se_sl 2) (se_str (by decide +kernel)) (nomark _)) (sb_cons (ss_par3 (ps_par3 (i := 5) (j := 6) (l := 7) (by rfl) sc_law_behind.nd rfl rfl rfl (by decide) (by decide) (by decide) rfl rfl rfl (sl_cons (se_b (pe_callTy b_list (by rfl) T.b_list (by decide +kernel) (sl_cons (se_dget (u1 hr) (se_sl 0) (se_sl 3) (fun _ _ => rfl)) sl_nil))) (sl_cons (se_ix (se_sl 1) se_int (fun _ _ => rfl)) (sl_cons (se_ix (se_sl 1) se_int (fun _ _ => rfl)) sl_nil))) (by rfl)))
    (sb_cons (ss_if (st_w (sw_or (st_cmp x_gt (se_sl 6) (se_b (pe_callB b_len (by rfl) T.b_len (by decide +kernel) (sl_cons (se_sl 5) sl_nil))) (nomark _)) (sw_or1 (st_cmp x_gt (se_op x_add (se_sl 6) (se_sl 7)) (se_b (pe_callB b_len (by rfl) T.b_len (by decide +kernel) (sl_cons (se_sl 5) sl_nil))) (nomark _))))) (sb_one (ss_ret (se_tup (sl_cons (se_tup (sl_cons (se_str (by decide +kernel)) (sl_cons (se_sl 3) sl_nil))) (sl_cons (se_sl 0) sl_nil))))) sb_nil)
    (sb_cons (ss_setSl (se_b (pe_callTy b_list (by rfl) T.b_list (by decide +kernel) (sl_cons (se_ix (se_sl 1) se_int (fun _ _ => rfl)) sl_nil))) (se_sl 5) (sp_some (se_sl 6)) (sp_some (se_op x_add (se_sl 6) (se_sl 7))) (by rfl))
    (sb_cons (ss_if (st_cmp x_gt (se_b (pe_callB b_len (by rfl) T.b_len (by decide +kernel) (sl_cons (se_sl 5) sl_nil))) se_int (nomark _)) (sb_one (ss_ret (se_tup (sl_cons (se_tup (sl_cons (se_str (by decide +kernel)) (sl_cons (se_sl 3) sl_nil))) (sl_cons (se_sl 0) sl_nil))))) sb_nil)
    (sb_cons (ss_dput (u1 hr) (se_sl 4) (se_sl 3) (se_b (pe_callTy b_tuple (by rfl) T.b_tuple (by decide +kernel) (sl_cons (se_sl 5) sl_nil))) (by rfl))
    (sb_one (ss_ret (se_tup (sl_cons se_non (sl_cons (se_sl 4) sl_nil)))))))))) sb_nil)
    (sb_cons (ss_if (st_w (sw_and (st_cmp (x_eq hr.units) (se_sl 2) (se_str (by decide +kernel)) (nomark _)) (sw_and1 (st_din (u1 hr) (se_ix (se_sl 1) se_int (fun _ _ => rfl)) (se_sl 0) (by with_unfolding_all rfl))))) (sb_one (ss_ret (se_tup (sl_cons (se_tup (sl_cons (se_str (by decide +kernel)) (sl_cons (se_ix (se_sl 1) se_int (fun _ _ => rfl)) sl_nil))) (sl_cons (se_sl 0) sl_nil))))) sb_nil)
    (sb_cons (ss_set (i := 8) sc_law_behind.nd rfl (Or.inl rfl) (se_dpop (se_sl 4) (se_sl 3) ⟨by rfl, by rfl, by rfl, by rfl⟩))
    (sb_cons (ss_if (st_cmp (x_eq hr.units) (se_sl 2) (se_str (by decide +kernel)) (nomark _)) (sb_one (ss_dput (u1 hr) (se_sl 4) (se_ix (se_sl 1) se_int (fun _ _ => rfl)) (se_sl 8) (by rfl))) sb_nil)
    (sb_one (ss_ret (se_tup (sl_cons se_non (sl_cons (se_sl 4) sl_nil))))))))))))
theorem ok_law_names (T : Txt w K c mg a d)  : FnG P w K mg base (L2.CX P w) 1 a.law_names d.law_names [] (spF K c 0 d_law_names) := by
  refine fn_evG (b := b_law_names) T.F_law_names sc_law_names rfl rfl rfl fun cdv A outer s H E hr hg => ?_
  have tk := takes_of (X := cxOf (L2.CX P w) P w K mg base n_law_names "_law_names" (defScope s_law_names) a.law_names cdv A outer s H E) rfl rfl rfl rfl
  exact (sb_one (ss_ret (se_lst (sl_cons (se_str (by decide +kernel)) (sl_cons (se_str (by decide +kernel)) (sl_cons (se_str (by decide +kernel)) (sl_cons (se_str (by decide +kernel)) (sl_cons (se_str (by decide +kernel)) sl_nil))))))))
theorem ok_is_cell (T : Txt w K c mg a d) (G_is_number : FnG P w K mg base (L2.CX P w) 1 a.is_number d.is_number ["value", "least", "most"] (spF K c 3 d_is_number)) : FnG P w K mg base (L2.CX P w) 2 a.is_cell d.is_cell ["value"] (spF K c 1 d_is_cell) := by
  refine fn_evG (b := b_is_cell) T.F_is_cell sc_is_cell rfl rfl rfl fun cdv A outer s H E hr hg => ?_
  have tk := takes_of (X := cxOf (L2.CX P w) P w K mg base n_is_cell "is_cell" (defScope s_is_cell) a.is_cell cdv A outer s H E) rfl rfl rfl rfl
  exact (sb_one (ss_ret (se_call (pe_callG G_is_number (hr.mono (by decide)) hg (by rfl) T.g_is_number T.k_is_number T.B_is_number (fun σ => passAt tk σ) (sl_cons (se_sl 0) (sl_cons se_int (sl_cons (se_c (pe_glob (v := .int 996) rfl T.c_MAX_CELL.choose_spec ⟨_, rfl⟩) fun _ _ => .int _) sl_nil)))) runB_bad)))
theorem ok_is_drop (T : Txt w K c mg a d) (G_is_name : FnG P w K mg base (L2.CX P w) 1 a.is_name d.is_name ["value"] (spF K c 1 d_is_name)) : FnG P w K mg base (L2.CX P w) 2 a.is_drop d.is_drop ["value"] (spF K c 1 d_is_drop) := by
  refine fn_evG (b := b_is_drop) T.F_is_drop sc_is_drop rfl rfl rfl fun cdv A outer s H E hr hg => ?_
  have tk := takes_of (X := cxOf (L2.CX P w) P w K mg base n_is_drop "is_drop" (defScope s_is_drop) a.is_drop cdv A outer s H E) rfl rfl rfl rfl
  exact (sb_one (ss_ret (se_and (se_cmp (x_eq hr.units) (se_b (pe_callB b_len (by rfl) T.b_len (by decide +kernel) (sl_cons (se_sl 0) sl_nil))) se_int (nomark _)) (se_one (se_call (pe_callG G_is_name (hr.mono (by decide)) hg (by rfl) T.g_is_name T.k_is_name T.B_is_name (fun σ => passAt tk σ) (sl_cons (se_ix (se_sl 0) se_int (fun _ _ => rfl)) sl_nil)) runB_bad)))))
theorem ok_is_rename (T : Txt w K c mg a d) (G_is_name : FnG P w K mg base (L2.CX P w) 1 a.is_name d.is_name ["value"] (spF K c 1 d_is_name)) : FnG P w K mg base (L2.CX P w) 2 a.is_rename d.is_rename ["value"] (spF K c 1 d_is_rename) := by
  refine fn_evG (b := b_is_rename) T.F_is_rename sc_is_rename rfl rfl rfl fun cdv A outer s H E hr hg => ?_
  have tk := takes_of (X := cxOf (L2.CX P w) P w K mg base n_is_rename "is_rename" (defScope s_is_rename) a.is_rename cdv A outer s H E) rfl rfl rfl rfl
  exact (sb_one (ss_ret (se_and (se_cmp (x_eq hr.units) (se_b (pe_callB b_len (by rfl) T.b_len (by decide +kernel) (sl_cons (se_sl 0) sl_nil))) se_int (nomark _)) (se_and (se_call (pe_callG G_is_name (hr.mono (by decide)) hg (by rfl) T.g_is_name T.k_is_name T.B_is_name (fun σ => passAt tk σ) (sl_cons (se_ix (se_sl 0) se_int (fun _ _ => rfl)) sl_nil)) runB_bad) (se_and (se_call (pe_callG G_is_name (hr.mono (by decide)) hg (by rfl) T.g_is_name T.k_is_name T.B_is_name (fun σ => passAt tk σ) (sl_cons (se_ix (se_sl 0) se_int (fun _ _ => rfl)) sl_nil)) runB_bad) (se_one (se_cmp (x_ne hr.units) (se_ix (se_sl 0) se_int (fun _ _ => rfl)) (se_ix (se_sl 0) se_int (fun _ _ => rfl)) (nomark _))))))))
theorem ok_refusal_of (T : Txt w K c mg a d) (G_patch_refusal : FnG P w K mg base (L2.CX P w) 1 a.patch_refusal d.patch_refusal ["deed", "length"] (spF K c 2 d_patch_refusal)) : FnG P w K mg base (L2.CX P w) 2 a.refusal_of d.refusal_of ["tree", "deed"] (spF K c 2 d_refusal_of) := by
  refine fn_evG (b := b_refusal_of) T.F_refusal_of sc_refusal_of rfl rfl rfl fun cdv A outer s H E hr hg => ?_
  have tk := takes_of (X := cxOf (L2.CX P w) P w K mg base n_refusal_of "refusal_of" (defScope s_refusal_of) a.refusal_of cdv A outer s H E) rfl rfl rfl rfl
  exact (sb_cons (ss_par (ps_par (i := 2) (j := 3) (by rfl) sc_refusal_of.nd rfl rfl (by decide) rfl rfl (sl_cons (se_ix (se_sl 1) se_int (fun _ _ => rfl)) (sl_cons (se_ix (se_sl 1) se_int (fun _ _ => rfl)) sl_nil)) (by rfl)))
    (sb_cons (ss_if (st_cmp (x_eq hr.units) (se_sl 2) (se_str (by decide +kernel)) (nomark _)) (sb_one (ss_ret se_non)) sb_nil)
    (sb_cons (ss_if (st_dnotin (u1 hr) (se_sl 3) (se_sl 0) (by with_unfolding_all rfl)) (sb_one (ss_ret (se_tup (sl_cons (se_str (by decide +kernel)) (sl_cons (se_sl 3) sl_nil))))) sb_nil)
    (sb_cons (ss_if (st_w (sw_and (st_cmp (x_eq hr.units) (se_sl 2) (se_str (by decide +kernel)) (nomark _)) (sw_and1 (st_din (u1 hr) (se_ix (se_sl 1) se_int (fun _ _ => rfl)) (se_sl 0) (by with_unfolding_all rfl))))) (sb_one (ss_ret (se_tup (sl_cons (se_str (by decide +kernel)) (sl_cons (se_ix (se_sl 1) se_int (fun _ _ => rfl)) sl_nil))))) sb_nil)
    (sb_cons (ss_if (st_cmp (x_eq hr.units) (se_sl 2) (se_str (by decide +kernel)) (nomark _)) (sb_one (ss_ret (se_call (pe_callG G_patch_refusal (hr.mono (by decide)) hg (by rfl) T.g_patch_refusal T.k_patch_refusal T.B_patch_refusal (fun σ => passAt tk σ) (sl_cons (se_sl 1) (sl_cons (se_b (pe_callB b_len (by rfl) T.b_len (by decide +kernel) (sl_cons (se_dget (u1 hr) (se_sl 0) (se_sl 3) (fun _ _ => rfl)) sl_nil))) sl_nil))) runB_bad))) sb_nil)
    (sb_one (ss_ret se_non)))))))
theorem ok_law_given (T : Txt w K c mg a d) (G_law_drawn : FnG P w K mg base (L2.CX P w) 1 a.law_drawn d.law_drawn ["well", "many"] (spF K c 2 d_law_drawn)) : FnG P w K mg base (L2.CX P w) 2 a.law_given d.law_given ["well", "items"] (spF K c 2 d_law_given) := by
  refine fn_evG (b := b_law_given) T.F_law_given sc_law_given rfl rfl rfl fun cdv A outer s H E hr hg => ?_
  have tk := takes_of (X := cxOf (L2.CX P w) P w K mg base n_law_given "_law_given" (defScope s_law_given) a.law_given cdv A outer s H E) rfl rfl rfl rfl
  exact (sb_one (ss_ret (se_ix (se_sl 1) (se_call (pe_callG G_law_drawn (hr.mono (by decide)) hg (by rfl) T.g_law_drawn T.k_law_drawn T.B_law_drawn (fun σ => passAt tk σ) (sl_cons (se_sl 0) (sl_cons (se_b (pe_callB b_len (by rfl) T.b_len (by decide +kernel) (sl_cons (se_sl 1) sl_nil))) sl_nil))) runB_bad) (fun _ _ => rfl))))
theorem ok_is_cells (T : Txt w K c mg a d) (G_is_cell : FnG P w K mg base (L2.CX P w) 2 a.is_cell d.is_cell ["value"] (spF K c 1 d_is_cell)) : FnG P w K mg base (L2.CX P w) 3 a.is_cells d.is_cells ["value"] (spF K c 1 d_is_cells) := by
  refine fn_evG (b := b_is_cells) T.F_is_cells sc_is_cells rfl rfl rfl fun cdv A outer s H E hr hg => ?_
  have tk := takes_of (X := cxOf (L2.CX P w) P w K mg base n_is_cells "is_cells" (defScope s_is_cells) a.is_cells cdv A outer s H E) rfl rfl rfl rfl
  exact (sb_one (ss_ret (se_and (se_isi (T := .tuple) (pe_callB call_isi (by rfl) T.b_isinstance (by decide +kernel) (pa_cons (se_sl 0) (pa_cons (pe_bltn (v := .ty "tuple") (by rfl) T.b_tuple (by decide +kernel) rfl) pa_nil)))) (se_one (se_b (pe_callB (b_all rfl) (by rfl) T.b_all (by decide +kernel) (sl_cons (se_lc (gw_name (by decide)) (pe_lc (own := [("cell", 1)]) (g := (L2.gName 1)) rfl sc_is_cells.nd (si_any (se_sl 0)) (blkOk_by (N := n_is_cells) (sc := defScope s_is_cells) (by decide +kernel)) (fun _ _ _ _ _ => (pg_name (i := 1) sc_is_cells.nd rfl (by first | exact Or.inl rfl | exact Or.inr rfl) (by first | exact .inr rfl | exact .inl rfl))) (fun _ _ _ _ _ => sts_nil) (fun _ _ _ _ _ => (se_call (pe_callG G_is_cell (hr.mono (by decide)) hg (by rfl) T.g_is_cell T.k_is_cell T.B_is_cell (fun σ => passAt takes0 σ) (sl_cons (se_sl 1) sl_nil)) runB_bad)))) sl_nil)))))))
theorem ok_law_cells (T : Txt w K c mg a d) (G_law_drawn : FnG P w K mg base (L2.CX P w) 1 a.law_drawn d.law_drawn ["well", "many"] (spF K c 2 d_law_drawn)) (G_law_given : FnG P w K mg base (L2.CX P w) 2 a.law_given d.law_given ["well", "items"] (spF K c 2 d_law_given)) : FnG P w K mg base (L2.CX P w) 3 a.law_cells d.law_cells ["well", "most"] (spF K c 2 d_law_cells) := by
  refine fn_evG (b := b_law_cells) T.F_law_cells sc_law_cells rfl rfl rfl fun cdv A outer s H E hr hg => ?_
  have tk := takes_of (X := cxOf (L2.CX P w) P w K mg base n_law_cells "_law_cells" (defScope s_law_cells) a.law_cells cdv A outer s H E) rfl rfl rfl rfl
  exact (sb_cons (ss_set (i := 2) sc_law_cells.nd rfl (Or.inl rfl) (se_lst sl_nil))
    (sb_cons (ss_for (ps_for (passes_of rfl) rfl (si_range1 (pi_range1 (by rfl) T.b_range (sl_cons (se_call (pe_callG G_law_drawn (hr.mono (by decide)) hg (by rfl) T.g_law_drawn T.k_law_drawn T.B_law_drawn (fun σ => passAt tk σ) (sl_cons (se_sl 0) (sl_cons (se_op x_add (se_sl 1) se_int) sl_nil))) runB_bad) sl_nil))) (sg_name (i := 3) sc_law_cells.nd rfl (Or.inl rfl)) (sb_one (ss_expr (se_m (T := .list) (pe_bm PySem.F.plainAttrs_list PySem.F.slot_list_append PySem.F.type_list_append m_append (se_sl 2) (sl_cons (se_call (pe_callG G_law_given (hr.mono (by decide)) hg (by rfl) T.g_law_given T.k_law_given T.B_law_given (fun σ => passAt tk σ) (sl_cons (se_sl 0) (sl_cons (se_lst (sl_cons se_int (sl_cons se_int (sl_cons se_int (sl_cons se_int (sl_cons (se_call (pe_callG G_law_drawn (hr.mono (by decide)) hg (by rfl) T.g_law_drawn T.k_law_drawn T.B_law_drawn (fun σ => passAt tk σ) (sl_cons (se_sl 0) (sl_cons se_int sl_nil))) runB_bad) sl_nil)))))) sl_nil))) runB_bad) sl_nil)))))))
    (sb_one (ss_ret (se_b (pe_callTy b_tuple (by rfl) T.b_tuple (by decide +kernel) (sl_cons (se_sl 2) sl_nil)))))))
theorem ok_is_entry (T : Txt w K c mg a d) (G_is_cells : FnG P w K mg base (L2.CX P w) 3 a.is_cells d.is_cells ["value"] (spF K c 1 d_is_cells)) : FnG P w K mg base (L2.CX P w) 4 a.is_entry d.is_entry ["value"] (spF K c 1 d_is_entry) := by
  refine fn_evG (b := b_is_entry) T.F_is_entry sc_is_entry rfl rfl rfl fun cdv A outer s H E hr hg => ?_
  have tk := takes_of (X := cxOf (L2.CX P w) P w K mg base n_is_entry "is_entry" (defScope s_is_entry) a.is_entry cdv A outer s H E) rfl rfl rfl rfl
  exact (sb_one (ss_ret (se_and (se_call (pe_callG G_is_cells (hr.mono (by decide)) hg (by rfl) T.g_is_cells T.k_is_cells T.B_is_cells (fun σ => passAt tk σ) (sl_cons (se_sl 0) sl_nil)) runB_bad) (se_one (se_cmp x_le (se_b (pe_callB b_len (by rfl) T.b_len (by decide +kernel) (sl_cons (se_sl 0) sl_nil))) (se_c (pe_glob (v := .int 996) rfl T.c_MOST_LENGTH.choose_spec ⟨_, rfl⟩) fun _ _ => .int _) (nomark _))))))
theorem ok_are_new (T : Txt w K c mg a d) (G_is_cells : FnG P w K mg base (L2.CX P w) 3 a.is_cells d.is_cells ["value"] (spF K c 1 d_is_cells)) : FnG P w K mg base (L2.CX P w) 4 a.are_new d.are_new ["value"] (spF K c 1 d_are_new) := by
  refine fn_evG (b := b_are_new) T.F_are_new sc_are_new rfl rfl rfl fun cdv A outer s H E hr hg => ?_
  have tk := takes_of (X := cxOf (L2.CX P w) P w K mg base n_are_new "are_new" (defScope s_are_new) a.are_new cdv A outer s H E) rfl rfl rfl rfl
  exact (sb_one (ss_ret (se_and (se_call (pe_callG G_is_cells (hr.mono (by decide)) hg (by rfl) T.g_is_cells T.k_is_cells T.B_is_cells (fun σ => passAt tk σ) (sl_cons (se_sl 0) sl_nil)) runB_bad) (se_one (se_cmp x_le (se_b (pe_callB b_len (by rfl) T.b_len (by decide +kernel) (sl_cons (se_sl 0) sl_nil))) (se_c (pe_glob (v := .int 48) rfl T.c_MOST_NEW.choose_spec ⟨_, rfl⟩) fun _ _ => .int _) (nomark _))))))
theorem ok_law_odd_deed (T : Txt w K c mg a d) (G_law_cells : FnG P w K mg base (L2.CX P w) 3 a.law_cells d.law_cells ["well", "most"] (spF K c 2 d_law_cells)) (G_law_given : FnG P w K mg base (L2.CX P w) 2 a.law_given d.law_given ["well", "items"] (spF K c 2 d_law_given)) (G_law_names : FnG P w K mg base (L2.CX P w) 1 a.law_names d.law_names [] (spF K c 0 d_law_names)) : FnG P w K mg base (L2.CX P w) 4 a.law_odd_deed d.law_odd_deed ["well", "tree"] (spF K c 2 d_law_odd_deed) := by
  refine fn_evG (b := b_law_odd_deed) T.F_law_odd_deed sc_law_odd_deed rfl rfl rfl fun cdv A outer s H E hr hg => ?_
  have tk := takes_of (X := cxOf (L2.CX P w) P w K mg base n_law_odd_deed "_law_odd_deed" (defScope s_law_odd_deed) a.law_odd_deed cdv A outer s H E) rfl rfl rfl rfl
  exact (sb_cons (ss_set (i := 2) sc_law_odd_deed.nd rfl (Or.inl rfl) (se_op x_add (se_call0 (pe_callG0 G_law_names (hr.mono (by decide)) hg (by rfl) T.g_law_names T.k_law_names T.B_law_names (fun σ => passAt tk σ))) (se_b (pe_callB (b_sorted rfl) (by rfl) T.b_sorted (by decide +kernel) (sl_cons (se_sl 1) sl_nil)))))
    (sb_cons (ss_asg (ps_asg (se_tup (sl_cons (se_call (pe_callG G_law_given (hr.mono (by decide)) hg (by rfl) T.g_law_given T.k_law_given T.B_law_given (fun σ => passAt tk σ) (sl_cons (se_sl 0) (sl_cons (se_sl 2) sl_nil))) runB_bad) (sl_cons (se_call (pe_callG G_law_given (hr.mono (by decide)) hg (by rfl) T.g_law_given T.k_law_given T.B_law_given (fun σ => passAt tk σ) (sl_cons (se_sl 0) (sl_cons (se_lst (sl_cons (se_str (by decide +kernel)) (sl_cons (se_str (by decide +kernel)) (sl_cons (se_str (by decide +kernel)) (sl_cons (se_str (by decide +kernel)) (sl_cons (se_str (by decide +kernel)) (sl_cons (se_str (by decide +kernel)) sl_nil))))))) sl_nil))) runB_bad) sl_nil))) (sg_tup (pg_tup rfl (sgs_cons (pgs_cons (sg_name (i := 3) sc_law_odd_deed.nd rfl (Or.inr rfl)) (sgs_cons (pgs_cons (sg_name (i := 4) sc_law_odd_deed.nd rfl (Or.inl rfl)) sgs_nil))))))))
    (sb_cons (ss_if (st_cmp (x_eq hr.units) (se_sl 4) (se_str (by decide +kernel)) (nomark _)) (sb_one (ss_ret (se_tup (sl_cons (se_sl 4) (sl_cons (se_sl 3) (sl_cons (se_call (pe_callG G_law_cells (hr.mono (by decide)) hg (by rfl) T.g_law_cells T.k_law_cells T.B_law_cells (fun σ => passAt tk σ) (sl_cons (se_sl 0) (sl_cons se_int sl_nil))) runB_bad) sl_nil)))))) sb_nil)
    (sb_cons (ss_if (st_cmp (x_eq hr.units) (se_sl 4) (se_str (by decide +kernel)) (nomark _)) (sb_cons (ss_set (i := 5) sc_law_odd_deed.nd rfl (Or.inl rfl) (se_b (pe_callB b_len (by rfl) T.b_len (by decide +kernel) (sl_cons (se_dget2 (u1 hr) (se_sl 1) (se_sl 3) (se_tup sl_nil) ⟨by rfl, by rfl, by rfl, by rfl⟩) sl_nil))))
    (sb_cons (ss_set (i := 6) sc_law_odd_deed.nd rfl (Or.inl rfl) (se_call (pe_callG G_law_given (hr.mono (by decide)) hg (by rfl) T.g_law_given T.k_law_given T.B_law_given (fun σ => passAt tk σ) (sl_cons (se_sl 0) (sl_cons (se_lst (sl_cons se_int (sl_cons (se_sl 5) (sl_cons (se_op x_add (se_sl 5) se_int) (sl_cons (se_b (pe_callB (b_max2 rfl) (by rfl) T.b_max (by decide +kernel) (sl_cons se_int (sl_cons (se_op x_sub (se_sl 5) se_int) sl_nil)))) (sl_cons se_int sl_nil)))))) sl_nil))) runB_bad))
    (sb_cons (ss_set (i := 7) sc_law_odd_deed.nd rfl (Or.inl rfl) (se_call (pe_callG G_law_given (hr.mono (by decide)) hg (by rfl) T.g_law_given T.k_law_given T.B_law_given (fun σ => passAt tk σ) (sl_cons (se_sl 0) (sl_cons (se_lst (sl_cons se_int (sl_cons (se_b (pe_callB (b_max2 rfl) (by rfl) T.b_max (by decide +kernel) (sl_cons se_int (sl_cons (se_op x_sub (se_sl 5) (se_sl 6)) sl_nil)))) (sl_cons (se_op x_add (se_b (pe_callB (b_max2 rfl) (by rfl) T.b_max (by decide +kernel) (sl_cons se_int (sl_cons (se_op x_sub (se_sl 5) (se_sl 6)) sl_nil)))) se_int) (sl_cons se_int (sl_cons se_int sl_nil)))))) sl_nil))) runB_bad))
    (sb_one (ss_ret (se_tup (sl_cons (se_sl 4) (sl_cons (se_sl 3) (sl_cons (se_b (pe_callB (b_min2 rfl) (by rfl) T.b_min (by decide +kernel) (sl_cons (se_sl 6) (sl_cons se_int sl_nil)))) (sl_cons (se_b (pe_callB (b_min2 rfl) (by rfl) T.b_min (by decide +kernel) (sl_cons (se_sl 7) (sl_cons se_int sl_nil)))) (sl_cons (se_call (pe_callG G_law_cells (hr.mono (by decide)) hg (by rfl) T.g_law_cells T.k_law_cells T.B_law_cells (fun σ => passAt tk σ) (sl_cons (se_sl 0) (sl_cons (se_call (pe_callG G_law_given (hr.mono (by decide)) hg (by rfl) T.g_law_given T.k_law_given T.B_law_given (fun σ => passAt tk σ) (sl_cons (se_sl 0) (sl_cons (se_lst (sl_cons se_int (sl_cons se_int sl_nil))) sl_nil))) runB_bad) sl_nil))) runB_bad) sl_nil))))))))))) sb_nil)
    (sb_one (ss_ret (se_if (st_cmp (x_eq hr.units) (se_sl 4) (se_str (by decide +kernel)) (nomark _)) (se_tup (sl_cons (se_sl 4) (sl_cons (se_sl 3) sl_nil))) (se_tup (sl_cons (se_sl 4) (sl_cons (se_sl 3) (sl_cons (se_call (pe_callG G_law_given (hr.mono (by decide)) hg (by rfl) T.g_law_given T.k_law_given T.B_law_given (fun σ => passAt tk σ) (sl_cons (se_sl 0) (sl_cons (se_lc (gw_name (by decide)) (pe_lc (own := [("one", 8)]) (g := (L2.gName 8)) rfl sc_law_odd_deed.nd (si_any (se_sl 2)) (blkOk_by (N := n_law_odd_deed) (sc := defScope s_law_odd_deed) (by decide +kernel)) (fun _ _ _ _ _ => (pg_name (i := 8) sc_law_odd_deed.nd rfl (by first | exact Or.inl rfl | exact Or.inr rfl) (by first | exact .inr rfl | exact .inl rfl))) (fun _ _ _ _ _ => (sts_one (st_cmp (x_ne hr.units) (se_sl 8) (se_sl 3) (nomark _)))) (fun _ _ _ _ _ => (se_sl 8)))) sl_nil))) runB_bad) sl_nil)))))))))))
theorem ok_is_tree (T : Txt w K c mg a d) (G_is_entry : FnG P w K mg base (L2.CX P w) 4 a.is_entry d.is_entry ["value"] (spF K c 1 d_is_entry)) (G_is_name : FnG P w K mg base (L2.CX P w) 1 a.is_name d.is_name ["value"] (spF K c 1 d_is_name)) : FnG P w K mg base (L2.CX P w) 5 a.is_tree d.is_tree ["value"] (spF K c 1 d_is_tree) := by
  refine fn_evG (b := b_is_tree) T.F_is_tree sc_is_tree rfl rfl rfl fun cdv A outer s H E hr hg => ?_
  have tk := takes_of (X := cxOf (L2.CX P w) P w K mg base n_is_tree "is_tree" (defScope s_is_tree) a.is_tree cdv A outer s H E) rfl rfl rfl rfl
  exact (sb_cons (ss_if (st_not (st_tru (se_isi (T := .dict) (pe_callB call_isi (by rfl) T.b_isinstance (by decide +kernel) (pa_cons (se_sl 0) (pa_cons (pe_bltn (v := .ty "dict") (by rfl) T.b_dict (by decide +kernel) rfl) pa_nil)))) (by intro _; rfl))) (sb_one (ss_ret se_bl)) sb_nil)
    (sb_one (ss_ret (se_b (pe_callB (b_all rfl) (by rfl) T.b_all (by decide +kernel) (sl_cons (se_lock (i := 0) (se_lc (gw_tup (gw_cons (gw_name (by decide)) (gw_cons (gw_name (by decide)) gw_nil))) (pe_lc (own := [("name", 1), ("cells", 2)]) (g := (L2.gTup K 2 (L2.gCons (L2.gName 1) (L2.gCons (L2.gName 2) L2.gNil)))) rfl sc_is_tree.nd (si_itemsF (pi_items (se_sl 0))) (blkOk_by (N := n_is_tree) (sc := defScope s_is_tree) (by decide +kernel)) (fun _ _ _ _ _ => (pg_tup rfl (pgs_cons (pg_name (i := 1) sc_is_tree.nd rfl (by first | exact Or.inl rfl | exact Or.inr rfl) (by first | exact .inr rfl | exact .inl rfl)) (pgs_cons (pg_name (i := 2) sc_is_tree.nd rfl (by first | exact Or.inl rfl | exact Or.inr rfl) (by first | exact .inr rfl | exact .inl rfl)) pgs_nil)))) (fun _ _ _ _ _ => sts_nil) (fun _ _ _ _ _ => (se_and (se_call (pe_callG G_is_name (hr.mono (by decide)) hg (by rfl) T.g_is_name T.k_is_name T.B_is_name (fun σ => passAt takes0 σ) (sl_cons (se_sl 1) sl_nil)) runB_bad) (se_one (se_call (pe_callG G_is_entry (hr.mono (by decide)) hg (by rfl) T.g_is_entry T.k_is_entry T.B_is_entry (fun σ => passAt takes0 σ) (sl_cons (se_sl 2) sl_nil)) runB_bad))))))) sl_nil))))))
theorem ok_is_put (T : Txt w K c mg a d) (G_are_new : FnG P w K mg base (L2.CX P w) 4 a.are_new d.are_new ["value"] (spF K c 1 d_are_new)) (G_is_name : FnG P w K mg base (L2.CX P w) 1 a.is_name d.is_name ["value"] (spF K c 1 d_is_name)) : FnG P w K mg base (L2.CX P w) 5 a.is_put d.is_put ["value"] (spF K c 1 d_is_put) := by
  refine fn_evG (b := b_is_put) T.F_is_put sc_is_put rfl rfl rfl fun cdv A outer s H E hr hg => ?_
  have tk := takes_of (X := cxOf (L2.CX P w) P w K mg base n_is_put "is_put" (defScope s_is_put) a.is_put cdv A outer s H E) rfl rfl rfl rfl
  exact (sb_one (ss_ret (se_and (se_cmp (x_eq hr.units) (se_b (pe_callB b_len (by rfl) T.b_len (by decide +kernel) (sl_cons (se_sl 0) sl_nil))) se_int (nomark _)) (se_and (se_call (pe_callG G_is_name (hr.mono (by decide)) hg (by rfl) T.g_is_name T.k_is_name T.B_is_name (fun σ => passAt tk σ) (sl_cons (se_ix (se_sl 0) se_int (fun _ _ => rfl)) sl_nil)) runB_bad) (se_one (se_call (pe_callG G_are_new (hr.mono (by decide)) hg (by rfl) T.g_are_new T.k_are_new T.B_are_new (fun σ => passAt tk σ) (sl_cons (se_ix (se_sl 0) se_int (fun _ _ => rfl)) sl_nil)) runB_bad))))))
theorem ok_is_patch (T : Txt w K c mg a d) (G_are_new : FnG P w K mg base (L2.CX P w) 4 a.are_new d.are_new ["value"] (spF K c 1 d_are_new)) (G_is_name : FnG P w K mg base (L2.CX P w) 1 a.is_name d.is_name ["value"] (spF K c 1 d_is_name)) (G_is_number : FnG P w K mg base (L2.CX P w) 1 a.is_number d.is_number ["value", "least", "most"] (spF K c 3 d_is_number)) : FnG P w K mg base (L2.CX P w) 5 a.is_patch d.is_patch ["value"] (spF K c 1 d_is_patch) := by
  refine fn_evG (b := b_is_patch) T.F_is_patch sc_is_patch rfl rfl rfl fun cdv A outer s H E hr hg => ?_
  have tk := takes_of (X := cxOf (L2.CX P w) P w K mg base n_is_patch "is_patch" (defScope s_is_patch) a.is_patch cdv A outer s H E) rfl rfl rfl rfl
  exact (sb_cons (ss_if (st_w (sw_or (st_cmp (x_ne hr.units) (se_b (pe_callB b_len (by rfl) T.b_len (by decide +kernel) (sl_cons (se_sl 0) sl_nil))) se_int (nomark _)) (sw_or (st_not (st_tru (se_call (pe_callG G_is_name (hr.mono (by decide)) hg (by rfl) T.g_is_name T.k_is_name T.B_is_name (fun σ => passAt tk σ) (sl_cons (se_ix (se_sl 0) se_int (fun _ _ => rfl)) sl_nil)) runB_bad) (by intro _; rfl))) (sw_or1 (st_not (st_tru (se_call (pe_callG G_are_new (hr.mono (by decide)) hg (by rfl) T.g_are_new T.k_are_new T.B_are_new (fun σ => passAt tk σ) (sl_cons (se_ix (se_sl 0) se_int (fun _ _ => rfl)) sl_nil)) runB_bad) (by intro _; rfl))))))) (sb_one (ss_ret se_bl)) sb_nil)
    (sb_one (ss_ret (se_and (se_call (pe_callG G_is_number (hr.mono (by decide)) hg (by rfl) T.g_is_number T.k_is_number T.B_is_number (fun σ => passAt tk σ) (sl_cons (se_ix (se_sl 0) se_int (fun _ _ => rfl)) (sl_cons se_int (sl_cons (se_c (pe_glob (v := .int 996) rfl T.c_MOST_LENGTH.choose_spec ⟨_, rfl⟩) fun _ _ => .int _) sl_nil)))) runB_bad) (se_one (se_call (pe_callG G_is_number (hr.mono (by decide)) hg (by rfl) T.g_is_number T.k_is_number T.B_is_number (fun σ => passAt tk σ) (sl_cons (se_ix (se_sl 0) se_int (fun _ _ => rfl)) (sl_cons se_int (sl_cons (se_c (pe_glob (v := .int 996) rfl T.c_MOST_LENGTH.choose_spec ⟨_, rfl⟩) fun _ _ => .int _) sl_nil)))) runB_bad))))))
theorem ok_is_deed (T : Txt w K c mg a d) (G_is_drop : FnG P w K mg base (L2.CX P w) 2 a.is_drop d.is_drop ["value"] (spF K c 1 d_is_drop)) (G_is_patch : FnG P w K mg base (L2.CX P w) 5 a.is_patch d.is_patch ["value"] (spF K c 1 d_is_patch)) (G_is_put : FnG P w K mg base (L2.CX P w) 5 a.is_put d.is_put ["value"] (spF K c 1 d_is_put)) (G_is_rename : FnG P w K mg base (L2.CX P w) 2 a.is_rename d.is_rename ["value"] (spF K c 1 d_is_rename)) : FnG P w K mg base (L2.CX P w) 6 a.is_deed d.is_deed ["value"] (spF K c 1 d_is_deed) := by
  have TJ_JUDGES : TabOkG P w K mg base c 5 a.JUDGES tab_JUDGES := ⟨T.kd_JUDGES, (tab_cons ⟨_, _, _, T.n_JUDGES_0, G_is_put.mono (by decide), T.k_is_put, T.B_is_put, runB_bad⟩ (tab_cons ⟨_, _, _, T.n_JUDGES_1, G_is_patch.mono (by decide), T.k_is_patch, T.B_is_patch, runB_bad⟩ (tab_cons ⟨_, _, _, T.n_JUDGES_2, G_is_drop.mono (by decide), T.k_is_drop, T.B_is_drop, runB_bad⟩ (tab_cons ⟨_, _, _, T.n_JUDGES_3, G_is_rename.mono (by decide), T.k_is_rename, T.B_is_rename, runB_bad⟩ tab_nil))))⟩
  refine fn_evG (b := b_is_deed) T.F_is_deed sc_is_deed rfl rfl rfl fun cdv A outer s H E hr hg => ?_
  have tk := takes_of (X := cxOf (L2.CX P w) P w K mg base n_is_deed "is_deed" (defScope s_is_deed) a.is_deed cdv A outer s H E) rfl rfl rfl rfl
  exact (sb_cons (ss_if (st_w (sw_or (st_not (st_tru (se_isi (T := .tuple) (pe_callB call_isi (by rfl) T.b_isinstance (by decide +kernel) (pa_cons (se_sl 0) (pa_cons (pe_bltn (v := .ty "tuple") (by rfl) T.b_tuple (by decide +kernel) rfl) pa_nil)))) (by intro _; rfl))) (sw_or (st_not (st_tru (se_sl 0) (by intro _; rfl))) (sw_or (st_not (st_tru (se_isi (T := .str) (pe_callB call_isi (by rfl) T.b_isinstance (by decide +kernel) (pa_cons (se_ix (se_sl 0) se_int (fun _ _ => rfl)) (pa_cons (pe_bltn (v := .ty "str") (by rfl) T.b_str (by decide +kernel) rfl) pa_nil)))) (by intro _; rfl))) (sw_or1 (st_tabNotG TJ_JUDGES (by rfl) T.g_JUDGES (se_ix (se_sl 0) se_int (fun _ _ => rfl)) (by with_unfolding_all rfl))))))) (sb_one (ss_ret se_bl)) sb_nil)
    (sb_judgeG (i := 1) TJ_JUDGES sc_is_deed.nd rfl (Or.inl rfl) (Or.inl rfl) (by rfl) T.g_JUDGES (hr.mono (by decide)) hg (fun σ => passAt tk σ) (se_ix (se_sl 0) se_int (fun _ _ => rfl)) (se_sl 0) (fun _ _ => rfl)))
theorem ok_check_tree (T : Txt w K c mg a d) (G_is_tree : FnG P w K mg base (L2.CX P w) 5 a.is_tree d.is_tree ["value"] (spF K c 1 d_is_tree)) : FnG P w K mg base (L2.CX P w) 6 a.check_tree d.check_tree ["tree"] (spF K c 1 d_check_tree) := by
  refine fn_evG (b := b_check_tree) T.F_check_tree sc_check_tree rfl rfl rfl fun cdv A outer s H E hr hg => ?_
  have tk := takes_of (X := cxOf (L2.CX P w) P w K mg base n_check_tree "check_tree" (defScope s_check_tree) a.check_tree cdv A outer s H E) rfl rfl rfl rfl
  exact (sb_one (ss_if (st_not (st_tru (se_call (pe_callG G_is_tree (hr.mono (by decide)) hg (by rfl) T.g_is_tree T.k_is_tree T.B_is_tree (fun σ => passAt tk σ) (sl_cons (se_sl 0) sl_nil)) runB_bad) (by intro _; rfl))) (sb_one ss_never) sb_nil))
theorem ok_check_deed (T : Txt w K c mg a d) (G_is_deed : FnG P w K mg base (L2.CX P w) 6 a.is_deed d.is_deed ["value"] (spF K c 1 d_is_deed)) : FnG P w K mg base (L2.CX P w) 7 a.check_deed d.check_deed ["deed"] (spF K c 1 d_check_deed) := by
  refine fn_evG (b := b_check_deed) T.F_check_deed sc_check_deed rfl rfl rfl fun cdv A outer s H E hr hg => ?_
  have tk := takes_of (X := cxOf (L2.CX P w) P w K mg base n_check_deed "check_deed" (defScope s_check_deed) a.check_deed cdv A outer s H E) rfl rfl rfl rfl
  exact (sb_one (ss_if (st_not (st_tru (se_call (pe_callG G_is_deed (hr.mono (by decide)) hg (by rfl) T.g_is_deed T.k_is_deed T.B_is_deed (fun σ => passAt tk σ) (sl_cons (se_sl 0) sl_nil)) runB_bad) (by intro _; rfl))) (sb_one ss_never) sb_nil))
theorem ok_refusal (T : Txt w K c mg a d) (G_check_deed : FnG P w K mg base (L2.CX P w) 7 a.check_deed d.check_deed ["deed"] (spF K c 1 d_check_deed)) (G_check_tree : FnG P w K mg base (L2.CX P w) 6 a.check_tree d.check_tree ["tree"] (spF K c 1 d_check_tree)) (G_refusal_of : FnG P w K mg base (L2.CX P w) 2 a.refusal_of d.refusal_of ["tree", "deed"] (spF K c 2 d_refusal_of)) : FnG P w K mg base (L2.CX P w) 8 a.refusal d.refusal ["tree", "deed"] (spF K c 2 d_refusal) := by
  refine fn_evG (b := b_refusal) T.F_refusal sc_refusal rfl rfl rfl fun cdv A outer s H E hr hg => ?_
  have tk := takes_of (X := cxOf (L2.CX P w) P w K mg base n_refusal "refusal" (defScope s_refusal) a.refusal cdv A outer s H E) rfl rfl rfl rfl
  exact (sb_cons (ss_expr (se_call (pe_callG G_check_tree (hr.mono (by decide)) hg (by rfl) T.g_check_tree T.k_check_tree T.B_check_tree (fun σ => passAt tk σ) (sl_cons (se_sl 0) sl_nil)) runB_bad))
    (sb_cons (ss_expr (se_call (pe_callG G_check_deed (hr.mono (by decide)) hg (by rfl) T.g_check_deed T.k_check_deed T.B_check_deed (fun σ => passAt tk σ) (sl_cons (se_sl 1) sl_nil)) runB_bad))
    (sb_one (ss_ret (se_call (pe_callG G_refusal_of (hr.mono (by decide)) hg (by rfl) T.g_refusal_of T.k_refusal_of T.B_refusal_of (fun σ => passAt tk σ) (sl_cons (se_sl 0) (sl_cons (se_sl 1) sl_nil))) runB_bad)))))
theorem ok_touched (T : Txt w K c mg a d) (G_check_deed : FnG P w K mg base (L2.CX P w) 7 a.check_deed d.check_deed ["deed"] (spF K c 1 d_check_deed)) : FnG P w K mg base (L2.CX P w) 8 a.touched d.touched ["deed"] (spF K c 1 d_touched) := by
  refine fn_evG (b := b_touched) T.F_touched sc_touched rfl rfl rfl fun cdv A outer s H E hr hg => ?_
  have tk := takes_of (X := cxOf (L2.CX P w) P w K mg base n_touched "touched" (defScope s_touched) a.touched cdv A outer s H E) rfl rfl rfl rfl
  exact (sb_cons (ss_expr (se_call (pe_callG G_check_deed (hr.mono (by decide)) hg (by rfl) T.g_check_deed T.k_check_deed T.B_check_deed (fun σ => passAt tk σ) (sl_cons (se_sl 0) sl_nil)) runB_bad))
    (sb_cons (ss_set (i := 1) sc_touched.nd rfl (Or.inl rfl) (se_if (st_cmp (x_eq hr.units) (se_ix (se_sl 0) se_int (fun _ _ => rfl)) (se_str (by decide +kernel)) (nomark _)) (se_slice (se_sl 0) (sp_some se_int) sp_none) (se_slice (se_sl 0) (sp_some se_int) (sp_some se_int))))
    (sb_one (ss_ret (se_b (pe_callTy b_tuple (by rfl) T.b_tuple (by decide +kernel) (sl_cons (se_b (pe_callB (b_sorted rfl) (by rfl) T.b_sorted (by decide +kernel) (sl_cons (se_sl 1) sl_nil))) sl_nil)))))))
theorem ok_done (T : Txt w K c mg a d) (G_do_deed : FnG P w K mg base (L2.CX P w) 1 a.do_deed d.do_deed ["tree", "deed", "cells"] (spF K c 3 d_do_deed)) (G_put_cells : FnG P w K mg base (L2.CX P w) 1 a.put_cells d.put_cells ["deed"] (spF K c 1 d_put_cells)) (G_refusal : FnG P w K mg base (L2.CX P w) 8 a.refusal d.refusal ["tree", "deed"] (spF K c 2 d_refusal)) (G_sorted_tree : FnG P w K mg base (L2.CX P w) 1 a.sorted_tree d.sorted_tree ["tree"] (spF K c 1 d_sorted_tree)) : FnG P w K mg base (L2.CX P w) 9 a.done d.done ["tree", "deed"] (spF K c 2 d_done) := by
  refine fn_evG (b := b_done) T.F_done sc_done rfl rfl rfl fun cdv A outer s H E hr hg => ?_
  have tk := takes_of (X := cxOf (L2.CX P w) P w K mg base n_done "done" (defScope s_done) a.done cdv A outer s H E) rfl rfl rfl rfl
  exact (sb_cons (ss_set (i := 2) sc_done.nd rfl (Or.inl rfl) (se_call (pe_callG G_refusal (hr.mono (by decide)) hg (by rfl) T.g_refusal T.k_refusal T.B_refusal (fun σ => passAt tk σ) (sl_cons (se_sl 0) (sl_cons (se_sl 1) sl_nil))) runB_bad))
    (sb_cons (ss_if (st_cmp x_notN (se_sl 2) se_non (nomark _)) (sb_one (ss_raiseC (k := 3) bas_arith T.cx_Refused T.cf_Refused T.ci_Refused T.ct_Refused (ok_init_Refused T) (hr.mono (by decide)) hg T.cB_Refused passF (by rfl) T.cg_Refused rfl tk (se_sl 2))) sb_nil)
    (sb_cons (ss_set (i := 3) sc_done.nd rfl (Or.inl rfl) (se_b (pe_callTy b_dictD (by rfl) T.b_dict (by decide +kernel) (sl_cons (se_sl 0) sl_nil))))
    (sb_cons (ss_expr (se_call (pe_callG G_do_deed (hr.mono (by decide)) hg (by rfl) T.g_do_deed T.k_do_deed T.B_do_deed (fun σ => passAt tk σ) (sl_cons (se_sl 3) (sl_cons (se_sl 1) (sl_cons (se_call (pe_callG G_put_cells (hr.mono (by decide)) hg (by rfl) T.g_put_cells T.k_put_cells T.B_put_cells (fun σ => passAt tk σ) (sl_cons (se_sl 1) sl_nil)) runB_bad) sl_nil)))) runB_bad))
    (sb_one (ss_ret (se_call (pe_callG G_sorted_tree (hr.mono (by decide)) hg (by rfl) T.g_sorted_tree T.k_sorted_tree T.B_sorted_tree (fun σ => passAt tk σ) (sl_cons (se_sl 3) sl_nil)) runB_bad)))))))
theorem ok_law_like (T : Txt w K c mg a d) (G_law_cells : FnG P w K mg base (L2.CX P w) 3 a.law_cells d.law_cells ["well", "most"] (spF K c 2 d_law_cells)) (G_law_drawn : FnG P w K mg base (L2.CX P w) 1 a.law_drawn d.law_drawn ["well", "many"] (spF K c 2 d_law_drawn)) (G_touched : FnG P w K mg base (L2.CX P w) 8 a.touched d.touched ["deed"] (spF K c 1 d_touched)) : FnG P w K mg base (L2.CX P w) 9 a.law_like d.law_like ["well", "tree", "deed"] (spF K c 3 d_law_like) := by
  refine fn_evG (b := b_law_like) T.F_law_like sc_law_like rfl rfl rfl fun cdv A outer s H E hr hg => ?_
  have tk := takes_of (X := cxOf (L2.CX P w) P w K mg base n_law_like "_law_like" (defScope s_law_like) a.law_like cdv A outer s H E) rfl rfl rfl rfl
  exact (sb_cons (ss_set (i := 3) sc_law_like.nd rfl (Or.inl rfl) se_dnew)
    (sb_cons (ss_lock (i := 1) (ss_for (ps_for (passes_of rfl) rfl (si_keysF (se_sl 1)) (sg_name (i := 4) sc_law_like.nd rfl (Or.inl rfl)) (sb_one (ss_if (st_w (sw_or (st_cmp (x_in (u65 hr)) (se_sl 4) (se_call (pe_callG G_touched (hr.mono (by decide)) hg (by rfl) T.g_touched T.k_touched T.B_touched (fun σ => passAt tk σ) (sl_cons (se_sl 2) sl_nil)) runB_bad) (by with_unfolding_all rfl)) (sw_or1 (st_cmp (x_eq hr.units) (se_call (pe_callG G_law_drawn (hr.mono (by decide)) hg (by rfl) T.g_law_drawn T.k_law_drawn T.B_law_drawn (fun σ => passAt tk σ) (sl_cons (se_sl 0) (sl_cons se_int sl_nil))) runB_bad) se_int (nomark _))))) (sb_one (ss_dput (u1 hr) (se_sl 3) (se_sl 4) (se_b (pe_callTy b_tuple (by rfl) T.b_tuple (by decide +kernel) (sl_cons (se_lc (gw_name (by decide)) (pe_lc (own := [("cell", 5)]) (g := (L2.gName 5)) rfl sc_law_like.nd (si_any (se_dget (u1 hr) (se_sl 1) (se_sl 4) (fun _ _ => rfl))) (blkOk_by (N := n_law_like) (sc := defScope s_law_like) (by decide +kernel)) (fun _ _ _ _ _ => (pg_name (i := 5) sc_law_like.nd rfl (by first | exact Or.inl rfl | exact Or.inr rfl) (by first | exact .inr rfl | exact .inl rfl))) (fun _ _ _ _ _ => sts_nil) (fun _ _ _ _ _ => (se_call (pe_callG G_law_drawn (hr.mono (by decide)) hg (by rfl) T.g_law_drawn T.k_law_drawn T.B_law_drawn (fun σ => passAt takes0 σ) (sl_cons (se_sl 0) (sl_cons se_int sl_nil))) runB_bad)))) sl_nil))) (by rfl))) sb_nil)))))
    (sb_cons (ss_for (ps_for (passes_of rfl) rfl (si_any (se_tup (sl_cons (se_str (by decide +kernel)) (sl_cons (se_str (by decide +kernel)) sl_nil)))) (sg_name (i := 4) sc_law_like.nd rfl (Or.inl rfl)) (sb_one (ss_if (st_w (sw_and (st_cmp (x_notIn (u65 hr)) (se_sl 4) (se_call (pe_callG G_touched (hr.mono (by decide)) hg (by rfl) T.g_touched T.k_touched T.B_touched (fun σ => passAt tk σ) (sl_cons (se_sl 2) sl_nil)) runB_bad) (by with_unfolding_all rfl)) (sw_and1 (st_cmp (x_eq hr.units) (se_call (pe_callG G_law_drawn (hr.mono (by decide)) hg (by rfl) T.g_law_drawn T.k_law_drawn T.B_law_drawn (fun σ => passAt tk σ) (sl_cons (se_sl 0) (sl_cons se_int sl_nil))) runB_bad) se_int (nomark _))))) (sb_one (ss_dput (u1 hr) (se_sl 3) (se_sl 4) (se_call (pe_callG G_law_cells (hr.mono (by decide)) hg (by rfl) T.g_law_cells T.k_law_cells T.B_law_cells (fun σ => passAt tk σ) (sl_cons (se_sl 0) (sl_cons se_int sl_nil))) runB_bad) (by rfl))) sb_nil))))
    (sb_one (ss_ret (se_sl 3))))))
theorem ok_law_refused (T : Txt w K c mg a d) (G_done : FnG P w K mg base (L2.CX P w) 9 a.done d.done ["tree", "deed"] (spF K c 2 d_done)) : FnG P w K mg base (L2.CX P w) 10 a.law_refused d.law_refused ["tree", "deed"] (spF K c 2 d_law_refused) := by
  refine fn_evG (b := b_law_refused) T.F_law_refused sc_law_refused rfl rfl rfl fun cdv A outer s H E hr hg => ?_
  have tk := takes_of (X := cxOf (L2.CX P w) P w K mg base n_law_refused "_law_refused" (defScope s_law_refused) a.law_refused cdv A outer s H E) rfl rfl rfl rfl
  exact (sb_cons (ss_tryR (i := 2) (kc := kcOne 3) rfl rfl sc_law_refused.nd rfl (by rfl) (Or.inl rfl) ⟨by rfl, by decide, .inl T.cg_Refused⟩ tk (kc_one T.ce_Refused) (kc_two ⟨xfB_ok T.cz_Refused, T.cf_Refused⟩) (by decide) (by decide) (fun _ _ _ tk _ => (sb_one (ss_expr (se_call (pe_callG G_done (hr.mono (by decide)) hg (by rfl) T.g_done T.k_done T.B_done (fun σ => passAt tk σ) (sl_cons (se_sl 0) (sl_cons (se_sl 1) sl_nil))) runB_bad)))))
    (sb_one (ss_ret se_non)))
theorem ok_law_right (T : Txt w K c mg a d) (G_law_behind : FnG P w K mg base (L2.CX P w) 1 a.law_behind d.law_behind ["tree", "deed"] (spF K c 2 d_law_behind)) (G_law_cells : FnG P w K mg base (L2.CX P w) 3 a.law_cells d.law_cells ["well", "most"] (spF K c 2 d_law_cells)) (G_law_drawn : FnG P w K mg base (L2.CX P w) 1 a.law_drawn d.law_drawn ["well", "many"] (spF K c 2 d_law_drawn)) (G_law_given : FnG P w K mg base (L2.CX P w) 2 a.law_given d.law_given ["well", "items"] (spF K c 2 d_law_given)) (G_law_like : FnG P w K mg base (L2.CX P w) 9 a.law_like d.law_like ["well", "tree", "deed"] (spF K c 3 d_law_like)) (G_law_names : FnG P w K mg base (L2.CX P w) 1 a.law_names d.law_names [] (spF K c 0 d_law_names)) (G_law_odd_deed : FnG P w K mg base (L2.CX P w) 4 a.law_odd_deed d.law_odd_deed ["well", "tree"] (spF K c 2 d_law_odd_deed)) (G_law_refused : FnG P w K mg base (L2.CX P w) 10 a.law_refused d.law_refused ["tree", "deed"] (spF K c 2 d_law_refused)) (G_refusal : FnG P w K mg base (L2.CX P w) 8 a.refusal d.refusal ["tree", "deed"] (spF K c 2 d_refusal)) : FnG P w K mg base (L2.CX P w) 11 a.law_right d.law_right ["well"] (spF K c 1 d_law_right) := by
  refine fn_evG (b := b_law_right) T.F_law_right sc_law_right rfl rfl rfl fun cdv A outer s H E hr hg => ?_
  have tk := takes_of (X := cxOf (L2.CX P w) P w K mg base n_law_right "_law_right" (defScope s_law_right) a.law_right cdv A outer s H E) rfl rfl rfl rfl
  exact (sb_cons (ss_set (i := 1) sc_law_right.nd rfl (Or.inr rfl) se_dnew)
    (sb_cons (ss_for (ps_for (passes_of rfl) rfl (si_range1 (pi_range1 (by rfl) T.b_range (sl_cons (se_op x_add se_int (se_call (pe_callG G_law_drawn (hr.mono (by decide)) hg (by rfl) T.g_law_drawn T.k_law_drawn T.B_law_drawn (fun σ => passAt tk σ) (sl_cons (se_sl 0) (sl_cons se_int sl_nil))) runB_bad)) sl_nil))) (sg_name (i := 2) sc_law_right.nd rfl (Or.inl rfl)) (sb_cons (ss_set (i := 3) sc_law_right.nd rfl (Or.inl rfl) (se_call (pe_callG G_law_given (hr.mono (by decide)) hg (by rfl) T.g_law_given T.k_law_given T.B_law_given (fun σ => passAt tk σ) (sl_cons (se_sl 0) (sl_cons (se_lst (sl_cons se_int (sl_cons se_int (sl_cons se_int (sl_cons se_int sl_nil))))) sl_nil))) runB_bad))
    (sb_one (ss_dput (u1 hr) (se_sl 1) (se_call (pe_callG G_law_given (hr.mono (by decide)) hg (by rfl) T.g_law_given T.k_law_given T.B_law_given (fun σ => passAt tk σ) (sl_cons (se_sl 0) (sl_cons (se_call0 (pe_callG0 G_law_names (hr.mono (by decide)) hg (by rfl) T.g_law_names T.k_law_names T.B_law_names (fun σ => passAt tk σ))) sl_nil))) runB_bad) (se_op x_mulG (se_call (pe_callG G_law_cells (hr.mono (by decide)) hg (by rfl) T.g_law_cells T.k_law_cells T.B_law_cells (fun σ => passAt tk σ) (sl_cons (se_sl 0) (sl_cons (se_sl 3) sl_nil))) runB_bad) (se_call (pe_callG G_law_given (hr.mono (by decide)) hg (by rfl) T.g_law_given T.k_law_given T.B_law_given (fun σ => passAt tk σ) (sl_cons (se_sl 0) (sl_cons (se_lst (sl_cons se_int (sl_cons se_int (sl_cons se_int sl_nil)))) sl_nil))) runB_bad)) (by rfl))))))
    (sb_cons (ss_set (i := 1) sc_law_right.nd rfl (Or.inr rfl) (se_b (pe_callTy (b_dictP rfl) (by rfl) T.b_dict (by decide +kernel) (sl_cons (se_lock (i := 1) (se_lc (gw_name (by decide)) (pe_lc (own := [("name", 6)]) (g := (L2.gName 6)) rfl sc_law_right.nd (si_keysF (se_sl 1)) (blkOk_by (N := n_law_right) (sc := defScope s_law_right) (by decide +kernel)) (fun _ _ _ _ _ => (pg_name (i := 6) sc_law_right.nd rfl (by first | exact Or.inl rfl | exact Or.inr rfl) (by first | exact .inr rfl | exact .inl rfl))) (fun _ _ _ _ _ => sts_nil) (fun _ _ _ _ _ => (se_tup (sl_cons (se_sl 6) (sl_cons (se_slice (se_dget (u1 hr) (se_sl 1) (se_sl 6) (fun _ _ => rfl)) sp_none (sp_some se_int)) sl_nil))))))) sl_nil))))
    (sb_cons (ss_for (ps_for (passes_of rfl) rfl (si_range1 (pi_range1 (by rfl) T.b_range (sl_cons se_int sl_nil))) (sg_name (i := 2) sc_law_right.nd rfl (Or.inl rfl)) (sb_cons (ss_set (i := 4) sc_law_right.nd rfl (Or.inl rfl) (se_call (pe_callG G_law_odd_deed (hr.mono (by decide)) hg (by rfl) T.g_law_odd_deed T.k_law_odd_deed T.B_law_odd_deed (fun σ => passAt tk σ) (sl_cons (se_sl 0) (sl_cons (se_sl 1) sl_nil))) runB_bad))
    (sb_cons (ss_set (i := 5) sc_law_right.nd rfl (Or.inl rfl) (se_ix (se_call (pe_callG G_law_behind (hr.mono (by decide)) hg (by rfl) T.g_law_behind T.k_law_behind T.B_law_behind (fun σ => passAt tk σ) (sl_cons (se_sl 1) (sl_cons (se_sl 4) sl_nil))) runB_bad) se_int (fun _ _ => rfl)))
    (sb_cons (ss_if (st_w (sw_or (st_cmp (x_ne hr.units) (se_call (pe_callG G_refusal (hr.mono (by decide)) hg (by rfl) T.g_refusal T.k_refusal T.B_refusal (fun σ => passAt tk σ) (sl_cons (se_sl 1) (sl_cons (se_sl 4) sl_nil))) runB_bad) (se_sl 5) (nomark _)) (sw_or1 (st_cmp (x_ne hr.units) (se_call (pe_callG G_law_refused (hr.mono (by decide)) hg (by rfl) T.g_law_refused T.k_law_refused T.B_law_refused (fun σ => passAt tk σ) (sl_cons (se_sl 1) (sl_cons (se_sl 4) sl_nil))) runB_bad) (se_sl 5) (nomark _))))) (sb_one (ss_ret se_bl)) sb_nil)
    (sb_one (ss_if (st_w (sw_or (st_cmp (x_ne hr.units) (se_call (pe_callG G_refusal (hr.mono (by decide)) hg (by rfl) T.g_refusal T.k_refusal T.B_refusal (fun σ => passAt tk σ) (sl_cons (se_call (pe_callG G_law_like (hr.mono (by decide)) hg (by rfl) T.g_law_like T.k_law_like T.B_law_like (fun σ => passAt tk σ) (sl_cons (se_sl 0) (sl_cons (se_sl 1) (sl_cons (se_sl 4) sl_nil)))) runB_bad) (sl_cons (se_sl 4) sl_nil))) runB_bad) (se_sl 5) (nomark _)) (sw_or1 (st_w (sw_and (st_cmp (x_eq hr.units) (se_ix (se_sl 4) se_int (fun _ _ => rfl)) (se_str (by decide +kernel)) (nomark _)) (sw_and1 (st_cmp x_notN (se_sl 5) se_non (nomark _)))))))) (sb_one (ss_ret se_bl)) sb_nil)))))))
    (sb_one (ss_ret se_bl))))))
theorem ok_law (T : Txt w K c mg a d) (G_law_right : FnG P w K mg base (L2.CX P w) 11 a.law_right d.law_right ["well"] (spF K c 1 d_law_right)) (G_law_well : FnG P w K mg base (L2.CX P w) 1 a.law_well d.law_well ["script", "spot"] (spF K c 2 d_law_well)) (G_refusal : FnG P w K mg base (L2.CX P w) 8 a.refusal d.refusal ["tree", "deed"] (spF K c 2 d_refusal)) : FnG P w K mg base (L2.CX P w) 12 a.law d.law ["script"] (spF K c 1 d_law) := by
  refine fn_evG (b := b_law) T.F_law sc_law rfl rfl rfl fun cdv A outer s H E hr hg => ?_
  have tk := takes_of (X := cxOf (L2.CX P w) P w K mg base n_law "law" (defScope s_law) a.law cdv A outer s H E) rfl rfl rfl rfl
  exact (sb_cons (ss_for (ps_for (passes_of rfl) rfl (si_range1 (pi_range1 (by rfl) T.b_range (sl_cons (se_b (pe_callB (b_max2 rfl) (by rfl) T.b_max (by decide +kernel) (sl_cons se_int (sl_cons (se_b (pe_callB (b_min2 rfl) (by rfl) T.b_min (by decide +kernel) (sl_cons se_int (sl_cons (se_b (pe_callB b_len (by rfl) T.b_len (by decide +kernel) (sl_cons (se_sl 0) sl_nil))) sl_nil)))) sl_nil)))) sl_nil))) (sg_name (i := 1) sc_law.nd rfl (Or.inl rfl)) (sb_one (ss_if (st_not (st_tru (se_call (pe_callG G_law_right (hr.mono (by decide)) hg (by rfl) T.g_law_right T.k_law_right T.B_law_right (fun σ => passAt tk σ) (sl_cons (se_call (pe_callG G_law_well (hr.mono (by decide)) hg (by rfl) T.g_law_well T.k_law_well T.B_law_well (fun σ => passAt tk σ) (sl_cons (se_sl 0) (sl_cons (se_sl 1) sl_nil))) runB_bad) sl_nil)) runB_bad) (by intro _; rfl))) (sb_one (ss_ret se_bl)) sb_nil))))
    (sb_cons (ss_set (i := 2) sc_law.nd rfl (Or.inr rfl) (se_disp (l := [((dC (.str (st [97]))), (dTup (lCons (dC (.int 5)) (lCons (dC (.int 6)) (lCons (dC (.int 7)) lNil))))), ((dC (.str (st [98]))), (dTup lNil))]) (pe_disp (pps_cons (se_str (by decide +kernel)) (se_tup (sl_cons se_int (sl_cons se_int (sl_cons se_int sl_nil)))) (pps_cons (se_str (by decide +kernel)) (se_tup sl_nil) pps_nil)) (by rfl) (by rfl) (fun z => by cases z) (by decide))))
    (sb_cons (ss_set (i := 3) sc_law.nd rfl (Or.inl rfl) (se_lst (sl_cons (se_tup (sl_cons (se_str (by decide +kernel)) (sl_cons (se_str (by decide +kernel)) sl_nil))) (sl_cons (se_tup (sl_cons (se_str (by decide +kernel)) (sl_cons (se_str (by decide +kernel)) (sl_cons se_int (sl_cons se_int (sl_cons (se_tup sl_nil) sl_nil)))))) (sl_cons (se_tup (sl_cons (se_str (by decide +kernel)) (sl_cons (se_str (by decide +kernel)) (sl_cons se_int (sl_cons se_int (sl_cons (se_tup sl_nil) sl_nil)))))) (sl_cons (se_tup (sl_cons (se_str (by decide +kernel)) (sl_cons (se_str (by decide +kernel)) (sl_cons se_int (sl_cons se_int (sl_cons (se_tup sl_nil) sl_nil)))))) sl_nil))))))
    (sb_cons (ss_set (i := 3) sc_law.nd rfl (Or.inl rfl) (se_op x_add (se_sl 3) (se_lst (sl_cons (se_tup (sl_cons (se_str (by decide +kernel)) (sl_cons (se_str (by decide +kernel)) (sl_cons (se_str (by decide +kernel)) sl_nil)))) sl_nil))))
    (sb_cons (ss_set (i := 3) sc_law.nd rfl (Or.inl rfl) (se_op x_add (se_sl 3) (se_lst (sl_cons (se_tup (sl_cons (se_str (by decide +kernel)) (sl_cons (se_str (by decide +kernel)) (sl_cons (se_str (by decide +kernel)) sl_nil)))) (sl_cons (se_tup (sl_cons (se_str (by decide +kernel)) (sl_cons (se_str (by decide +kernel)) (sl_cons se_int (sl_cons se_int (sl_cons (se_tup sl_nil) sl_nil)))))) (sl_cons (se_tup (sl_cons (se_str (by decide +kernel)) (sl_cons (se_str (by decide +kernel)) (sl_cons (se_tup sl_nil) sl_nil)))) sl_nil))))))
    (sb_cons (ss_set (i := 4) sc_law.nd rfl (Or.inl rfl) (se_lst (sl_cons (se_tup (sl_cons (se_str (by decide +kernel)) (sl_cons (se_str (by decide +kernel)) sl_nil))) (sl_cons (se_tup (sl_cons (se_str (by decide +kernel)) (sl_cons (se_str (by decide +kernel)) sl_nil))) (sl_cons (se_tup (sl_cons (se_str (by decide +kernel)) (sl_cons (se_str (by decide +kernel)) sl_nil))) (sl_cons se_non (sl_cons (se_tup (sl_cons (se_str (by decide +kernel)) (sl_cons (se_str (by decide +kernel)) sl_nil))) (sl_cons (se_tup (sl_cons (se_str (by decide +kernel)) (sl_cons (se_str (by decide +kernel)) sl_nil))) (sl_cons (se_tup (sl_cons (se_str (by decide +kernel)) (sl_cons (se_str (by decide +kernel)) sl_nil))) (sl_cons se_non sl_nil))))))))))
    (sb_one (ss_ret (se_cmp (x_eq hr.units) (se_lc (gw_name (by decide)) (pe_lc (own := [("deed", 5)]) (g := (L2.gName 5)) rfl sc_law.nd (si_any (se_sl 3)) (blkOk_by (N := n_law) (sc := defScope s_law) (by decide +kernel)) (fun _ _ _ _ _ => (pg_name (i := 5) sc_law.nd rfl (by first | exact Or.inl rfl | exact Or.inr rfl) (by first | exact .inr rfl | exact .inl rfl))) (fun _ _ _ _ _ => sts_nil) (fun _ _ _ _ _ => (se_call (pe_callG G_refusal (hr.mono (by decide)) hg (by rfl) T.g_refusal T.k_refusal T.B_refusal (fun σ => passAt takes0 σ) (sl_cons (se_sl 2) (sl_cons (se_sl 5) sl_nil))) runB_bad)))) (se_sl 4) (nomark _))))))))))
end
end My


set_option Elab.async false
set_option linter.all false
set_option maxRecDepth 100000
set_option maxHeartbeats 4000000
namespace My
open PySem L2 Ev RZ RT
section
def sp_law (K : PySem.W.Frag) : Sp := fun vs H Q _ => ∃ (ad : Addr) (ns : List Int), vs = [.ref ad] ∧ ((∃ o, H ad = some (.frz o (.lst (ns.map V.int)))) ∨ SqL K (fun _ => none) ad (ns.map V.int)) ∧ ns.length ≤ 63 ∧ ∀ H', Q (.bl true) H'
theorem all_mk {l : PySem.W.OpenLaw} {w : World} {K : PySem.W.Frag} {h : Heap} {mg : Str → Option Value} {fa : Addr} (X : K.In h) (G : h.Ns mainGlobals mg) (hfa : mg "law" = some (.ref fa))
    {f0 : Addr} {f1 : Addr} {f2 : Addr} {f3 : Addr} {f4 : Addr} {f5 : Addr} {f6 : Addr} {f7 : Addr} {f8 : Addr} {f9 : Addr} {f10 : Addr} {f11 : Addr} {f12 : Addr} {f13 : Addr} {f14 : Addr} {f15 : Addr} {f16 : Addr} {f17 : Addr} {f18 : Addr} {f19 : Addr} {f20 : Addr} {f21 : Addr} {f22 : Addr} {f23 : Addr} {f24 : Addr} {f25 : Addr} {f26 : Addr} {f27 : Addr} {f28 : Addr} {f29 : Addr} {f30 : Addr} {f31 : Addr} {f32 : Addr}
    {od0 an0 : Option Addr} {sl0 : Array (Option Value)} {oc0 kV0 dc0 pm0 cd0 ct0 : Value}
    (a0 : PySem.W.nsIn K mainGlobals "is_number" = some (some (.ref f0))) (l0 : K.lookup f0 = some ⟨oc0, od0, .func (PySem.W.fnOf "is_number" "is_number" (defArgs s_is_number) (defBody s_is_number) (defScope s_is_number) .none kV0 dc0 pm0 an0 cd0 ct0), sl0⟩) (c0 : PySem.W.codeIn K cd0 "is_number" = true) (k0 : PySem.W.keepIn K (.ref f0) = true)
    {od1 an1 : Option Addr} {sl1 : Array (Option Value)} {oc1 kV1 dc1 pm1 cd1 ct1 : Value}
    (a1 : PySem.W.nsIn K mainGlobals "is_cell" = some (some (.ref f1))) (l1 : K.lookup f1 = some ⟨oc1, od1, .func (PySem.W.fnOf "is_cell" "is_cell" (defArgs s_is_cell) (defBody s_is_cell) (defScope s_is_cell) .none kV1 dc1 pm1 an1 cd1 ct1), sl1⟩) (c1 : PySem.W.codeIn K cd1 "is_cell" = true) (k1 : PySem.W.keepIn K (.ref f1) = true)
    {od2 an2 : Option Addr} {sl2 : Array (Option Value)} {oc2 kV2 dc2 pm2 cd2 ct2 : Value}
    (a2 : PySem.W.nsIn K mainGlobals "is_cells" = some (some (.ref f2))) (l2 : K.lookup f2 = some ⟨oc2, od2, .func (PySem.W.fnOf "is_cells" "is_cells" (defArgs s_is_cells) (defBody s_is_cells) (defScope s_is_cells) .none kV2 dc2 pm2 an2 cd2 ct2), sl2⟩) (c2 : PySem.W.codeIn K cd2 "is_cells" = true) (k2 : PySem.W.keepIn K (.ref f2) = true)
    {od3 an3 : Option Addr} {sl3 : Array (Option Value)} {oc3 kV3 dc3 pm3 cd3 ct3 : Value}
    (a3 : PySem.W.nsIn K mainGlobals "is_name" = some (some (.ref f3))) (l3 : K.lookup f3 = some ⟨oc3, od3, .func (PySem.W.fnOf "is_name" "is_name" (defArgs s_is_name) (defBody s_is_name) (defScope s_is_name) .none kV3 dc3 pm3 an3 cd3 ct3), sl3⟩) (c3 : PySem.W.codeIn K cd3 "is_name" = true) (k3 : PySem.W.keepIn K (.ref f3) = true)
    {od4 an4 : Option Addr} {sl4 : Array (Option Value)} {oc4 kV4 dc4 pm4 cd4 ct4 : Value}
    (a4 : PySem.W.nsIn K mainGlobals "is_tree" = some (some (.ref f4))) (l4 : K.lookup f4 = some ⟨oc4, od4, .func (PySem.W.fnOf "is_tree" "is_tree" (defArgs s_is_tree) (defBody s_is_tree) (defScope s_is_tree) .none kV4 dc4 pm4 an4 cd4 ct4), sl4⟩) (c4 : PySem.W.codeIn K cd4 "is_tree" = true) (k4 : PySem.W.keepIn K (.ref f4) = true)
    {od5 an5 : Option Addr} {sl5 : Array (Option Value)} {oc5 kV5 dc5 pm5 cd5 ct5 : Value}
    (a5 : PySem.W.nsIn K mainGlobals "is_entry" = some (some (.ref f5))) (l5 : K.lookup f5 = some ⟨oc5, od5, .func (PySem.W.fnOf "is_entry" "is_entry" (defArgs s_is_entry) (defBody s_is_entry) (defScope s_is_entry) .none kV5 dc5 pm5 an5 cd5 ct5), sl5⟩) (c5 : PySem.W.codeIn K cd5 "is_entry" = true) (k5 : PySem.W.keepIn K (.ref f5) = true)
    {od6 an6 : Option Addr} {sl6 : Array (Option Value)} {oc6 kV6 dc6 pm6 cd6 ct6 : Value}
    (a6 : PySem.W.nsIn K mainGlobals "are_new" = some (some (.ref f6))) (l6 : K.lookup f6 = some ⟨oc6, od6, .func (PySem.W.fnOf "are_new" "are_new" (defArgs s_are_new) (defBody s_are_new) (defScope s_are_new) .none kV6 dc6 pm6 an6 cd6 ct6), sl6⟩) (c6 : PySem.W.codeIn K cd6 "are_new" = true) (k6 : PySem.W.keepIn K (.ref f6) = true)
    {od7 an7 : Option Addr} {sl7 : Array (Option Value)} {oc7 kV7 dc7 pm7 cd7 ct7 : Value}
    (a7 : PySem.W.nsIn K mainGlobals "is_put" = some (some (.ref f7))) (l7 : K.lookup f7 = some ⟨oc7, od7, .func (PySem.W.fnOf "is_put" "is_put" (defArgs s_is_put) (defBody s_is_put) (defScope s_is_put) .none kV7 dc7 pm7 an7 cd7 ct7), sl7⟩) (c7 : PySem.W.codeIn K cd7 "is_put" = true) (k7 : PySem.W.keepIn K (.ref f7) = true)
    {od8 an8 : Option Addr} {sl8 : Array (Option Value)} {oc8 kV8 dc8 pm8 cd8 ct8 : Value}
    (a8 : PySem.W.nsIn K mainGlobals "is_patch" = some (some (.ref f8))) (l8 : K.lookup f8 = some ⟨oc8, od8, .func (PySem.W.fnOf "is_patch" "is_patch" (defArgs s_is_patch) (defBody s_is_patch) (defScope s_is_patch) .none kV8 dc8 pm8 an8 cd8 ct8), sl8⟩) (c8 : PySem.W.codeIn K cd8 "is_patch" = true) (k8 : PySem.W.keepIn K (.ref f8) = true)
    {od9 an9 : Option Addr} {sl9 : Array (Option Value)} {oc9 kV9 dc9 pm9 cd9 ct9 : Value}
    (a9 : PySem.W.nsIn K mainGlobals "is_drop" = some (some (.ref f9))) (l9 : K.lookup f9 = some ⟨oc9, od9, .func (PySem.W.fnOf "is_drop" "is_drop" (defArgs s_is_drop) (defBody s_is_drop) (defScope s_is_drop) .none kV9 dc9 pm9 an9 cd9 ct9), sl9⟩) (c9 : PySem.W.codeIn K cd9 "is_drop" = true) (k9 : PySem.W.keepIn K (.ref f9) = true)
    {od10 an10 : Option Addr} {sl10 : Array (Option Value)} {oc10 kV10 dc10 pm10 cd10 ct10 : Value}
    (a10 : PySem.W.nsIn K mainGlobals "is_rename" = some (some (.ref f10))) (l10 : K.lookup f10 = some ⟨oc10, od10, .func (PySem.W.fnOf "is_rename" "is_rename" (defArgs s_is_rename) (defBody s_is_rename) (defScope s_is_rename) .none kV10 dc10 pm10 an10 cd10 ct10), sl10⟩) (c10 : PySem.W.codeIn K cd10 "is_rename" = true) (k10 : PySem.W.keepIn K (.ref f10) = true)
    {od11 an11 : Option Addr} {sl11 : Array (Option Value)} {oc11 kV11 dc11 pm11 cd11 ct11 : Value}
    (a11 : PySem.W.nsIn K mainGlobals "is_deed" = some (some (.ref f11))) (l11 : K.lookup f11 = some ⟨oc11, od11, .func (PySem.W.fnOf "is_deed" "is_deed" (defArgs s_is_deed) (defBody s_is_deed) (defScope s_is_deed) .none kV11 dc11 pm11 an11 cd11 ct11), sl11⟩) (c11 : PySem.W.codeIn K cd11 "is_deed" = true) (k11 : PySem.W.keepIn K (.ref f11) = true)
    {od12 an12 : Option Addr} {sl12 : Array (Option Value)} {oc12 kV12 dc12 pm12 cd12 ct12 : Value}
    (a12 : PySem.W.nsIn K mainGlobals "check_tree" = some (some (.ref f12))) (l12 : K.lookup f12 = some ⟨oc12, od12, .func (PySem.W.fnOf "check_tree" "check_tree" (defArgs s_check_tree) (defBody s_check_tree) (defScope s_check_tree) .none kV12 dc12 pm12 an12 cd12 ct12), sl12⟩) (c12 : PySem.W.codeIn K cd12 "check_tree" = true) (k12 : PySem.W.keepIn K (.ref f12) = true)
    {od13 an13 : Option Addr} {sl13 : Array (Option Value)} {oc13 kV13 dc13 pm13 cd13 ct13 : Value}
    (a13 : PySem.W.nsIn K mainGlobals "check_deed" = some (some (.ref f13))) (l13 : K.lookup f13 = some ⟨oc13, od13, .func (PySem.W.fnOf "check_deed" "check_deed" (defArgs s_check_deed) (defBody s_check_deed) (defScope s_check_deed) .none kV13 dc13 pm13 an13 cd13 ct13), sl13⟩) (c13 : PySem.W.codeIn K cd13 "check_deed" = true) (k13 : PySem.W.keepIn K (.ref f13) = true)
    {od14 an14 : Option Addr} {sl14 : Array (Option Value)} {oc14 kV14 dc14 pm14 cd14 ct14 : Value}
    (a14 : PySem.W.nsIn K mainGlobals "sorted_tree" = some (some (.ref f14))) (l14 : K.lookup f14 = some ⟨oc14, od14, .func (PySem.W.fnOf "sorted_tree" "sorted_tree" (defArgs s_sorted_tree) (defBody s_sorted_tree) (defScope s_sorted_tree) .none kV14 dc14 pm14 an14 cd14 ct14), sl14⟩) (c14 : PySem.W.codeIn K cd14 "sorted_tree" = true) (k14 : PySem.W.keepIn K (.ref f14) = true)
    {od15 an15 : Option Addr} {sl15 : Array (Option Value)} {oc15 kV15 dc15 pm15 cd15 ct15 : Value}
    (a15 : PySem.W.nsIn K mainGlobals "done" = some (some (.ref f15))) (l15 : K.lookup f15 = some ⟨oc15, od15, .func (PySem.W.fnOf "done" "done" (defArgs s_done) (defBody s_done) (defScope s_done) .none kV15 dc15 pm15 an15 cd15 ct15), sl15⟩) (c15 : PySem.W.codeIn K cd15 "done" = true) (k15 : PySem.W.keepIn K (.ref f15) = true)
    {od16 an16 : Option Addr} {sl16 : Array (Option Value)} {oc16 kV16 dc16 pm16 cd16 ct16 : Value}
    (a16 : PySem.W.nsIn K mainGlobals "refusal" = some (some (.ref f16))) (l16 : K.lookup f16 = some ⟨oc16, od16, .func (PySem.W.fnOf "refusal" "refusal" (defArgs s_refusal) (defBody s_refusal) (defScope s_refusal) .none kV16 dc16 pm16 an16 cd16 ct16), sl16⟩) (c16 : PySem.W.codeIn K cd16 "refusal" = true) (k16 : PySem.W.keepIn K (.ref f16) = true)
    {od17 an17 : Option Addr} {sl17 : Array (Option Value)} {oc17 kV17 dc17 pm17 cd17 ct17 : Value}
    (a17 : PySem.W.nsIn K mainGlobals "refusal_of" = some (some (.ref f17))) (l17 : K.lookup f17 = some ⟨oc17, od17, .func (PySem.W.fnOf "refusal_of" "refusal_of" (defArgs s_refusal_of) (defBody s_refusal_of) (defScope s_refusal_of) .none kV17 dc17 pm17 an17 cd17 ct17), sl17⟩) (c17 : PySem.W.codeIn K cd17 "refusal_of" = true) (k17 : PySem.W.keepIn K (.ref f17) = true)
    {od18 an18 : Option Addr} {sl18 : Array (Option Value)} {oc18 kV18 dc18 pm18 cd18 ct18 : Value}
    (a18 : PySem.W.nsIn K mainGlobals "patch_refusal" = some (some (.ref f18))) (l18 : K.lookup f18 = some ⟨oc18, od18, .func (PySem.W.fnOf "patch_refusal" "patch_refusal" (defArgs s_patch_refusal) (defBody s_patch_refusal) (defScope s_patch_refusal) .none kV18 dc18 pm18 an18 cd18 ct18), sl18⟩) (c18 : PySem.W.codeIn K cd18 "patch_refusal" = true) (k18 : PySem.W.keepIn K (.ref f18) = true)
    {od19 an19 : Option Addr} {sl19 : Array (Option Value)} {oc19 kV19 dc19 pm19 cd19 ct19 : Value}
    (a19 : PySem.W.nsIn K mainGlobals "do_deed" = some (some (.ref f19))) (l19 : K.lookup f19 = some ⟨oc19, od19, .func (PySem.W.fnOf "do_deed" "do_deed" (defArgs s_do_deed) (defBody s_do_deed) (defScope s_do_deed) .none kV19 dc19 pm19 an19 cd19 ct19), sl19⟩) (c19 : PySem.W.codeIn K cd19 "do_deed" = true) (k19 : PySem.W.keepIn K (.ref f19) = true)
    {od20 an20 : Option Addr} {sl20 : Array (Option Value)} {oc20 kV20 dc20 pm20 cd20 ct20 : Value}
    (a20 : PySem.W.nsIn K mainGlobals "put_cells" = some (some (.ref f20))) (l20 : K.lookup f20 = some ⟨oc20, od20, .func (PySem.W.fnOf "put_cells" "put_cells" (defArgs s_put_cells) (defBody s_put_cells) (defScope s_put_cells) .none kV20 dc20 pm20 an20 cd20 ct20), sl20⟩) (c20 : PySem.W.codeIn K cd20 "put_cells" = true) (k20 : PySem.W.keepIn K (.ref f20) = true)
    {od21 an21 : Option Addr} {sl21 : Array (Option Value)} {oc21 kV21 dc21 pm21 cd21 ct21 : Value}
    (a21 : PySem.W.nsIn K mainGlobals "touched" = some (some (.ref f21))) (l21 : K.lookup f21 = some ⟨oc21, od21, .func (PySem.W.fnOf "touched" "touched" (defArgs s_touched) (defBody s_touched) (defScope s_touched) .none kV21 dc21 pm21 an21 cd21 ct21), sl21⟩) (c21 : PySem.W.codeIn K cd21 "touched" = true) (k21 : PySem.W.keepIn K (.ref f21) = true)
    {od22 an22 : Option Addr} {sl22 : Array (Option Value)} {oc22 kV22 dc22 pm22 cd22 ct22 : Value}
    (a22 : PySem.W.nsIn K mainGlobals "_law_well" = some (some (.ref f22))) (l22 : K.lookup f22 = some ⟨oc22, od22, .func (PySem.W.fnOf "_law_well" "_law_well" (defArgs s_law_well) (defBody s_law_well) (defScope s_law_well) .none kV22 dc22 pm22 an22 cd22 ct22), sl22⟩) (c22 : PySem.W.codeIn K cd22 "_law_well" = true) (k22 : PySem.W.keepIn K (.ref f22) = true)
    {od23 an23 : Option Addr} {sl23 : Array (Option Value)} {oc23 kV23 dc23 pm23 cd23 ct23 : Value}
    (a23 : PySem.W.nsIn K mainGlobals "_law_drawn" = some (some (.ref f23))) (l23 : K.lookup f23 = some ⟨oc23, od23, .func (PySem.W.fnOf "_law_drawn" "_law_drawn" (defArgs s_law_drawn) (defBody s_law_drawn) (defScope s_law_drawn) .none kV23 dc23 pm23 an23 cd23 ct23), sl23⟩) (c23 : PySem.W.codeIn K cd23 "_law_drawn" = true) (k23 : PySem.W.keepIn K (.ref f23) = true)
    {od24 an24 : Option Addr} {sl24 : Array (Option Value)} {oc24 kV24 dc24 pm24 cd24 ct24 : Value}
    (a24 : PySem.W.nsIn K mainGlobals "_law_given" = some (some (.ref f24))) (l24 : K.lookup f24 = some ⟨oc24, od24, .func (PySem.W.fnOf "_law_given" "_law_given" (defArgs s_law_given) (defBody s_law_given) (defScope s_law_given) .none kV24 dc24 pm24 an24 cd24 ct24), sl24⟩) (c24 : PySem.W.codeIn K cd24 "_law_given" = true) (k24 : PySem.W.keepIn K (.ref f24) = true)
    {od25 an25 : Option Addr} {sl25 : Array (Option Value)} {oc25 kV25 dc25 pm25 cd25 ct25 : Value}
    (a25 : PySem.W.nsIn K mainGlobals "_law_cells" = some (some (.ref f25))) (l25 : K.lookup f25 = some ⟨oc25, od25, .func (PySem.W.fnOf "_law_cells" "_law_cells" (defArgs s_law_cells) (defBody s_law_cells) (defScope s_law_cells) .none kV25 dc25 pm25 an25 cd25 ct25), sl25⟩) (c25 : PySem.W.codeIn K cd25 "_law_cells" = true) (k25 : PySem.W.keepIn K (.ref f25) = true)
    {od26 an26 : Option Addr} {sl26 : Array (Option Value)} {oc26 kV26 dc26 pm26 cd26 ct26 : Value}
    (a26 : PySem.W.nsIn K mainGlobals "_law_behind" = some (some (.ref f26))) (l26 : K.lookup f26 = some ⟨oc26, od26, .func (PySem.W.fnOf "_law_behind" "_law_behind" (defArgs s_law_behind) (defBody s_law_behind) (defScope s_law_behind) .none kV26 dc26 pm26 an26 cd26 ct26), sl26⟩) (c26 : PySem.W.codeIn K cd26 "_law_behind" = true) (k26 : PySem.W.keepIn K (.ref f26) = true)
    {od27 an27 : Option Addr} {sl27 : Array (Option Value)} {oc27 kV27 dc27 pm27 cd27 ct27 : Value}
    (a27 : PySem.W.nsIn K mainGlobals "_law_names" = some (some (.ref f27))) (l27 : K.lookup f27 = some ⟨oc27, od27, .func (PySem.W.fnOf "_law_names" "_law_names" (defArgs s_law_names) (defBody s_law_names) (defScope s_law_names) .none kV27 dc27 pm27 an27 cd27 ct27), sl27⟩) (c27 : PySem.W.codeIn K cd27 "_law_names" = true) (k27 : PySem.W.keepIn K (.ref f27) = true)
    {od28 an28 : Option Addr} {sl28 : Array (Option Value)} {oc28 kV28 dc28 pm28 cd28 ct28 : Value}
    (a28 : PySem.W.nsIn K mainGlobals "_law_odd_deed" = some (some (.ref f28))) (l28 : K.lookup f28 = some ⟨oc28, od28, .func (PySem.W.fnOf "_law_odd_deed" "_law_odd_deed" (defArgs s_law_odd_deed) (defBody s_law_odd_deed) (defScope s_law_odd_deed) .none kV28 dc28 pm28 an28 cd28 ct28), sl28⟩) (c28 : PySem.W.codeIn K cd28 "_law_odd_deed" = true) (k28 : PySem.W.keepIn K (.ref f28) = true)
    {od29 an29 : Option Addr} {sl29 : Array (Option Value)} {oc29 kV29 dc29 pm29 cd29 ct29 : Value}
    (a29 : PySem.W.nsIn K mainGlobals "_law_like" = some (some (.ref f29))) (l29 : K.lookup f29 = some ⟨oc29, od29, .func (PySem.W.fnOf "_law_like" "_law_like" (defArgs s_law_like) (defBody s_law_like) (defScope s_law_like) .none kV29 dc29 pm29 an29 cd29 ct29), sl29⟩) (c29 : PySem.W.codeIn K cd29 "_law_like" = true) (k29 : PySem.W.keepIn K (.ref f29) = true)
    {od30 an30 : Option Addr} {sl30 : Array (Option Value)} {oc30 kV30 dc30 pm30 cd30 ct30 : Value}
    (a30 : PySem.W.nsIn K mainGlobals "_law_refused" = some (some (.ref f30))) (l30 : K.lookup f30 = some ⟨oc30, od30, .func (PySem.W.fnOf "_law_refused" "_law_refused" (defArgs s_law_refused) (defBody s_law_refused) (defScope s_law_refused) .none kV30 dc30 pm30 an30 cd30 ct30), sl30⟩) (c30 : PySem.W.codeIn K cd30 "_law_refused" = true) (k30 : PySem.W.keepIn K (.ref f30) = true)
    {od31 an31 : Option Addr} {sl31 : Array (Option Value)} {oc31 kV31 dc31 pm31 cd31 ct31 : Value}
    (a31 : PySem.W.nsIn K mainGlobals "_law_right" = some (some (.ref f31))) (l31 : K.lookup f31 = some ⟨oc31, od31, .func (PySem.W.fnOf "_law_right" "_law_right" (defArgs s_law_right) (defBody s_law_right) (defScope s_law_right) .none kV31 dc31 pm31 an31 cd31 ct31), sl31⟩) (c31 : PySem.W.codeIn K cd31 "_law_right" = true) (k31 : PySem.W.keepIn K (.ref f31) = true)
    {od32 an32 : Option Addr} {sl32 : Array (Option Value)} {oc32 kV32 dc32 pm32 cd32 ct32 : Value}
    (a32 : PySem.W.nsIn K mainGlobals "law" = some (some (.ref f32))) (l32 : K.lookup f32 = some ⟨oc32, od32, .func (PySem.W.fnOf "law" "law" (defArgs s_law) (defBody s_law) (defScope s_law) .none kV32 dc32 pm32 an32 cd32 ct32), sl32⟩) (c32 : PySem.W.codeIn K cd32 "law" = true) (k32 : PySem.W.keepIn K (.ref f32) = true)
    (z_ArithmeticError : PySem.W.nsIn K mainGlobals "ArithmeticError" = some none)
    (z_abs : PySem.W.nsIn K mainGlobals "abs" = some none)
    (z_all : PySem.W.nsIn K mainGlobals "all" = some none)
    (z_bool : PySem.W.nsIn K mainGlobals "bool" = some none)
    (z_dict : PySem.W.nsIn K mainGlobals "dict" = some none)
    (z_int : PySem.W.nsIn K mainGlobals "int" = some none)
    (z_isinstance : PySem.W.nsIn K mainGlobals "isinstance" = some none)
    (z_len : PySem.W.nsIn K mainGlobals "len" = some none)
    (z_list : PySem.W.nsIn K mainGlobals "list" = some none)
    (z_max : PySem.W.nsIn K mainGlobals "max" = some none)
    (z_min : PySem.W.nsIn K mainGlobals "min" = some none)
    (z_range : PySem.W.nsIn K mainGlobals "range" = some none)
    (z_sorted : PySem.W.nsIn K mainGlobals "sorted" = some none)
    (z_str : PySem.W.nsIn K mainGlobals "str" = some none)
    (z_sum : PySem.W.nsIn K mainGlobals "sum" = some none)
    (z_tuple : PySem.W.nsIn K mainGlobals "tuple" = some none)
    {f_JUDGES : Addr} {e_JUDGES : Array DictEntry} {n_JUDGES : Nat} (ta_JUDGES : PySem.W.nsIn K mainGlobals "JUDGES" = some (some (.ref f_JUDGES))) (tl_JUDGES : K.lookup f_JUDGES = some ⟨.type "dict", none, .dict e_JUDGES n_JUDGES, #[]⟩)
    (tn_JUDGES_0 : PySem.W.nsIn K f_JUDGES (st [112, 117, 116]) = some (some (.ref f7)))
    (tn_JUDGES_1 : PySem.W.nsIn K f_JUDGES (st [112, 97, 116, 99, 104]) = some (some (.ref f8)))
    (tn_JUDGES_2 : PySem.W.nsIn K f_JUDGES (st [100, 114, 111, 112]) = some (some (.ref f9)))
    (tn_JUDGES_3 : PySem.W.nsIn K f_JUDGES (st [114, 101, 110, 97, 109, 101]) = some (some (.ref f10)))
    (tk_JUDGES : PySem.W.KeysLit w.params e_JUDGES.toList) (ts_JUDGES : (f_JUDGES == sysModules) = false)
    {t_LETTERS : Tok} (y_LETTERS : PySem.W.nsIn K mainGlobals "LETTERS" = some (some (.str (st [97, 98, 99, 100, 101, 102, 103, 104, 105, 106, 107, 108, 109, 110, 111, 112, 113, 114, 115, 116, 117, 118, 119, 120, 121, 122]) t_LETTERS)))
    {t_LONGEST : Tok} (y_LONGEST : PySem.W.nsIn K mainGlobals "LONGEST" = some (some (.int 999999999999999999999999999999999999999999999999999999999999 t_LONGEST)))
    {t_MAX_CELL : Tok} (y_MAX_CELL : PySem.W.nsIn K mainGlobals "MAX_CELL" = some (some (.int 996 t_MAX_CELL)))
    {t_MAX_NAME : Tok} (y_MAX_NAME : PySem.W.nsIn K mainGlobals "MAX_NAME" = some (some (.int 4 t_MAX_NAME)))
    {t_MOST_LENGTH : Tok} (y_MOST_LENGTH : PySem.W.nsIn K mainGlobals "MOST_LENGTH" = some (some (.int 996 t_MOST_LENGTH)))
    {t_MOST_NEW : Tok} (y_MOST_NEW : PySem.W.nsIn K mainGlobals "MOST_NEW" = some (some (.int 48 t_MOST_NEW)))
    {C_Refused I_Refused : Addr} {od_Refused an_Refused : Option Addr} {sl_Refused : Array (Option Value)} {oc_Refused kV_Refused dc_Refused pm_Refused cd_Refused ct_Refused : Value} (xa_Refused : PySem.W.nsIn K mainGlobals "Refused" = some (some (.ref C_Refused))) (xs_Refused : PySem.W.findIn K (.ref C_Refused) "__setattr__" = some (some (.builtin "object.__setattr__"))) (xe_Refused : PySem.W.subIn K (.ref C_Refused) (.type "BaseException") = some true) (xt_Refused : PySem.W.typeIn K (.ref C_Refused) = some (.type "type")) (xk_Refused : PySem.W.keepIn K (.ref C_Refused) = true)
    (xf_Refused : PySem.W.findIn K (.ref C_Refused) "reason" = some none) (xi_Refused : PySem.W.findIn K (.ref C_Refused) "__init__" = some (some (.ref I_Refused))) (xu_Refused : PySem.W.typeIn K (.ref I_Refused) = some (.type "function")) (xl_Refused : K.lookup I_Refused = some ⟨oc_Refused, od_Refused, .func (PySem.W.fnOf "__init__" "Refused.__init__" (defArgs s_i_Refused) (defBody s_i_Refused) (defScope s_i_Refused) .none kV_Refused dc_Refused pm_Refused an_Refused cd_Refused ct_Refused), sl_Refused⟩) (xc_Refused : PySem.W.codeIn K cd_Refused "Refused.__init__" = true) (xm_Refused : PySem.W.keepIn K (.ref I_Refused) = true)
    (xv_Refused : PySem.W.findCls K (.type "ArithmeticError") (.type "type") "__init__" = some (.val (.builtin "ArithmeticError.__init__"))) (xx_Refused : PySem.W.exmOne K (.ref C_Refused) (.ref C_Refused) = some true) (xz_Refused : xfB K C_Refused = true) (xo_Refused : ∃ nm q N bs bm sn sub ab col dd k0 k1 k2 k3 k5, K.lookup C_Refused = some (excClassObj nm q C_Refused N bs bm true sn sub ab col dd k0 k1 k2 k3 k5 "ArithmeticError.__new__") ∧ Ovt tlArith bm)
    : ∃ fd : FuncData, (∀ (s : Shared) (v : Value), BindsTo s fd ⟨[v], []⟩ [("script", v)]) ∧ ∀ base : Heap, K.In base → base.Ns mainGlobals mg → FnG l.prog w K mg base (L2.CX l.prog w) 12 fa fd ["script"] (sp_law K) := by
  have e := hfa.symm.trans (PySem.W.mg_of X G a32)
  cases e
  have F0 := fun_mk (st := s_is_number) l0 c0 k0
  have F1 := fun_mk (st := s_is_cell) l1 c1 k1
  have F2 := fun_mk (st := s_is_cells) l2 c2 k2
  have F3 := fun_mk (st := s_is_name) l3 c3 k3
  have F4 := fun_mk (st := s_is_tree) l4 c4 k4
  have F5 := fun_mk (st := s_is_entry) l5 c5 k5
  have F6 := fun_mk (st := s_are_new) l6 c6 k6
  have F7 := fun_mk (st := s_is_put) l7 c7 k7
  have F8 := fun_mk (st := s_is_patch) l8 c8 k8
  have F9 := fun_mk (st := s_is_drop) l9 c9 k9
  have F10 := fun_mk (st := s_is_rename) l10 c10 k10
  have F11 := fun_mk (st := s_is_deed) l11 c11 k11
  have F12 := fun_mk (st := s_check_tree) l12 c12 k12
  have F13 := fun_mk (st := s_check_deed) l13 c13 k13
  have F14 := fun_mk (st := s_sorted_tree) l14 c14 k14
  have F15 := fun_mk (st := s_done) l15 c15 k15
  have F16 := fun_mk (st := s_refusal) l16 c16 k16
  have F17 := fun_mk (st := s_refusal_of) l17 c17 k17
  have F18 := fun_mk (st := s_patch_refusal) l18 c18 k18
  have F19 := fun_mk (st := s_do_deed) l19 c19 k19
  have F20 := fun_mk (st := s_put_cells) l20 c20 k20
  have F21 := fun_mk (st := s_touched) l21 c21 k21
  have F22 := fun_mk (st := s_law_well) l22 c22 k22
  have F23 := fun_mk (st := s_law_drawn) l23 c23 k23
  have F24 := fun_mk (st := s_law_given) l24 c24 k24
  have F25 := fun_mk (st := s_law_cells) l25 c25 k25
  have F26 := fun_mk (st := s_law_behind) l26 c26 k26
  have F27 := fun_mk (st := s_law_names) l27 c27 k27
  have F28 := fun_mk (st := s_law_odd_deed) l28 c28 k28
  have F29 := fun_mk (st := s_law_like) l29 c29 k29
  have F30 := fun_mk (st := s_law_refused) l30 c30 k30
  have F31 := fun_mk (st := s_law_right) l31 c31 k31
  have F32 := fun_mk (st := s_law) l32 c32 k32
  have FI_Refused := fun_mk (st := s_i_Refused) xl_Refused xc_Refused xm_Refused
  have T : Txt w K (fun k => if k = 3 then C_Refused else 0) mg ⟨f0, f1, f2, f3, f4, f5, f6, f7, f8, f9, f10, f11, f12, f13, f14, f15, f16, f17, f18, f19, f20, f21, f22, f23, f24, f25, f26, f27, f28, f29, f30, f31, fa, f_JUDGES, I_Refused⟩ ⟨_, _, _, _, _, _, _, _, _, _, _, _, _, _, _, _, _, _, _, _, _, _, _, _, _, _, _, _, _, _, _, _, _, _⟩ := {
    cx_Refused := ⟨xo_Refused, xs_Refused, xe_Refused, xt_Refused, xk_Refused⟩
    cf_Refused := xf_Refused
    ci_Refused := xi_Refused
    ct_Refused := xu_Refused
    cF_Refused := FI_Refused
    cB_Refused := FI_Refused.binds (ps := ["self", "reason"]) fun _ _ _ _ _ _ us hl => match us, hl with | [_, _], _ => rfl
    cg_Refused := PySem.W.mg_of X G xa_Refused
    cv_Refused := xv_Refused
    ce_Refused := xx_Refused
    cz_Refused := xz_Refused
    b_ArithmeticError := PySem.W.mg_none_of X G z_ArithmeticError
    b_abs := PySem.W.mg_none_of X G z_abs
    b_all := PySem.W.mg_none_of X G z_all
    b_bool := PySem.W.mg_none_of X G z_bool
    b_dict := PySem.W.mg_none_of X G z_dict
    b_int := PySem.W.mg_none_of X G z_int
    b_isinstance := PySem.W.mg_none_of X G z_isinstance
    b_len := PySem.W.mg_none_of X G z_len
    b_list := PySem.W.mg_none_of X G z_list
    b_max := PySem.W.mg_none_of X G z_max
    b_min := PySem.W.mg_none_of X G z_min
    b_range := PySem.W.mg_none_of X G z_range
    b_sorted := PySem.W.mg_none_of X G z_sorted
    b_str := PySem.W.mg_none_of X G z_str
    b_sum := PySem.W.mg_none_of X G z_sum
    b_tuple := PySem.W.mg_none_of X G z_tuple
    c_LETTERS := ⟨_, PySem.W.mg_of X G y_LETTERS⟩
    c_LONGEST := ⟨_, PySem.W.mg_of X G y_LONGEST⟩
    c_MAX_CELL := ⟨_, PySem.W.mg_of X G y_MAX_CELL⟩
    c_MAX_NAME := ⟨_, PySem.W.mg_of X G y_MAX_NAME⟩
    c_MOST_LENGTH := ⟨_, PySem.W.mg_of X G y_MOST_LENGTH⟩
    c_MOST_NEW := ⟨_, PySem.W.mg_of X G y_MOST_NEW⟩
    g_JUDGES := PySem.W.mg_of X G ta_JUDGES
    kd_JUDGES := ⟨_, _, tl_JUDGES, tk_JUDGES, ts_JUDGES⟩
    n_JUDGES_0 := tn_JUDGES_0
    n_JUDGES_1 := tn_JUDGES_1
    n_JUDGES_2 := tn_JUDGES_2
    n_JUDGES_3 := tn_JUDGES_3
    g_is_number := PySem.W.mg_of X G a0
    k_is_number := k0
    F_is_number := F0
    B_is_number := F0.binds (ps := ["value", "least", "most"]) fun _ _ _ _ _ _ us hl => match us, hl with | [_, _, _], _ => rfl
    g_is_cell := PySem.W.mg_of X G a1
    k_is_cell := k1
    F_is_cell := F1
    B_is_cell := F1.binds (ps := ["value"]) fun _ _ _ _ _ _ us hl => match us, hl with | [_], _ => rfl
    g_is_cells := PySem.W.mg_of X G a2
    k_is_cells := k2
    F_is_cells := F2
    B_is_cells := F2.binds (ps := ["value"]) fun _ _ _ _ _ _ us hl => match us, hl with | [_], _ => rfl
    g_is_name := PySem.W.mg_of X G a3
    k_is_name := k3
    F_is_name := F3
    B_is_name := F3.binds (ps := ["value"]) fun _ _ _ _ _ _ us hl => match us, hl with | [_], _ => rfl
    g_is_tree := PySem.W.mg_of X G a4
    k_is_tree := k4
    F_is_tree := F4
    B_is_tree := F4.binds (ps := ["value"]) fun _ _ _ _ _ _ us hl => match us, hl with | [_], _ => rfl
    g_is_entry := PySem.W.mg_of X G a5
    k_is_entry := k5
    F_is_entry := F5
    B_is_entry := F5.binds (ps := ["value"]) fun _ _ _ _ _ _ us hl => match us, hl with | [_], _ => rfl
    g_are_new := PySem.W.mg_of X G a6
    k_are_new := k6
    F_are_new := F6
    B_are_new := F6.binds (ps := ["value"]) fun _ _ _ _ _ _ us hl => match us, hl with | [_], _ => rfl
    g_is_put := PySem.W.mg_of X G a7
    k_is_put := k7
    F_is_put := F7
    B_is_put := F7.binds (ps := ["value"]) fun _ _ _ _ _ _ us hl => match us, hl with | [_], _ => rfl
    g_is_patch := PySem.W.mg_of X G a8
    k_is_patch := k8
    F_is_patch := F8
    B_is_patch := F8.binds (ps := ["value"]) fun _ _ _ _ _ _ us hl => match us, hl with | [_], _ => rfl
    g_is_drop := PySem.W.mg_of X G a9
    k_is_drop := k9
    F_is_drop := F9
    B_is_drop := F9.binds (ps := ["value"]) fun _ _ _ _ _ _ us hl => match us, hl with | [_], _ => rfl
    g_is_rename := PySem.W.mg_of X G a10
    k_is_rename := k10
    F_is_rename := F10
    B_is_rename := F10.binds (ps := ["value"]) fun _ _ _ _ _ _ us hl => match us, hl with | [_], _ => rfl
    g_is_deed := PySem.W.mg_of X G a11
    k_is_deed := k11
    F_is_deed := F11
    B_is_deed := F11.binds (ps := ["value"]) fun _ _ _ _ _ _ us hl => match us, hl with | [_], _ => rfl
    g_check_tree := PySem.W.mg_of X G a12
    k_check_tree := k12
    F_check_tree := F12
    B_check_tree := F12.binds (ps := ["tree"]) fun _ _ _ _ _ _ us hl => match us, hl with | [_], _ => rfl
    g_check_deed := PySem.W.mg_of X G a13
    k_check_deed := k13
    F_check_deed := F13
    B_check_deed := F13.binds (ps := ["deed"]) fun _ _ _ _ _ _ us hl => match us, hl with | [_], _ => rfl
    g_sorted_tree := PySem.W.mg_of X G a14
    k_sorted_tree := k14
    F_sorted_tree := F14
    B_sorted_tree := F14.binds (ps := ["tree"]) fun _ _ _ _ _ _ us hl => match us, hl with | [_], _ => rfl
    g_done := PySem.W.mg_of X G a15
    k_done := k15
    F_done := F15
    B_done := F15.binds (ps := ["tree", "deed"]) fun _ _ _ _ _ _ us hl => match us, hl with | [_, _], _ => rfl
    g_refusal := PySem.W.mg_of X G a16
    k_refusal := k16
    F_refusal := F16
    B_refusal := F16.binds (ps := ["tree", "deed"]) fun _ _ _ _ _ _ us hl => match us, hl with | [_, _], _ => rfl
    g_refusal_of := PySem.W.mg_of X G a17
    k_refusal_of := k17
    F_refusal_of := F17
    B_refusal_of := F17.binds (ps := ["tree", "deed"]) fun _ _ _ _ _ _ us hl => match us, hl with | [_, _], _ => rfl
    g_patch_refusal := PySem.W.mg_of X G a18
    k_patch_refusal := k18
    F_patch_refusal := F18
    B_patch_refusal := F18.binds (ps := ["deed", "length"]) fun _ _ _ _ _ _ us hl => match us, hl with | [_, _], _ => rfl
    g_do_deed := PySem.W.mg_of X G a19
    k_do_deed := k19
    F_do_deed := F19
    B_do_deed := F19.binds (ps := ["tree", "deed", "cells"]) fun _ _ _ _ _ _ us hl => match us, hl with | [_, _, _], _ => rfl
    g_put_cells := PySem.W.mg_of X G a20
    k_put_cells := k20
    F_put_cells := F20
    B_put_cells := F20.binds (ps := ["deed"]) fun _ _ _ _ _ _ us hl => match us, hl with | [_], _ => rfl
    g_touched := PySem.W.mg_of X G a21
    k_touched := k21
    F_touched := F21
    B_touched := F21.binds (ps := ["deed"]) fun _ _ _ _ _ _ us hl => match us, hl with | [_], _ => rfl
    g_law_well := PySem.W.mg_of X G a22
    k_law_well := k22
    F_law_well := F22
    B_law_well := F22.binds (ps := ["script", "spot"]) fun _ _ _ _ _ _ us hl => match us, hl with | [_, _], _ => rfl
    g_law_drawn := PySem.W.mg_of X G a23
    k_law_drawn := k23
    F_law_drawn := F23
    B_law_drawn := F23.binds (ps := ["well", "many"]) fun _ _ _ _ _ _ us hl => match us, hl with | [_, _], _ => rfl
    g_law_given := PySem.W.mg_of X G a24
    k_law_given := k24
    F_law_given := F24
    B_law_given := F24.binds (ps := ["well", "items"]) fun _ _ _ _ _ _ us hl => match us, hl with | [_, _], _ => rfl
    g_law_cells := PySem.W.mg_of X G a25
    k_law_cells := k25
    F_law_cells := F25
    B_law_cells := F25.binds (ps := ["well", "most"]) fun _ _ _ _ _ _ us hl => match us, hl with | [_, _], _ => rfl
    g_law_behind := PySem.W.mg_of X G a26
    k_law_behind := k26
    F_law_behind := F26
    B_law_behind := F26.binds (ps := ["tree", "deed"]) fun _ _ _ _ _ _ us hl => match us, hl with | [_, _], _ => rfl
    g_law_names := PySem.W.mg_of X G a27
    k_law_names := k27
    F_law_names := F27
    B_law_names := F27.binds (ps := []) fun _ _ _ _ _ _ us hl => match us, hl with | [], _ => rfl
    g_law_odd_deed := PySem.W.mg_of X G a28
    k_law_odd_deed := k28
    F_law_odd_deed := F28
    B_law_odd_deed := F28.binds (ps := ["well", "tree"]) fun _ _ _ _ _ _ us hl => match us, hl with | [_, _], _ => rfl
    g_law_like := PySem.W.mg_of X G a29
    k_law_like := k29
    F_law_like := F29
    B_law_like := F29.binds (ps := ["well", "tree", "deed"]) fun _ _ _ _ _ _ us hl => match us, hl with | [_, _, _], _ => rfl
    g_law_refused := PySem.W.mg_of X G a30
    k_law_refused := k30
    F_law_refused := F30
    B_law_refused := F30.binds (ps := ["tree", "deed"]) fun _ _ _ _ _ _ us hl => match us, hl with | [_, _], _ => rfl
    g_law_right := PySem.W.mg_of X G a31
    k_law_right := k31
    F_law_right := F31
    B_law_right := F31.binds (ps := ["well"]) fun _ _ _ _ _ _ us hl => match us, hl with | [_], _ => rfl
    g_law := PySem.W.mg_of X G a32
    k_law := k32
    F_law := F32
    B_law := F32.binds (ps := ["script"]) fun _ _ _ _ _ _ us hl => match us, hl with | [_], _ => rfl
  }
  refine ⟨PySem.W.fnOf "law" "law" (defArgs s_law) (defBody s_law) (defScope s_law) .none kV32 dc32 pm32 an32 cd32 ct32, fun s v => .of_eq rfl, fun base _ _ => ?_⟩
  have G_is_number := ok_is_number (P := l.prog) (w := w) (base := base) T 
  have G_is_name := ok_is_name (P := l.prog) (w := w) (base := base) T 
  have G_sorted_tree := ok_sorted_tree (P := l.prog) (w := w) (base := base) T 
  have G_patch_refusal := ok_patch_refusal (P := l.prog) (w := w) (base := base) T 
  have G_do_deed := ok_do_deed (P := l.prog) (w := w) (base := base) T 
  have G_put_cells := ok_put_cells (P := l.prog) (w := w) (base := base) T 
  have G_law_well := ok_law_well (P := l.prog) (w := w) (base := base) T 
  have G_law_drawn := ok_law_drawn (P := l.prog) (w := w) (base := base) T 
  have G_law_behind := ok_law_behind (P := l.prog) (w := w) (base := base) T 
  have G_law_names := ok_law_names (P := l.prog) (w := w) (base := base) T 
  have G_is_cell := ok_is_cell (P := l.prog) (w := w) (base := base) T G_is_number
  have G_is_drop := ok_is_drop (P := l.prog) (w := w) (base := base) T G_is_name
  have G_is_rename := ok_is_rename (P := l.prog) (w := w) (base := base) T G_is_name
  have G_refusal_of := ok_refusal_of (P := l.prog) (w := w) (base := base) T G_patch_refusal
  have G_law_given := ok_law_given (P := l.prog) (w := w) (base := base) T G_law_drawn
  have G_is_cells := ok_is_cells (P := l.prog) (w := w) (base := base) T G_is_cell
  have G_law_cells := ok_law_cells (P := l.prog) (w := w) (base := base) T G_law_drawn G_law_given
  have G_is_entry := ok_is_entry (P := l.prog) (w := w) (base := base) T G_is_cells
  have G_are_new := ok_are_new (P := l.prog) (w := w) (base := base) T G_is_cells
  have G_law_odd_deed := ok_law_odd_deed (P := l.prog) (w := w) (base := base) T G_law_cells G_law_given G_law_names
  have G_is_tree := ok_is_tree (P := l.prog) (w := w) (base := base) T G_is_entry G_is_name
  have G_is_put := ok_is_put (P := l.prog) (w := w) (base := base) T G_are_new G_is_name
  have G_is_patch := ok_is_patch (P := l.prog) (w := w) (base := base) T G_are_new G_is_name G_is_number
  have G_is_deed := ok_is_deed (P := l.prog) (w := w) (base := base) T G_is_drop G_is_patch G_is_put G_is_rename
  have G_check_tree := ok_check_tree (P := l.prog) (w := w) (base := base) T G_is_tree
  have G_check_deed := ok_check_deed (P := l.prog) (w := w) (base := base) T G_is_deed
  have G_refusal := ok_refusal (P := l.prog) (w := w) (base := base) T G_check_deed G_check_tree G_refusal_of
  have G_touched := ok_touched (P := l.prog) (w := w) (base := base) T G_check_deed
  have G_done := ok_done (P := l.prog) (w := w) (base := base) T G_do_deed G_put_cells G_refusal G_sorted_tree
  have G_law_like := ok_law_like (P := l.prog) (w := w) (base := base) T G_law_cells G_law_drawn G_touched
  have G_law_refused := ok_law_refused (P := l.prog) (w := w) (base := base) T G_done
  have G_law_right := ok_law_right (P := l.prog) (w := w) (base := base) T G_law_behind G_law_cells G_law_drawn G_law_given G_law_like G_law_names G_law_odd_deed G_law_refused G_refusal
  have G_law := ok_law (P := l.prog) (w := w) (base := base) T G_law_right G_law_well G_refusal
  exact G_law.imp (fun vs H Q E h => law_sp law_true h)
theorem walk {l : PySem.W.OpenLaw} {q : Program} {loose : List Str} {XP : (Str → Option Value) → Heap → Prop} {YP : World → Heap → Prop} {d : DefRec} {K : Params → PySem.W.Frag} (hn : l.most = some 63) (hdf : d.params.defaults = [])
    (hY : ∀ (w : World) (h : Heap), YP w h → (K w.params).In h)
    (F : ∀ (w : World) (mg : Str → Option Value) (fa : Addr) (h : Heap), (K w.params).In h → h.Ns mainGlobals mg → mg d.name = some (.ref fa) →
      ∃ fd : FuncData, (∀ (s : Shared) (u : Value), BindsTo s fd ⟨[u], []⟩ [("script", u)]) ∧ ∀ base : Heap, (K w.params).In base → base.Ns mainGlobals mg → FnG l.prog w (K w.params) mg base (L2.CX l.prog w) 12 fa fd ["script"] (sp_law (K w.params))) :
    PySem.W.WalkO q loose XP YP l.row.toRowW d [] (fun f vs => PySem.call f vs) :=
  Ev.walk_G (n := 63) (k := 12) (x := "script") (CX := fun w => L2.CX l.prog w) (sp := fun w => sp_law (K w.params)) hn (by decide) hdf ⟨rfl, by decide, by decide⟩ hY F (fun _ H a ns hl hO hS => ⟨a, ns, rfl, only_rol hO hS, hl, fun _ => rfl⟩) fun _ _ _ _ _ z => cx_false z
end
end My
open PySem PySem.W PyProof.Rows
set_option maxRecDepth 100000 in
set_option maxHeartbeats 0 in
theorem PySem.Challenge.cw_stillread_k32_whole_reasons_of_refusals_holds : PySem.Challenge.rw_stillread_k32_whole_reasons_of_refusals.Holds := by
  w_on; o_law; k_head; (case hw => w_witness2)
  k_fill
  refine My.walk (l := PySem.Challenge.rw_stillread_k32_whole_reasons_of_refusals) rfl rfl (fun w h Y => PySem.W.kIn_of Y) ?F
  case F =>
    intro w mg fa h KX G hmg
    refine' My.all_mk KX G hmg ?a0 ?l0 ?c0 ?k0 ?a1 ?l1 ?c1 ?k1 ?a2 ?l2 ?c2 ?k2 ?a3 ?l3 ?c3 ?k3 ?a4 ?l4 ?c4 ?k4 ?a5 ?l5 ?c5 ?k5 ?a6 ?l6 ?c6 ?k6 ?a7 ?l7 ?c7 ?k7 ?a8 ?l8 ?c8 ?k8 ?a9 ?l9 ?c9 ?k9 ?a10 ?l10 ?c10 ?k10 ?a11 ?l11 ?c11 ?k11 ?a12 ?l12 ?c12 ?k12 ?a13 ?l13 ?c13 ?k13 ?a14 ?l14 ?c14 ?k14 ?a15 ?l15 ?c15 ?k15 ?a16 ?l16 ?c16 ?k16 ?a17 ?l17 ?c17 ?k17 ?a18 ?l18 ?c18 ?k18 ?a19 ?l19 ?c19 ?k19 ?a20 ?l20 ?c20 ?k20 ?a21 ?l21 ?c21 ?k21 ?a22 ?l22 ?c22 ?k22 ?a23 ?l23 ?c23 ?k23 ?a24 ?l24 ?c24 ?k24 ?a25 ?l25 ?c25 ?k25 ?a26 ?l26 ?c26 ?k26 ?a27 ?l27 ?c27 ?k27 ?a28 ?l28 ?c28 ?k28 ?a29 ?l29 ?c29 ?k29 ?a30 ?l30 ?c30 ?k30 ?a31 ?l31 ?c31 ?k31 ?a32 ?l32 ?c32 ?k32 ?z_ArithmeticError ?z_abs ?z_all ?z_bool ?z_dict ?z_int ?z_isinstance ?z_len ?z_list ?z_max ?z_min ?z_range ?z_sorted ?z_str ?z_sum ?z_tuple ?ta_JUDGES ?tl_JUDGES ?tn_JUDGES_0 ?tn_JUDGES_1 ?tn_JUDGES_2 ?tn_JUDGES_3 ?tk_JUDGES ?ts_JUDGES ?y_LETTERS ?y_LONGEST ?y_MAX_CELL ?y_MAX_NAME ?y_MOST_LENGTH ?y_MOST_NEW ?xa_Refused ?xs_Refused ?xe_Refused ?xt_Refused ?xk_Refused ?xf_Refused ?xi_Refused ?xu_Refused ?xl_Refused ?xc_Refused ?xm_Refused ?xv_Refused ?xx_Refused ?xz_Refused ?xo_Refused
    (case a0 => k_is)
    (case l0 => k_is)
    (case c0 => k_is)
    (case k0 => k_is)
    (case a1 => k_is)
    (case l1 => k_is)
    (case c1 => k_is)
    (case k1 => k_is)
    (case a2 => k_is)
    (case l2 => k_is)
    (case c2 => k_is)
    (case k2 => k_is)
    (case a3 => k_is)
    (case l3 => k_is)
    (case c3 => k_is)
    (case k3 => k_is)
    (case a4 => k_is)
    (case l4 => k_is)
    (case c4 => k_is)
    (case k4 => k_is)
    (case a5 => k_is)
    (case l5 => k_is)
    (case c5 => k_is)
    (case k5 => k_is)
    (case a6 => k_is)
    (case l6 => k_is)
    (case c6 => k_is)
    (case k6 => k_is)
    (case a7 => k_is)
    (case l7 => k_is)
    (case c7 => k_is)
    (case k7 => k_is)
    (case a8 => k_is)
    (case l8 => k_is)
    (case c8 => k_is)
    (case k8 => k_is)
    (case a9 => k_is)
    (case l9 => k_is)
    (case c9 => k_is)
    (case k9 => k_is)
    (case a10 => k_is)
    (case l10 => k_is)
    (case c10 => k_is)
    (case k10 => k_is)
    (case a11 => k_is)
    (case l11 => k_is)
    (case c11 => k_is)
    (case k11 => k_is)
    (case a12 => k_is)
    (case l12 => k_is)
    (case c12 => k_is)
    (case k12 => k_is)
    (case a13 => k_is)
    (case l13 => k_is)
    (case c13 => k_is)
    (case k13 => k_is)
    (case a14 => k_is)
    (case l14 => k_is)
    (case c14 => k_is)
    (case k14 => k_is)
    (case a15 => k_is)
    (case l15 => k_is)
    (case c15 => k_is)
    (case k15 => k_is)
    (case a16 => k_is)
    (case l16 => k_is)
    (case c16 => k_is)
    (case k16 => k_is)
    (case a17 => k_is)
    (case l17 => k_is)
    (case c17 => k_is)
    (case k17 => k_is)
    (case a18 => k_is)
    (case l18 => k_is)
    (case c18 => k_is)
    (case k18 => k_is)
    (case a19 => k_is)
    (case l19 => k_is)
    (case c19 => k_is)
    (case k19 => k_is)
    (case a20 => k_is)
    (case l20 => k_is)
    (case c20 => k_is)
    (case k20 => k_is)
    (case a21 => k_is)
    (case l21 => k_is)
    (case c21 => k_is)
    (case k21 => k_is)
    (case a22 => k_is)
    (case l22 => k_is)
    (case c22 => k_is)
    (case k22 => k_is)
    (case a23 => k_is)
    (case l23 => k_is)
    (case c23 => k_is)
    (case k23 => k_is)
    (case a24 => k_is)
    (case l24 => k_is)
    (case c24 => k_is)
    (case k24 => k_is)
    (case a25 => k_is)
    (case l25 => k_is)
    (case c25 => k_is)
    (case k25 => k_is)
    (case a26 => k_is)
    (case l26 => k_is)
    (case c26 => k_is)
    (case k26 => k_is)
    (case a27 => k_is)
    (case l27 => k_is)
    (case c27 => k_is)
    (case k27 => k_is)
    (case a28 => k_is)
    (case l28 => k_is)
    (case c28 => k_is)
    (case k28 => k_is)
    (case a29 => k_is)
    (case l29 => k_is)
    (case c29 => k_is)
    (case k29 => k_is)
    (case a30 => k_is)
    (case l30 => k_is)
    (case c30 => k_is)
    (case k30 => k_is)
    (case a31 => k_is)
    (case l31 => k_is)
    (case c31 => k_is)
    (case k31 => k_is)
    (case a32 => k_is)
    (case l32 => k_is)
    (case c32 => k_is)
    (case k32 => k_is)
    (case z_ArithmeticError => k_is)
    (case z_abs => k_is)
    (case z_all => k_is)
    (case z_bool => k_is)
    (case z_dict => k_is)
    (case z_int => k_is)
    (case z_isinstance => k_is)
    (case z_len => k_is)
    (case z_list => k_is)
    (case z_max => k_is)
    (case z_min => k_is)
    (case z_range => k_is)
    (case z_sorted => k_is)
    (case z_str => k_is)
    (case z_sum => k_is)
    (case z_tuple => k_is)
    (case ta_JUDGES => k_is)
    (case tl_JUDGES => k_is)
    (case tn_JUDGES_0 => k_is)
    (case tn_JUDGES_1 => k_is)
    (case tn_JUDGES_2 => k_is)
    (case tn_JUDGES_3 => k_is)
    (case tk_JUDGES => exact ⟨⟨_, _, rfl, rfl⟩, ⟨_, _, rfl, rfl⟩, ⟨_, _, rfl, rfl⟩, ⟨_, _, rfl, rfl⟩, trivial⟩)
    (case ts_JUDGES => rfl)
    (case y_LETTERS => k_is)
    (case y_LONGEST => k_is)
    (case y_MAX_CELL => k_is)
    (case y_MAX_NAME => k_is)
    (case y_MOST_LENGTH => k_is)
    (case y_MOST_NEW => k_is)
    (case xa_Refused => k_is)
    (case xs_Refused => k_is)
    (case xe_Refused => k_is)
    (case xt_Refused => k_is)
    (case xk_Refused => k_is)
    (case xf_Refused => k_is)
    (case xi_Refused => k_is)
    (case xu_Refused => k_is)
    (case xl_Refused => k_is)
    (case xc_Refused => k_is)
    (case xm_Refused => k_is)
    (case xv_Refused => k_is)
    (case xx_Refused => first | rfl | (simp only [PySem.W.exmOne]; k_is) | (unfold PySem.W.exmOne; k_is))
    (case xz_Refused => first | k_is | rfl | decide +kernel)
    (case xo_Refused => exact ⟨_, _, _, _, _, _, _, _, _, _, _, _, _, _, _, by k_is, .base⟩)
