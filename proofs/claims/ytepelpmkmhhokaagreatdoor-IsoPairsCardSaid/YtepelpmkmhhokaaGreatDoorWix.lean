/- Two graphs walked through together, pair by pair: what is come to; alike just if what is tidy of them is the same. Conditions: none; nothing of the program is named here. Graphs that are laid alike: their pairs, their tidy ones. Conditions: none; nothing of the program is named here. -/
import Derived.Test.YtepelpmkmhhokaaGreatDoorWdx
import Derived.Test.YtepelpmkmhhokaaGreatDoorRsr
namespace Dfs
/-- up to the first that is not good, with it; are all good? -/
def upto (good : Nat → Bool) : List Nat → List Nat × Bool
  | [] => ([], true)
  | x :: t => if good x then (x :: (upto good t).1, (upto good t).2) else ([x], false)
theorem upto_all {good : Nat → Bool} : ∀ {l : List Nat}, (∀ x ∈ l, good x = true) → upto good l = (l, true)
  | [], _ => rfl
  | x :: t, h => by
    unfold upto
    rw [if_pos (h x (by simp)), upto_all fun y hy => h y (by simp [hy])]
theorem upto_yes {good : Nat → Bool} : ∀ {l : List Nat}, (upto good l).2 = true ↔ ∀ x ∈ l, good x = true
  | [] => by simp [upto]
  | x :: t => by
    unfold upto
    by_cases h : good x = true
    · rw [if_pos h]
      simp only [List.mem_cons, forall_eq_or_imp, h, true_and]
      exact upto_yes
    · rw [if_neg h]
      simp [h]
theorem upto_yes1 {good : Nat → Bool} {l : List Nat} (h : (upto good l).2 = true) : upto good l = (l, true) := upto_all (upto_yes.1 h)
theorem upto_no {good : Nat → Bool} : ∀ {l r : List Nat}, l <+: r → (upto good l).2 = false → upto good r = upto good l
  | [], _, _, h => by cases h
  | x :: t, r, hp, h => by
    obtain ⟨u, rfl⟩ := hp
    rw [List.cons_append]
    unfold upto at h ⊢
    by_cases hx : good x = true
    · rw [if_pos hx] at h ⊢
      rw [if_pos hx, upto_no (List.prefix_append t u) h]
    · rw [if_neg hx, if_neg hx]
theorem upto_pre {good : Nat → Bool} : ∀ {l : List Nat}, (upto good l).1 <+: l
  | [] => List.prefix_refl _
  | x :: t => by
    unfold upto
    by_cases h : good x = true
    · rw [if_pos h]
      exact List.cons_prefix_cons.2 ⟨rfl, upto_pre⟩
    · rw [if_neg h]
      exact ⟨t, rfl⟩
/-- all but the last one are good; the last one, too, if all are -/
theorem upto_good {good : Nat → Bool} : ∀ {l : List Nat} {t x : Nat}, (upto good l).1[t]? = some x → (good x = true ↔ t + 1 < (upto good l).1.length ∨ (upto good l).2 = true)
  | [], t, x, h => by simp [upto] at h
  | y :: l, t, x, h => by
    unfold upto at h ⊢
    by_cases hy : good y = true
    · rw [if_pos hy] at h ⊢
      cases t with
      | zero =>
        simp at h
        subst h
        simp only [hy, true_iff, List.length_cons]
        by_cases h2 : (upto good l).2 = true
        · exact .inr h2
        · refine .inl ?_
          have : 0 < (upto good l).1.length := by
            cases l with
            | nil => exact absurd rfl h2
            | cons z l =>
              unfold upto
              split <;> simp
          omega
      | succ t =>
        have h' : (upto good l).1[t]? = some x := by simpa using h
        rw [upto_good h']
        simp only [List.length_cons, Nat.add_lt_add_iff_right]
    · rw [if_neg hy] at h ⊢
      cases t with
      | zero => simp at h; subst h; simp [hy]
      | succ t => simp at h
theorem visit_pre (kids : Nat → List Nat) : ∀ (f i : Nat) (o : List Nat), o <+: visit kids f i o
  | 0, _, _ => List.prefix_refl _
  | f + 1, i, o => by
    by_cases h : i ∈ o
    · rw [visit_in h]
      exact List.prefix_refl _
    · rw [visit_new h]
      have : ∀ (js o : List Nat), o <+: visits kids f js o := by
        intro js
        induction js with
        | nil => intro o; exact List.prefix_refl _
        | cons j t ih => intro o; exact (visit_pre kids f j o).trans (ih _)
      exact (List.prefix_append o [i]).trans (this _ _)
theorem visits_pre (kids : Nat → List Nat) (f : Nat) : ∀ (js o : List Nat), o <+: visits kids f js o
  | [], _ => List.prefix_refl _
  | j :: t, o => (visit_pre kids f j o).trans (visits_pre kids f t _)
/-- the walk that ends at the first that is not good -/
def evisit (kids : Nat → List Nat) (good : Nat → Bool) : Nat → Nat → List Nat → List Nat × Bool
  | 0, _, o => (o, true)
  | f + 1, i, o => if i ∈ o then (o, true) else if good i then (kids i).foldl (fun r j => if r.2 then evisit kids good f j r.1 else r) (o ++ [i], true) else (o ++ [i], false)
theorem upto_snoc {good : Nat → Bool} {i : Nat} : ∀ {o : List Nat}, (∀ x ∈ o, good x = true) → good i = false → upto good (o ++ [i]) = (o ++ [i], false)
  | [], _, h => by simp [upto, h]
  | x :: t, ho, h => by
    rw [List.cons_append]
    unfold upto
    rw [if_pos (ho x (by simp)), upto_snoc (fun y hy => ho y (by simp [hy])) h]
theorem evisit_eq (kids : Nat → List Nat) (good : Nat → Bool) : ∀ (f i : Nat) (o : List Nat), (∀ x ∈ o, good x = true) → evisit kids good f i o = upto good (visit kids f i o)
  | 0, _, o, ho => (upto_all ho).symm
  | f + 1, i, o, ho => by
    by_cases h : i ∈ o
    · rw [visit_in h, upto_all ho]
      unfold evisit
      rw [if_pos h]
    · rw [visit_new h]
      unfold evisit
      rw [if_neg h]
      by_cases hg : good i = true
      · rw [if_pos hg]
        have ho' : ∀ x ∈ o ++ [i], good x = true := fun x hx => by
          rcases List.mem_append.1 hx with hx | hx
          · exact ho x hx
          · rw [List.mem_singleton.1 hx]; exact hg
        have hf : ∀ (js o' : List Nat), js.foldl (fun r j => if r.2 then evisit kids good f j r.1 else r) (upto good o') = upto good (visits kids f js o') := by
          intro js
          induction js with
          | nil => intro o'; rfl
          | cons j t ih =>
            intro o'
            rw [List.foldl_cons, visits_cons]
            by_cases h2 : (upto good o').2 = true
            · rw [if_pos h2]
              have e := upto_yes1 h2
              rw [e]
              simp only
              rw [evisit_eq kids good f j o' (upto_yes.1 h2), ih]
            · have h3 : (upto good o').2 = false := by simpa using h2
              rw [if_neg h2, ← ih, upto_no (visit_pre kids f j o') h3]
        rw [← hf, upto_all ho']
      · rw [if_neg hg]
        have hs := upto_snoc ho (by simpa using hg : good i = false)
        rw [← hs]
        exact (upto_no (visits_pre kids f (kids i) (o ++ [i])) (by rw [hs])).symm
/-- with a stack: the first that is not good ends it -/
theorem next_stop {kids : Nat → List Nat} {good : Nat → Bool} {f x : Nat} {s o : List Nat} (ho : ∀ y ∈ o, good y = true) (hx : x ∉ o) (hg : good x = false) : upto good (visits kids (f + 1) (x :: s) o) = (o ++ [x], false) := by
  have e := upto_snoc ho hg
  rw [← e]
  rw [visits_cons, visit_new hx]
  exact upto_no ((visits_pre kids f (kids x) (o ++ [x])).trans (visits_pre kids (f + 1) s _)) (by rw [e])
/-- a row of kids, one after the other, ended by the first that is not good -/
theorem upto_stop {kids : Nat → List Nat} {good : Nat → Bool} {f : Nat} {js ks o : List Nat} (h : (upto good (visits kids f js o)).2 = false) : upto good (visits kids f (js ++ ks) o) = upto good (visits kids f js o) := by
  rw [visits_append]
  exact upto_no (visits_pre kids f ks _) h
section
variable (M : Nat) (ka kb : Nat → List Nat)
/-- a pair's kids, pair by pair; a pair is a number -/
def pk (p : Nat) : List Nat := ((ka (p / M)).zip (kb (p % M))).map fun q => q.1 * M + q.2
end
theorem pair_fst {M a b : Nat} (hb : b < M) : (a * M + b) / M = a := by
  rw [Nat.mul_comm, Nat.mul_add_div (by omega), Nat.div_eq_of_lt hb, Nat.add_zero]
theorem pair_snd {M a b : Nat} (hb : b < M) : (a * M + b) % M = b := by
  rw [Nat.mul_comm, Nat.mul_add_mod, Nat.mod_eq_of_lt hb]
theorem pair_lt {N M a b : Nat} (ha : a < N) (hb : b < M) : a * M + b < N * M :=
  Nat.lt_of_lt_of_le (by rw [Nat.succ_mul]; omega : a * M + b < (a + 1) * M) (Nat.mul_le_mul_right M ha)
theorem fst_lt {N M p : Nat} (h : p < N * M) : p / M < N := Nat.div_lt_of_lt_mul (by rwa [Nat.mul_comm])
theorem snd_lt {N M p : Nat} (h : p < N * M) : p % M < M := Nat.mod_lt _ (Nat.pos_of_ne_zero fun e => by subst e; simp at h)
theorem pair_self (M p : Nat) : p / M * M + p % M = p := by rw [Nat.mul_comm]; exact Nat.div_add_mod p M
theorem idx_map {φ : Nat → Nat} : ∀ {l : List Nat} {x : Nat}, (∀ y ∈ l, φ y = φ x → y = x) → idx (l.map φ) (φ x) = idx l x
  | [], _, _ => rfl
  | y :: t, x, h => by
    rw [List.map_cons]
    unfold idx
    by_cases e : y = x
    · rw [if_pos (by rw [e]), if_pos e]
    · rw [if_neg fun e2 => e (h y (by simp) e2), if_neg e, idx_map fun z hz => h z (by simp [hz])]
section
variable {N M : Nat} {ka kb : Nat → List Nat} {fit : Nat → Nat → Bool} {ra rb : Nat} (hka : ∀ i, i < N → ∀ j ∈ ka i, j < N) (hkb : ∀ i, i < M → ∀ j ∈ kb i, j < M)
include hka hkb
theorem pk_get {p y : Nat} (hp : p < N * M) (hy : y ∈ pk M ka kb p) : ∃ t a b : Nat, (ka (p / M))[t]? = some a ∧ (kb (p % M))[t]? = some b ∧ a < N ∧ b < M ∧ y = a * M + b := by
  obtain ⟨⟨a, b⟩, hq, rfl⟩ := List.mem_map.1 hy
  obtain ⟨t, ht, e⟩ := List.getElem_of_mem hq
  rw [List.length_zip] at ht
  rw [List.getElem_zip] at e
  obtain ⟨rfl, rfl⟩ := Prod.mk.inj e
  have h1 : t < (ka (p / M)).length := by omega
  have h2 : t < (kb (p % M)).length := by omega
  exact ⟨t, _, _, List.getElem?_eq_getElem h1, List.getElem?_eq_getElem h2, hka _ (fst_lt hp) _ (List.getElem_mem h1), hkb _ (snd_lt hp) _ (List.getElem_mem h2), rfl⟩
theorem pk_lt : ∀ p, p < N * M → ∀ y ∈ pk M ka kb p, y < N * M := fun p hp y hy => by
  obtain ⟨t, a, b, _, _, ha, hb, rfl⟩ := pk_get hka hkb hp hy
  exact pair_lt ha hb
omit hka in
theorem pk_fst {p : Nat} (hp : p < N * M) (h : (ka (p / M)).length = (kb (p % M)).length) : (pk M ka kb p).map (· / M) = ka (p / M) := by
  unfold pk
  rw [List.map_map]
  refine List.ext_getElem (by simp [h]) fun t h1 h2 => ?_
  have ht : t < (kb (p % M)).length := by omega
  simp only [List.getElem_map, List.getElem_zip, Function.comp]
  exact pair_fst (hkb _ (snd_lt hp) _ (List.getElem_mem ht))
omit hka in
theorem pk_snd {p : Nat} (hp : p < N * M) (h : (ka (p / M)).length = (kb (p % M)).length) : (pk M ka kb p).map (· % M) = kb (p % M) := by
  unfold pk
  rw [List.map_map]
  refine List.ext_getElem (by simp [h]) fun t h1 h2 => ?_
  simp only [List.getElem_map, List.getElem_zip, Function.comp]
  exact pair_snd (hkb _ (snd_lt hp) _ (List.getElem_mem h2))
end
/-- what two graphs come to, walked through together -/
def pw (N M : Nat) (ka kb : Nat → List Nat) (ra rb : Nat) : List Nat := walk (pk M ka kb) (N * M) (ra * M + rb)
/-- no node of either is in two pairs with two others -/
def OneTo (M : Nat) (l : List Nat) : Prop := ∀ p ∈ l, ∀ q ∈ l, p / M = q / M ↔ p % M = q % M
/-- they are alike -/
def AlikeP (N M : Nat) (ka kb : Nat → List Nat) (fit : Nat → Nat → Bool) (ra rb : Nat) : Prop :=
  (∀ p ∈ pw N M ka kb ra rb, fit (p / M) (p % M) = true) ∧ OneTo M (pw N M ka kb ra rb)
/-- what is tidy of them is the same -/
def SameT (ka kb : Nat → List Nat) (fit : Nat → Nat → Bool) (l m : List Nat) : Prop :=
  l.length = m.length ∧ ∀ t, t < l.length → fit l[t]! m[t]! = true ∧ (ka l[t]!).map (idx l) = (kb m[t]!).map (idx m)
section
variable {N M : Nat} {ka kb : Nat → List Nat} {fit : Nat → Nat → Bool} {ra rb : Nat} (hka : ∀ i, i < N → ∀ j ∈ ka i, j < N) (hkb : ∀ i, i < M → ∀ j ∈ kb i, j < M) (hra : ra < N) (hrb : rb < M)
include hka hkb hra hrb
theorem pw_lt : ∀ p ∈ pw N M ka kb ra rb, p < N * M := (walk_went (pk_lt hka hkb) (pair_lt hra hrb)).few.2
theorem pw_closed : ∀ p ∈ pw N M ka kb ra rb, ∀ y ∈ pk M ka kb p, y ∈ pw N M ka kb ra rb := walk_closed (pk_lt hka hkb) (pair_lt hra hrb)
theorem pw_root : ra * M + rb ∈ pw N M ka kb ra rb := by
  obtain ⟨t, ht⟩ := walk_head (pk_lt hka hkb) (pair_lt hra hrb)
  unfold pw
  rw [ht]
  simp
variable (hfit : ∀ i j, i < N → j < M → fit i j = true → (ka i).length = (kb j).length)
include hfit
theorem alike_fst (h : AlikeP N M ka kb fit ra rb) : walk ka N ra = (pw N M ka kb ra rb).map (· / M) := by
  have hlt := pw_lt hka hkb hra hrb
  have h1 := visit_map (kids := pk M ka kb) (kids' := ka) (φ := (· / M)) (S := fun p => p ∈ pw N M ka kb ra rb) (pw_closed hka hkb hra hrb)
    (fun p q hp hq e => by rw [← pair_self M p, ← pair_self M q, (h.2 p hp q hq).1 e]; rw [show p / M = q / M from e])
    (fun p hp => (pk_fst hkb (hlt p hp) (hfit _ _ (fst_lt (hlt p hp)) (snd_lt (hlt p hp)) (h.1 p hp))).symm) (N * M + 1) (ra * M + rb) [] (pw_root hka hkb hra hrb) (fun x hx => by simp at hx)
  simp only [pair_fst hrb, List.map_nil] at h1
  have hNM : N ≤ N * M := Nat.le_mul_of_pos_right N (by omega)
  unfold pw walk
  rw [← (visit_went hka (N + 1) ra [] hra (few_nil N) (by simp)).2 (N * M + 1) (by omega)]
  exact h1
theorem alike_snd (h : AlikeP N M ka kb fit ra rb) : walk kb M rb = (pw N M ka kb ra rb).map (· % M) := by
  have hlt := pw_lt hka hkb hra hrb
  have h1 := visit_map (kids := pk M ka kb) (kids' := kb) (φ := (· % M)) (S := fun p => p ∈ pw N M ka kb ra rb) (pw_closed hka hkb hra hrb)
    (fun p q hp hq e => by rw [← pair_self M p, ← pair_self M q, (h.2 p hp q hq).2 e]; rw [show p % M = q % M from e])
    (fun p hp => (pk_snd hkb (hlt p hp) (hfit _ _ (fst_lt (hlt p hp)) (snd_lt (hlt p hp)) (h.1 p hp))).symm) (N * M + 1) (ra * M + rb) [] (pw_root hka hkb hra hrb) (fun x hx => by simp at hx)
  simp only [pair_snd hrb, List.map_nil] at h1
  have hNM : M ≤ N * M := Nat.le_mul_of_pos_left M (by omega)
  unfold pw walk
  rw [← (visit_went hkb (M + 1) rb [] hrb (few_nil M) (by simp)).2 (N * M + 1) (by omega)]
  exact h1
theorem alike_count (h : AlikeP N M ka kb fit ra rb) : (walk ka N ra).length = (pw N M ka kb ra rb).length ∧ (walk kb M rb).length = (pw N M ka kb ra rb).length := by
  rw [alike_fst hka hkb hra hrb hfit h, alike_snd hka hkb hra hrb hfit h]
  simp
theorem alike_same (h : AlikeP N M ka kb fit ra rb) : SameT ka kb fit (walk ka N ra) (walk kb M rb) := by
  have hlt := pw_lt hka hkb hra hrb
  have hcl := pw_closed hka hkb hra hrb
  rw [alike_fst hka hkb hra hrb hfit h, alike_snd hka hkb hra hrb hfit h]
  obtain ⟨W, hW⟩ : ∃ W, pw N M ka kb ra rb = W := ⟨_, rfl⟩
  obtain ⟨hg, ho⟩ := h
  rw [hW] at hg ho hlt hcl ⊢
  have i1 : ∀ x ∈ W, idx (W.map (· / M)) (x / M) = idx W x := fun x hx => idx_map (φ := (· / M)) fun y hy e => by rw [← pair_self M y, ← pair_self M x, (ho y hy x hx).1 e]; rw [show y / M = x / M from e]
  have i2 : ∀ x ∈ W, idx (W.map (· % M)) (x % M) = idx W x := fun x hx => idx_map (φ := (· % M)) fun y hy e => by rw [← pair_self M y, ← pair_self M x, (ho y hy x hx).2 e]; rw [show y % M = x % M from e]
  refine ⟨by simp, fun t ht => ?_⟩
  have ht' : t < W.length := by simpa using ht
  have hm : W[t] ∈ W := List.getElem_mem ht'
  rw [getElem!_pos (W.map (· / M)) t (by simpa using ht'), getElem!_pos (W.map (· % M)) t (by simpa using ht'), List.getElem_map, List.getElem_map]
  refine ⟨hg _ hm, ?_⟩
  have hl := hfit _ _ (fst_lt (hlt _ hm)) (snd_lt (hlt _ hm)) (hg _ hm)
  rw [← pk_fst hkb (hlt _ hm) hl, ← pk_snd hkb (hlt _ hm) hl, List.map_map, List.map_map]
  refine List.map_congr_left fun y hy => ?_
  have hyW := hcl _ hm y hy
  simp only [Function.comp]
  rw [i1 y hyW, i2 y hyW]
omit hfit in
theorem same_alike (h : SameT ka kb fit (walk ka N ra) (walk kb M rb)) : AlikeP N M ka kb fit ra rb := by
  have hA := walk_went hka hra
  have hB := walk_went hkb hrb
  have cA := walk_closed hka hra
  have cB := walk_closed hkb hrb
  have hNMl := pair_lt hra hrb
  obtain ⟨ta, hta⟩ := walk_head hka hra
  obtain ⟨tb, htb⟩ := walk_head hkb hrb
  obtain ⟨l, hl⟩ : ∃ l, walk ka N ra = l := ⟨_, rfl⟩
  obtain ⟨m, hm⟩ : ∃ l, walk kb M rb = l := ⟨_, rfl⟩
  rw [hl] at h hA cA hta
  rw [hm] at h hB cB htb
  obtain ⟨hlen, hat⟩ := h
  have hS : ∀ p ∈ pw N M ka kb ra rb, p < N * M ∧ p / M ∈ l ∧ p % M ∈ m ∧ idx l (p / M) = idx m (p % M) := by
    refine visit_within (S := fun p => p < N * M ∧ p / M ∈ l ∧ p % M ∈ m ∧ idx l (p / M) = idx m (p % M)) ?_ (N * M + 1) (ra * M + rb) [] ?_ (fun x hx => by simp at hx)
    · rintro p ⟨hp, h1, h2, h3⟩ y hy
      obtain ⟨t, a, b, ea, eb, ha, hb, rfl⟩ := pk_get hka hkb hp hy
      rw [pair_fst hb, pair_snd hb]
      obtain ⟨g1, g2⟩ := idx_lt h1
      obtain ⟨g3, g4⟩ := idx_lt h2
      have hk := (hat _ g1).2
      rw [← h3] at g3 g4
      rw [getElem!_pos l _ g1, getElem!_pos m _ g3, (List.getElem?_eq_some_iff.1 g2).2, (List.getElem?_eq_some_iff.1 g4).2] at hk
      have e1 : ((ka (p / M)).map (idx l))[t]? = some (idx l a) := by rw [List.getElem?_map, ea]; rfl
      have e2 : ((kb (p % M)).map (idx m))[t]? = some (idx m b) := by rw [List.getElem?_map, eb]; rfl
      rw [hk, e2] at e1
      exact ⟨pair_lt ha hb, cA _ h1 _ (List.mem_of_getElem? ea), cB _ h2 _ (List.mem_of_getElem? eb), (Option.some.inj e1).symm⟩
    · rw [pair_fst hrb, pair_snd hrb]
      refine ⟨hNMl, by rw [hta]; simp, by rw [htb]; simp, ?_⟩
      rw [hta, htb]
      unfold idx
      rw [if_pos rfl, if_pos rfl]
  refine ⟨fun p hp => ?_, fun p hp q hq => ?_⟩
  · obtain ⟨_, h1, h2, h3⟩ := hS p hp
    obtain ⟨g1, g2⟩ := idx_lt h1
    obtain ⟨g3, g4⟩ := idx_lt h2
    have hk := (hat _ g1).1
    rw [← h3] at g3 g4
    rwa [getElem!_pos l _ g1, getElem!_pos m _ g3, (List.getElem?_eq_some_iff.1 g2).2, (List.getElem?_eq_some_iff.1 g4).2] at hk
  · obtain ⟨_, h1, h2, h3⟩ := hS p hp
    obtain ⟨_, k1, k2, k3⟩ := hS q hq
    refine ⟨fun e => idx_inj h2 k2 (by rw [← h3, ← k3, e]), fun e => idx_inj h1 k1 (by rw [h3, k3, e])⟩
theorem alike_iff : AlikeP N M ka kb fit ra rb ↔ SameT ka kb fit (walk ka N ra) (walk kb M rb) := ⟨alike_same hka hkb hra hrb hfit, same_alike hka hkb hra hrb⟩
/-- each path leads somewhere in both, or in none -/
theorem alike_at (h : AlikeP N M ka kb fit ra rb) (l : List Int) : (at_ ka ra l = none ∧ at_ kb rb l = none) ∨ ∃ p, p ∈ pw N M ka kb ra rb ∧ at_ ka ra l = some (p / M) ∧ at_ kb rb l = some (p % M) := by
  have hlt := pw_lt hka hkb hra hrb
  have hcl := pw_closed hka hkb hra hrb
  have h1 := at_map (kids := pk M ka kb) (kids' := ka) (φ := (· / M)) (S := fun p => p ∈ pw N M ka kb ra rb) hcl (fun p hp => (pk_fst hkb (hlt p hp) (hfit _ _ (fst_lt (hlt p hp)) (snd_lt (hlt p hp)) (h.1 p hp))).symm) l (ra * M + rb) (pw_root hka hkb hra hrb)
  have h2 := at_map (kids := pk M ka kb) (kids' := kb) (φ := (· % M)) (S := fun p => p ∈ pw N M ka kb ra rb) hcl (fun p hp => (pk_snd hkb (hlt p hp) (hfit _ _ (fst_lt (hlt p hp)) (snd_lt (hlt p hp)) (h.1 p hp))).symm) l (ra * M + rb) (pw_root hka hkb hra hrb)
  simp only [pair_fst hrb] at h1
  simp only [pair_snd hrb] at h2
  cases e : at_ (pk M ka kb) (ra * M + rb) l with
  | none => rw [e] at h1 h2; exact .inl ⟨h1, h2⟩
  | some p =>
    rw [e] at h1 h2
    exact .inr ⟨p, at_within (S := fun p => p ∈ pw N M ka kb ra rb) hcl l _ p (pw_root hka hkb hra hrb) e, h1, h2⟩
omit hfit in
/-- what is reached from a pair is alike -/
theorem alike_sub (h : AlikeP N M ka kb fit ra rb) {p : Nat} (hp : p ∈ pw N M ka kb ra rb) : AlikeP N M ka kb fit (p / M) (p % M) := by
  have hs : ∀ q ∈ pw N M ka kb (p / M) (p % M), q ∈ pw N M ka kb ra rb := by
    refine visit_within (S := fun q => q ∈ pw N M ka kb ra rb) (pw_closed hka hkb hra hrb) (N * M + 1) (p / M * M + p % M) [] ?_ (fun _ h => by simp at h)
    rw [pair_self]
    exact hp
  exact ⟨fun q hq => h.1 q (hs q hq), fun q hq r hr => h.2 q (hs q hq) r (hs r hr)⟩
end
end Dfs

set_option maxRecDepth 100000
namespace Go.Proofs.YtepelpmkmhhokaaGreatDoor
open Go.RowKit Go.Shelf
open Scs Dfs
/-- do two nodes fit? -/
def fitF (f g : Fn) : Bool := if f.k = g.k then (if f.x = g.x then (if keysOf f = keysOf g then decide (f.kids.size = g.kids.size) else false) else false) else false
theorem fitF_iff {f g : Fn} : fitF f g = true ↔ f.k = g.k ∧ f.x = g.x ∧ keysOf f = keysOf g ∧ f.kids.size = g.kids.size := by
  unfold fitF
  by_cases h1 : f.k = g.k
  · by_cases h2 : f.x = g.x
    · by_cases h3 : keysOf f = keysOf g
      · rw [if_pos h1, if_pos h2, if_pos h3]; simp [h1, h2, h3]
      · rw [if_pos h1, if_pos h2, if_neg h3]; simp [h3]
    · rw [if_pos h1, if_neg h2]; simp [h2]
  · rw [if_neg h1]; simp [h1]
def fitG (D E : Array Fn) (i j : Nat) : Bool := fitF D[i]! E[j]!
theorem fit_len {D E : Array Fn} (hD : badFrom D.size D.toList 0 = none) (hE : badFrom E.size E.toList 0 = none) : ∀ i j, i < D.size → j < E.size → fitG D E i j = true → (KN D i).length = (KN E j).length := fun i j hi hj h => by
  unfold KN
  rw [List.length_map, List.length_map, kidsOf_len (right_at hD hi), kidsOf_len (right_at hE hj)]
  exact (fitF_iff.1 h).2.2.2
/-- the pairs, up to the first that does not fit, with it; do all fit? -/
def pairsW (D E : Array Fn) (r s : Nat) : List Nat × Bool := upto (fun p => fitG D E (p / E.size) (p % E.size)) (pw D.size E.size (KN D) (KN E) r s)
def AlikeG (D E : Array Fn) (r s : Nat) : Prop := AlikeP D.size E.size (KN D) (KN E) (fitG D E) r s
def onetoB (M : Nat) (l : List Nat) : Bool := l.all fun p => l.all fun q => (p / M == q / M) == (p % M == q % M)
theorem onetoB_iff {M : Nat} {l : List Nat} : onetoB M l = true ↔ OneTo M l := by
  unfold onetoB OneTo
  simp only [List.all_eq_true]
  refine forall_congr' fun p => forall_congr' fun _ => forall_congr' fun q => forall_congr' fun _ => ?_
  rw [beq_iff_eq, Bool.eq_iff_iff, beq_iff_eq, beq_iff_eq]
def alikeB (D E : Array Fn) (r s : Nat) : Bool := (pairsW D E r s).2 && onetoB E.size (pairsW D E r s).1
theorem alikeB_iff {D E : Array Fn} {r s : Nat} : alikeB D E r s = true ↔ AlikeG D E r s := by
  unfold alikeB AlikeG AlikeP
  rw [Bool.and_eq_true, onetoB_iff]
  constructor
  · rintro ⟨h1, h2⟩
    unfold pairsW at h1 h2
    rw [upto_yes1 h1] at h2
    exact ⟨upto_yes.1 h1, h2⟩
  · rintro ⟨h1, h2⟩
    have e : pairsW D E r s = (pw D.size E.size (KN D) (KN E) r s, true) := upto_all h1
    rw [e]
    exact ⟨rfl, h2⟩
theorem cast_map {α β : Type} {xs : List α} {ys : List β} {g : α → Nat} {h : β → Nat} : (xs.map fun z => ((g z : Nat) : Int)) = (ys.map fun z => ((h z : Nat) : Int)) ↔ xs.map g = ys.map h := by
  constructor
  · intro e
    have := congrArg (List.map Int.toNat) e
    simpa [List.map_map, Function.comp_def] using this
  · intro e
    have := congrArg (List.map (fun n : Nat => (n : Int))) e
    simpa [List.map_map, Function.comp_def] using this
theorem sameNs_iff {a b : Array Fn} : sameNs a b = true ↔ a.size = b.size ∧ ∀ j, j < a.size → sameF a[j]! b[j]! = true := by
  unfold sameNs
  exact decide_eq_true_iff
theorem sameNs_refl (a : Array Fn) : sameNs a a = true := sameNs_iff.2 ⟨rfl, fun _ _ => sameF_iff.2 ⟨rfl, rfl, rfl, rfl⟩⟩
theorem sameNs_symm {a b : Array Fn} (h : sameNs a b = true) : sameNs b a = true := by
  obtain ⟨h1, h2⟩ := sameNs_iff.1 h
  refine sameNs_iff.2 ⟨h1.symm, fun j hj => ?_⟩
  obtain ⟨e1, e2, e3, e4⟩ := sameF_iff.1 (h2 j (by omega))
  exact sameF_iff.2 ⟨e1.symm, e2.symm, e3.symm, e4.symm⟩
theorem sameNs_trans {a b c : Array Fn} (h : sameNs a b = true) (h' : sameNs b c = true) : sameNs a c = true := by
  obtain ⟨h1, h2⟩ := sameNs_iff.1 h
  obtain ⟨k1, k2⟩ := sameNs_iff.1 h'
  refine sameNs_iff.2 ⟨h1.trans k1, fun j hj => ?_⟩
  obtain ⟨e1, e2, e3, e4⟩ := sameF_iff.1 (h2 j hj)
  obtain ⟨f1, f2, f3, f4⟩ := sameF_iff.1 (k2 j (by omega))
  exact sameF_iff.2 ⟨e1.trans f1, e2.trans f2, e3.trans f3, e4.trans f4⟩
theorem kn_idx {D : Array Fn} {l : List Nat} {i : Nat} : (KN D i).map (idx l) = (kidsOf D[i]!).map fun z => idx l z.toNat := by
  unfold KN
  rw [List.map_map]
  rfl
section
variable {D E T U : Array Fn} {r s : Nat} (hD : badFrom D.size D.toList 0 = none) (hE : badFrom E.size E.toList 0 = none) (hr : r < D.size) (hs : s < E.size)
include hD hE hr hs
theorem same_tidy (hT : TidyG D T (wk D r)) (hU : TidyG E U (wk E s)) : sameNs T U = true ↔ SameT (KN D) (KN E) (fitG D E) (wk D r) (wk E s) := by
  rw [sameNs_iff]
  have hml := wk_lt hD hr
  have hmk := wk_lt hE hs
  unfold SameT
  rw [hT.size, hU.size]
  refine and_congr_right fun hlen => ?_
  refine forall_congr' fun t => forall_congr' fun ht => ?_
  have ht2 : t < (wk E s).length := by omega
  have hF := hT.node t ht
  have hG := hU.node t ht2
  have hRF := right_at hD (hml _ (by rw [getElem!_pos _ t ht]; exact List.getElem_mem ht : (wk D r)[t]! ∈ wk D r))
  have hRG := right_at hE (hmk _ (by rw [getElem!_pos _ t ht2]; exact List.getElem_mem ht2 : (wk E s)[t]! ∈ wk E s))
  rw [kn_idx, kn_idx, ← cast_map, ← hF.kids, ← hG.kids, sameF_iff, hF.k, hG.k, hF.x, hG.x]
  unfold fitG
  rw [fitF_iff, ← hF.keys, ← hG.keys, Array.toList_inj, Array.toList_inj]
  constructor
  · rintro ⟨h1, h2, h3, h4⟩
    exact ⟨⟨h1, h2, h3, by rw [← (hF.sizes hRF).1, ← (hG.sizes hRG).1, h4]⟩, h4⟩
  · rintro ⟨⟨h1, h2, h3, _⟩, h4⟩
    exact ⟨h1, h2, h3, h4⟩
/-- two right graphs are alike just if their tidy ones are the same -/
theorem alike_tidy (hT : TidyG D T (wk D r)) (hU : TidyG E U (wk E s)) : AlikeG D E r s ↔ sameNs T U = true := by
  rw [same_tidy hD hE hr hs hT hU]
  exact alike_iff (KN_lt hD) (KN_lt hE) hr hs (fit_len hD hE)
theorem alikeB_tidy (hT : TidyG D T (wk D r)) (hU : TidyG E U (wk E s)) : alikeB D E r s = sameG 0 0 T U := by
  rw [Bool.eq_iff_iff, alikeB_iff, alike_tidy hD hE hr hs hT hU]
  unfold sameG
  rw [if_pos rfl]
theorem alike_symmG (h : AlikeG D E r s) : AlikeG E D s r :=
  (alike_tidy hE hD hs hr (tidyT_is E _) (tidyT_is D _)).2 (sameNs_symm ((alike_tidy hD hE hr hs (tidyT_is D _) (tidyT_is E _)).1 h))
theorem alikeB_symm : alikeB D E r s = alikeB E D s r := by
  rw [Bool.eq_iff_iff, alikeB_iff, alikeB_iff]
  exact ⟨alike_symmG hD hE hr hs, alike_symmG hE hD hs hr⟩
omit hE hs in
theorem alike_reflG : AlikeG D D r r := (alike_tidy hD hD hr hr (tidyT_is D _) (tidyT_is D _)).2 (sameNs_refl _)
theorem alike_transG {K : Array Fn} {k : Nat} (hK : badFrom K.size K.toList 0 = none) (hk : k < K.size) (h : AlikeG D E r s) (h' : AlikeG E K s k) : AlikeG D K r k :=
  (alike_tidy hD hK hr hk (tidyT_is D _) (tidyT_is K _)).2 (sameNs_trans ((alike_tidy hD hE hr hs (tidyT_is D _) (tidyT_is E _)).1 h) ((alike_tidy hE hK hs hk (tidyT_is E _) (tidyT_is K _)).1 h'))
omit hE hs in
/-- a graph is like its tidy one -/
theorem alike_ownG (hT : TidyG D T (wk D r)) : AlikeG D T r 0 :=
  (alike_tidy hD (hT.bad hD hr) hr (hT.len hD hr).2 hT (tidyT_is T _)).2 (hT.again hD hr (tidyT_is T (wk T 0)))
theorem alike_countG (h : AlikeG D E r s) : (wk D r).length = (pw D.size E.size (KN D) (KN E) r s).length ∧ (wk E s).length = (pw D.size E.size (KN D) (KN E) r s).length :=
  alike_count (KN_lt hD) (KN_lt hE) hr hs (fit_len hD hE) h
theorem alike_atG (h : AlikeG D E r s) (l : List Int) : (at_ (KN D) r l = none ∧ at_ (KN E) s l = none) ∨
    ∃ a b, a < D.size ∧ b < E.size ∧ at_ (KN D) r l = some a ∧ at_ (KN E) s l = some b ∧ fitF D[a]! E[b]! = true ∧ AlikeG D E a b := by
  rcases alike_at (KN_lt hD) (KN_lt hE) hr hs (fit_len hD hE) h l with h1 | ⟨p, hp, h1, h2⟩
  · exact .inl h1
  · have hl := pw_lt (KN_lt hD) (KN_lt hE) hr hs p hp
    exact .inr ⟨_, _, fst_lt hl, snd_lt hl, h1, h2, h.1 p hp, alike_sub (KN_lt hD) (KN_lt hE) hr hs h hp⟩
theorem pairs_first : ∃ t, (pairsW D E r s).1 = (r * E.size + s) :: t := by
  obtain ⟨t, ht⟩ := walk_head (pk_lt (KN_lt hD) (KN_lt hE)) (pair_lt hr hs)
  unfold pairsW pw
  rw [ht]
  unfold upto
  split
  · exact ⟨_, rfl⟩
  · exact ⟨_, rfl⟩
theorem pairs_few : Few (D.size * E.size) (pairsW D E r s).1 := by
  have hW := (walk_went (pk_lt (KN_lt hD) (KN_lt hE)) (pair_lt hr hs)).few
  have hp : (pairsW D E r s).1 <+: pw D.size E.size (KN D) (KN E) r s := upto_pre
  exact ⟨hW.1.sublist hp.sublist, fun x hx => hW.2 x (hp.subset hx)⟩
end
theorem pairs_fit {D E : Array Fn} {r s t p : Nat} (h : (pairsW D E r s).1[t]? = some p) : fitF D[p / E.size]! E[p % E.size]! = true ↔ t + 1 < (pairsW D E r s).1.length ∨ (pairsW D E r s).2 = true := upto_good h
end Go.Proofs.YtepelpmkmhhokaaGreatDoor
