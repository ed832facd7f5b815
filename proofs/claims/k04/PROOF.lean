import PyProof.Rows.All
import Wide.All
import OpenK.AllK
import Wide.FinOn
import HandS.ForMost
import HandS.Wide
import HandS.WideBits
import HandS.IsInst
import HandS.StrMore
import HandS.Zip
import HandS.Flow
import PySem.Challenge.RW_owncuts_k04_whole_primitive_words
set_option Elab.async false
set_option maxRecDepth 100000
namespace K4M
/-! ### periods -/
def had (w : List Nat) (p : Nat) : Bool := (w.drop p).isPrefixOf w
def Per (w : List Nat) (p : Nat) : Prop := ∀ i, i + p < w.length → w[i]? = w[i + p]?
theorem prefix_get {u w : List Nat} : u.isPrefixOf w = true ↔ ∀ i, i < u.length → w[i]? = u[i]? := by
  rw [List.isPrefixOf_iff_prefix]
  constructor
  · rintro ⟨t, rfl⟩ i hi
    rw [List.getElem?_append_left hi]
  · intro h
    have hl : u.length ≤ w.length := by
      apply Nat.le_of_not_lt
      intro hlt
      have := h w.length hlt
      rw [List.getElem?_eq_none (Nat.le_refl _), List.getElem?_eq_getElem hlt] at this
      cases this
    have : w.take u.length = u := by
      apply List.ext_getElem?
      intro i
      by_cases hi : i < u.length
      · rw [List.getElem?_take_of_lt hi]
        exact h i hi
      · rw [List.getElem?_eq_none (by rw [List.length_take]; omega), List.getElem?_eq_none (by omega)]
    rw [← this]
    exact List.take_prefix _ _
theorem had_iff (w : List Nat) (p : Nat) : had w p = true ↔ Per w p := by
  unfold had
  rw [prefix_get]
  constructor
  · intro h i hi
    have := h i (by rw [List.length_drop]; omega)
    rw [List.getElem?_drop, Nat.add_comm p i] at this
    exact this
  · intro h i hi
    rw [List.length_drop] at hi
    rw [List.getElem?_drop, Nat.add_comm p i]
    exact h i (by omega)
/-- two periods, the greater less the lesser -/
theorem per_sub {w : List Nat} {p d : Nat} (hp : Per w p) (hd : Per w d) (hlt : p < d) (hn : p + d ≤ w.length) : Per w (d - p) := by
  intro i hi
  by_cases hip : p ≤ i
  · have h1 := hp (i - p) (by omega)
    have h2 := hd (i - p) (by omega)
    rw [show i - p + p = i by omega] at h1
    rw [show i - p + d = i + (d - p) by omega] at h2
    rw [← h1, h2]
  · have h1 := hd i (by omega)
    have h2 := hp (i + (d - p)) (by omega)
    rw [show i + (d - p) + p = i + d by omega] at h2
    rw [h1, h2]
theorem per_dvd {w : List Nat} {p : Nat} (h0 : 0 < p) (hp : Per w p) (hmin : ∀ q, 0 < q → q < p → ¬ Per w q) : ∀ (d : Nat), 0 < d → Per w d → p + d ≤ w.length → p ∣ d := by
  intro d
  induction d using Nat.strongRecOn with
  | _ d ih =>
    intro hd0 hd hn
    by_cases h1 : d < p
    · exact absurd hd (hmin d hd0 h1)
    by_cases h2 : d = p
    · subst h2
      exact Nat.dvd_refl _
    · have := ih (d - p) (by omega) (by omega) (per_sub hp hd (by omega) hn) (by omega)
      obtain ⟨k, hk⟩ := this
      exact ⟨k + 1, by rw [Nat.mul_add, Nat.mul_one]; omega⟩
/-! ### repeated words -/
def rep (u : List Nat) (k : Nat) : List Nat := (List.replicate k u).flatten
theorem rep_succ (u : List Nat) (k : Nat) : rep u (k + 1) = u ++ rep u k := by
  unfold rep
  rw [List.replicate_succ, List.flatten_cons]
theorem rep_len (u : List Nat) : ∀ k, (rep u k).length = k * u.length
  | 0 => by simp [rep]
  | k + 1 => by rw [rep_succ, List.length_append, rep_len u k, Nat.add_mul]; omega
theorem rep_per {u : List Nat} : ∀ k, Per (rep u k) u.length
  | 0 => fun i hi => by simp [rep] at hi
  | k + 1 => fun i hi => by
    rw [rep_succ] at hi ⊢
    rw [List.length_append] at hi
    by_cases h : i < u.length
    · rw [List.getElem?_append_left h, List.getElem?_append_right (by omega), show i + u.length - u.length = i by omega]
      cases k with
      | zero =>
        exfalso
        have : (rep u 0).length = 0 := by simp [rep]
        omega
      | succ k => rw [rep_succ, List.getElem?_append_left h]
    · rw [List.getElem?_append_right (by omega), List.getElem?_append_right (by omega)]
      have := rep_per (u := u) k (i - u.length) (by omega)
      rw [this, show i - u.length + u.length = i + u.length - u.length by omega]
theorem per_drop {w : List Nat} {s : Nat} (h : Per w s) (m : Nat) : Per (w.drop m) s := fun i hi => by
  rw [List.length_drop] at hi
  rw [List.getElem?_drop, List.getElem?_drop, show m + (i + s) = m + i + s by omega]
  exact h (m + i) (by omega)
theorem rep_of_per : ∀ (k : Nat) {w : List Nat} {s : Nat}, 0 < s → w.length = k * s → Per w s → rep (w.take s) k = w
  | 0, w, s, _, hl, _ => by
    have : w = [] := List.length_eq_zero_iff.mp (by omega)
    subst this
    simp [rep]
  | k + 1, w, s, h0, hl, hp => by
    rw [rep_succ]
    have hl' : w.length = k * s + s := by rw [hl, Nat.add_mul, Nat.one_mul]
    have hd : (w.drop s).length = k * s := by rw [List.length_drop]; omega
    have ih := rep_of_per k h0 hd (per_drop hp s)
    cases k with
    | zero =>
      have e : w.drop s = [] := List.length_eq_zero_iff.mp (by omega)
      rw [show rep (w.take s) 0 = [] by simp [rep], List.append_nil, List.take_of_length_le (by omega)]
    | succ k =>
      have e : (w.drop s).take s = w.take s := by
        apply List.ext_getElem?
        intro i
        by_cases hi : i < s
        · rw [List.getElem?_take_of_lt hi, List.getElem?_take_of_lt hi, List.getElem?_drop, Nat.add_comm s i]
          have : s ≤ (k + 1) * s := Nat.le_mul_of_pos_left s (by omega)
          exact (hp i (by omega)).symm
        · rw [List.getElem?_eq_none (by rw [List.length_take]; omega), List.getElem?_eq_none (by rw [List.length_take]; omega)]
      rw [e] at ih
      rw [ih, List.take_append_drop]
theorem rep_iff {w : List Nat} {s : Nat} (h0 : 0 < s) (hs : w.length % s = 0) (hle : s ≤ w.length) : rep (w.take s) (w.length / s) = w ↔ Per w s := by
  have hk : w.length = w.length / s * s := by
    have := Nat.div_add_mod w.length s
    rw [hs, Nat.add_zero, Nat.mul_comm] at this
    exact this.symm
  constructor
  · intro h
    have hl : (w.take s).length = s := by rw [List.length_take]; omega
    have := rep_per (u := w.take s) (w.length / s)
    rw [h, hl] at this
    exact this
  · exact rep_of_per _ h0 hk
/-! ### the least period, the root -/
def lpFrom (w : List Nat) (n i : Nat) : Nat → Nat
  | 0 => n
  | m + 1 => if had w i then i else lpFrom w n (i + 1) m
def lp (w : List Nat) : Nat := lpFrom w w.length 1 (w.length - 1)
theorem lpFrom_spec (w : List Nat) (n : Nat) : ∀ (m i : Nat), i + m = n → (∀ j, 0 < j → j < i → had w j = false) → (∀ j, 0 < j → j < lpFrom w n i m → had w j = false) ∧ i ≤ lpFrom w n i m ∧ lpFrom w n i m ≤ n ∧ (lpFrom w n i m < n → had w (lpFrom w n i m) = true)
  | 0, i, e, h => by
    unfold lpFrom
    have : i = n := by omega
    subst this
    exact ⟨h, Nat.le_refl _, Nat.le_refl _, fun z => absurd z (Nat.lt_irrefl _)⟩
  | m + 1, i, e, h => by
    unfold lpFrom
    by_cases hi : had w i = true
    · rw [if_pos hi]
      exact ⟨h, Nat.le_refl _, by omega, fun _ => hi⟩
    · rw [if_neg hi]
      have := lpFrom_spec w n m (i + 1) (by omega) fun j h0 hj => by
        by_cases e : j = i
        · subst e
          exact Bool.eq_false_iff.mpr hi
        · exact h j h0 (by omega)
      exact ⟨this.1, by omega, this.2.2⟩
theorem lp_spec (w : List Nat) (h : w ≠ []) : (∀ j, 0 < j → j < lp w → had w j = false) ∧ 1 ≤ lp w ∧ lp w ≤ w.length ∧ (lp w < w.length → had w (lp w) = true) := by
  have hl : 0 < w.length := List.length_pos_iff.mpr h
  exact lpFrom_spec w w.length (w.length - 1) 1 (by omega) fun j h0 hj => by omega
def rootP (w : List Nat) : List Nat × Nat := if w.length % lp w ≠ 0 then (w, 1) else (w.take (lp w), w.length / lp w)
def okSize (w : List Nat) (s : Nat) : Bool := w.length % s == 0 && rep (w.take s) (w.length / s) == w
def sizes (w : List Nat) : List Nat := (List.range' 1 w.length).filter (okSize w)
def rootL (w : List Nat) : List Nat × Nat := (w.take ((sizes w).headD 0), w.length / (sizes w).headD 0)
def isPrim (w : List Nat) : Bool := !(List.range' 1 (w.length - 1)).any (okSize w)
theorem headD_filter {f : Nat → Bool} {d : Nat} : ∀ (n a : Nat), a ≤ d → d < a + n → f d = true → (∀ j, a ≤ j → j < d → f j = false) → ((List.range' a n).filter f).headD 0 = d
  | 0, a, h1, h2, _, _ => by omega
  | n + 1, a, h1, h2, h3, h4 => by
    rw [List.range'_succ]
    by_cases e : a = d
    · subst e
      rw [List.filter_cons_of_pos h3]
      rfl
    · rw [List.filter_cons_of_neg (by rw [h4 a (Nat.le_refl _) (by omega)]; exact Bool.false_ne_true)]
      exact headD_filter n (a + 1) (by omega) (by omega) h3 fun j hj1 hj2 => h4 j (by omega) hj2
theorem okSize_iff {w : List Nat} {s : Nat} (h0 : 0 < s) (hle : s ≤ w.length) : okSize w s = true ↔ w.length % s = 0 ∧ Per w s := by
  unfold okSize
  rw [Bool.and_eq_true, beq_iff_eq, beq_iff_eq]
  constructor
  · rintro ⟨h1, h2⟩
    exact ⟨h1, (rep_iff h0 h1 hle).mp h2⟩
  · rintro ⟨h1, h2⟩
    exact ⟨h1, (rep_iff h0 h1 hle).mpr h2⟩
theorem per_all (w : List Nat) : Per w w.length := fun i hi => by omega
theorem sizes_head (w : List Nat) (h : w ≠ []) : (sizes w).headD 0 = if w.length % lp w ≠ 0 then w.length else lp w := by
  have hl : 0 < w.length := List.length_pos_iff.mpr h
  obtain ⟨a1, a2, a3, a4⟩ := lp_spec w h
  have hp : Per w (lp w) := by
    by_cases e : lp w < w.length
    · exact (had_iff _ _).mp (a4 e)
    · rw [show lp w = w.length by omega]
      exact per_all w
  have hmin : ∀ q, 0 < q → q < lp w → ¬ Per w q := fun q h0 hq hper => by
    have := a1 q h0 hq
    rw [(had_iff w q).mpr hper] at this
    cases this
  by_cases hm : w.length % lp w = 0
  · rw [if_neg (by omega)]
    refine headD_filter _ 1 a2 (by omega) ((okSize_iff a2 a3).mpr ⟨hm, hp⟩) fun j h1 h2 => ?_
    cases e : okSize w j with
    | false => rfl
    | true => exact absurd ((okSize_iff h1 (by omega)).mp e).2 (hmin j h1 h2)
  · rw [if_pos hm]
    refine headD_filter _ 1 hl (by omega) ((okSize_iff hl (Nat.le_refl _)).mpr ⟨Nat.mod_self _, per_all w⟩) fun j h1 h2 => ?_
    cases e : okSize w j with
    | false => rfl
    | true =>
      exfalso
      obtain ⟨e1, e2⟩ := (okSize_iff h1 (by omega)).mp e
      obtain ⟨k, hk⟩ := Nat.dvd_of_mod_eq_zero e1
      have hk2 : 2 ≤ k := by
        rcases k with _ | _ | k
        · omega
        · omega
        · omega
      have hj2 : j + j ≤ w.length := by
        have : j * 2 ≤ j * k := Nat.mul_le_mul_left j hk2
        omega
      have hpj : lp w ≤ j := by
        apply Nat.le_of_not_lt
        intro z
        exact hmin j h1 z e2
      have := per_dvd a2 hp hmin j h1 e2 (by omega)
      exact hm (Nat.mod_eq_zero_of_dvd (Nat.dvd_trans this ⟨k, hk⟩))
theorem root_eq (w : List Nat) (h : w ≠ []) : rootL w = rootP w := by
  have hl : 0 < w.length := List.length_pos_iff.mpr h
  unfold rootL rootP
  rw [sizes_head w h]
  by_cases hm : w.length % lp w ≠ 0
  · rw [if_pos hm, if_pos hm, List.take_length, Nat.div_self hl]
  · rw [if_neg hm, if_neg hm]
/-! ### how many primitive words -/
def divs (n i : Nat) : List Nat := (List.range' 1 i).filter (fun d => n % d == 0)
/-- the values at 1, 2, .. n -/
def allP (s : Int) : Nat → List Int
  | 0 => []
  | n + 1 => allP s n ++ [s ^ (n + 1) - ((divs (n + 1) n).map fun d => (allP s n).getD (d - 1) 0).sum]
def prims (s : Int) (n : Nat) : Int := (allP s n).getD (n - 1) 0
theorem allP_len (s : Int) : ∀ n, (allP s n).length = n
  | 0 => rfl
  | n + 1 => by
    show (allP s n ++ _).length = _
    rw [List.length_append, allP_len s n]
    rfl
theorem allP_get (s : Int) : ∀ (n d : Nat), 0 < d → d ≤ n → (allP s n).getD (d - 1) 0 = prims s d
  | 0, d, h1, h2 => by omega
  | n + 1, d, h1, h2 => by
    by_cases e : d = n + 1
    · subst e
      rfl
    · show (allP s n ++ _).getD (d - 1) 0 = _
      rw [List.getD_eq_getElem?_getD, List.getElem?_append_left (by rw [allP_len]; omega), ← List.getD_eq_getElem?_getD]
      exact allP_get s n d h1 (by omega)
theorem divs_mem {n i d : Nat} : d ∈ divs n i ↔ 0 < d ∧ d ≤ i ∧ n % d = 0 := by
  unfold divs
  rw [List.mem_filter, List.mem_range'_1, beq_iff_eq]
  constructor
  · rintro ⟨⟨h1, h2⟩, h3⟩
    exact ⟨h1, by omega, h3⟩
  · rintro ⟨h1, h2, h3⟩
    exact ⟨⟨h1, by omega⟩, h3⟩
theorem prims_eq (s : Int) (n : Nat) (h : 0 < n) : prims s n = s ^ n - ((divs n (n - 1)).map (prims s)).sum := by
  obtain ⟨m, rfl⟩ : ∃ m, n = m + 1 := ⟨n - 1, by omega⟩
  show (allP s m ++ [_]).getD m 0 = _
  rw [List.getD_eq_getElem?_getD, List.getElem?_append_right (by rw [allP_len]; omega), allP_len, Nat.sub_self]
  show s ^ (m + 1) - _ = s ^ (m + 1) - _
  congr 2
  apply List.map_congr_left
  intro d hd
  rw [divs_mem] at hd
  exact allP_get s m d hd.1 hd.2.1
theorem divs_succ_of {n i : Nat} (h : n % (i + 1) = 0) : divs n (i + 1) = divs n i ++ [i + 1] := by
  unfold divs
  rw [List.range'_1_concat, List.filter_append, Nat.add_comm 1 i, List.filter_cons_of_pos (by rw [h]; rfl)]
  rfl
theorem divs_succ_not {n i : Nat} (h : n % (i + 1) ≠ 0) : divs n (i + 1) = divs n i := by
  unfold divs
  rw [List.range'_1_concat, List.filter_append, Nat.add_comm 1 i, List.filter_cons_of_neg (by rw [beq_iff_eq]; exact h)]
  exact List.append_nil _
theorem divs_filter {n i : Nat} (h : n % (i + 1) = 0) : (divs n i).filter (fun d => (i + 1) % d == 0) = divs (i + 1) i := by
  unfold divs
  rw [List.filter_filter]
  apply List.filter_congr
  intro d hd
  rw [Bool.eq_iff_iff, Bool.and_eq_true, beq_iff_eq, beq_iff_eq]
  constructor
  · exact fun z => z.1
  · intro z
    exact ⟨z, Nat.mod_eq_zero_of_dvd (Nat.dvd_trans (Nat.dvd_of_mod_eq_zero z) (Nat.dvd_of_mod_eq_zero h))⟩
theorem prims_one (s : Int) : prims s 1 = s := by
  rw [prims_eq s 1 (by decide)]
  show s ^ 1 - (0 : Int) = s
  rw [Int.pow_succ, Int.pow_zero, Int.one_mul, Int.sub_zero]
theorem prims_prime (s : Int) {p : Nat} (h0 : 0 < p) (h : divs p (p - 1) = [1]) : prims s p = s ^ p - s := by
  rw [prims_eq s p h0, h]
  show s ^ p - (prims s 1 + 0) = _
  rw [prims_one, Int.add_zero]
theorem prims_square (s : Int) {p : Nat} (h0 : 0 < p) (h : divs p (p - 1) = [1]) (h2 : divs (p * p) (p * p - 1) = [1, p]) : prims s (p * p) = s ^ (p * p) - s ^ p := by
  rw [prims_eq s (p * p) (Nat.mul_pos h0 h0), h2]
  show s ^ (p * p) - (prims s 1 + (prims s p + 0)) = _
  rw [prims_one, prims_prime s h0 h, Int.add_zero]
  omega
/-! ### all words -/
def wordsOf (cs : List Nat) : Nat → List (List Nat)
  | 0 => [[]]
  | n + 1 => (wordsOf cs n).flatMap fun w => cs.map fun c => w ++ [c]
theorem wordsOf_mem {cs : List Nat} : ∀ {n : Nat} {w : List Nat}, w ∈ wordsOf cs n → w.length = n ∧ ∀ c ∈ w, c ∈ cs
  | 0, w, h => by
    have : w = [] := List.mem_singleton.mp h
    subst this
    exact ⟨rfl, fun _ h => nomatch h⟩
  | n + 1, w, h => by
    obtain ⟨u, hu, hw⟩ := List.mem_flatMap.mp h
    obtain ⟨c, hc, rfl⟩ := List.mem_map.mp hw
    obtain ⟨h1, h2⟩ := wordsOf_mem hu
    refine ⟨by rw [List.length_append, h1]; rfl, fun d hd => ?_⟩
    rcases List.mem_append.mp hd with hd | hd
    · exact h2 d hd
    · rw [List.mem_singleton.mp hd]
      exact hc
def countP (k n : Nat) : Nat := ((wordsOf ([97, 98, 99, 100].take k) n).filter isPrim).length
theorem count_small : (List.range' 1 3).all (fun k => (List.range' 1 6).all fun n => ((countP k n : Nat) : Int) == prims k n) = true := by decide +kernel
theorem count_four : (List.range' 1 4).all (fun n => ((countP 4 n : Nat) : Int) == prims 4 n) = true := by decide +kernel
theorem count_two : (List.range' 6 2).all (fun n => ((countP 2 n : Nat) : Int) == prims 2 n) = true := by decide +kernel
theorem prims_112 : prims 1 12 = 0 := by decide +kernel
theorem prims_24 : prims 2 4 = 12 := by decide +kernel
end K4M
set_option Elab.async false
set_option linter.all false
set_option maxRecDepth 100000
set_option maxHeartbeats 4000000
namespace K4
open PySem PySem.Spec PyProof.Rows L2 K4M
/-! ### texts as lists of signs -/
def S (w : List Nat) : Str := ⟨w.toArray⟩
theorem S_inj {u v : List Nat} (h : S u = S v) : u = v := by
  have := congrArg Str.cps h
  have := congrArg Array.toList this
  simpa [S] using this
theorem S_len (w : List Nat) : (S w).length = w.length := by
  show w.toArray.size = _
  rw [List.size_toArray]
theorem S_app (u v : List Nat) : S u ++ S v = S (u ++ v) := by
  show (⟨u.toArray ++ v.toArray⟩ : Str) = ⟨(u ++ v).toArray⟩
  rw [List.append_toArray]
theorem S_empty : (Str.empty) = S [] := rfl
theorem S_dec (u v : List Nat) : decide (S u = S v) = (u == v) := by
  by_cases h : u = v
  · subst h
    simp
  · rw [decide_eq_false fun z => h (S_inj z)]
    exact (beq_eq_false_iff_ne.mpr h).symm
theorem V_dec (u v : List Nat) : decide (V.str (S u) = V.str (S v)) = (u == v) := by
  by_cases h : u = v
  · subst h
    simp
  · rw [decide_eq_false fun z => h (S_inj (V.str.inj z))]
    exact (beq_eq_false_iff_ne.mpr h).symm
theorem cut_drop (w : List Nat) (p : Nat) : cutS (S w) (some (p : Int)) none = S (w.drop p) := by
  unfold cutS
  rw [HT.sIx_none, HT.sIx_nat, S_len]
  show (⟨((w.drop (min p w.length)).take (w.length - min p w.length)).toArray⟩ : Str) = ⟨(w.drop p).toArray⟩
  congr 2
  by_cases h : p ≤ w.length
  · rw [Nat.min_eq_left h, List.take_of_length_le (by rw [List.length_drop]; omega)]
  · rw [Nat.min_eq_right (by omega), Nat.sub_self, List.take_zero, List.drop_of_length_le (by omega)]
theorem cut_take (w : List Nat) (p : Nat) : cutS (S w) none (some (p : Int)) = S (w.take p) := by
  unfold cutS
  rw [HT.sIx_none, HT.sIx_nat, S_len]
  show (⟨((w.drop 0).take (min p w.length - 0)).toArray⟩ : Str) = ⟨(w.take p).toArray⟩
  rw [List.drop_zero, Nat.sub_zero]
  congr 2
  by_cases h : p ≤ w.length
  · rw [Nat.min_eq_left h]
  · rw [Nat.min_eq_right (by omega), List.take_length, List.take_of_length_le (by omega)]
theorem starts (w u : List Nat) : Txt.startswith (S w) (S u) = u.isPrefixOf w := by
  unfold Txt.startswith
  rw [PySem.StrLaws.subAt_eq, S_len, S_len, Nat.zero_add]
  show (decide (u.length ≤ w.length) && (((w.drop 0).take (S u).length) == u)) = _
  rw [List.drop_zero, S_len, Bool.eq_iff_iff, Bool.and_eq_true, decide_eq_true_eq, beq_iff_eq, List.isPrefixOf_iff_prefix]
  constructor
  · rintro ⟨_, h⟩
    rw [← h]
    exact List.take_prefix _ _
  · rintro ⟨t, rfl⟩
    exact ⟨by rw [List.length_append]; omega, by rw [List.take_left]⟩
theorem strip_all {w : List Nat} {y : Str} (h : ∀ c ∈ w, y.cps.contains c = true) : Txt.stripChars (S w) y = S [] := by
  have lo : (List.takeWhile y.cps.contains w) = w := by
    induction w with
    | nil => rfl
    | cons a r ih =>
      rw [List.takeWhile_cons, if_pos (h a (List.mem_cons_self ..)), ih fun c hc => h c (List.mem_cons_of_mem _ hc)]
  have e1 : stripLo y.cps.contains true (S w) = w.length := by
    show (List.takeWhile y.cps.contains w).length = _
    rw [lo]
  have e2 : stripHi y.cps.contains true (S w) w.length = w.length := by
    show (S w).length - ((w.drop w.length).reverse.takeWhile y.cps.contains).length = _
    rw [List.drop_length, S_len]
    rfl
  unfold Txt.stripChars Txt.stripBy
  by_cases h0 : w = []
  · subst h0
    split <;> rfl
  · have hl : 0 < w.length := List.length_pos_iff.mpr h0
    rw [if_neg]
    · unfold stripped
      rw [e1, e2]
      show (⟨w.toArray.extract w.length w.length⟩ : Str) = ⟨[].toArray⟩
      congr 1
      apply Array.toList_inj.mp
      simp
    · unfold stripSame
      rw [e1, Bool.and_eq_true, beq_iff_eq]
      omega
theorem foldl_rep (u : List Nat) : ∀ (k : Nat) (acc : List Nat), (List.replicate k u.toArray).foldl (· ++ ·) acc.toArray = (acc ++ rep u k).toArray
  | 0, acc => by simp [rep]
  | k + 1, acc => by
    rw [List.replicate_succ, List.foldl_cons, List.append_toArray, foldl_rep u k, rep_succ, List.append_assoc]
theorem S_mul (u : List Nat) (k : Nat) : Txt.mul (S u) (k : Int) = S (rep u k) := by
  unfold Txt.mul
  by_cases h1 : (k : Int) < 1
  · rw [if_pos h1]
    have : k = 0 := by omega
    subst this
    rfl
  · rw [if_neg h1]
    by_cases h2 : ((k : Int) == 1 || (S u).length == 0) = true
    · rw [if_pos h2]
      rw [Bool.or_eq_true, beq_iff_eq, beq_iff_eq, S_len] at h2
      rcases h2 with h2 | h2
      · have : k = 1 := by omega
        subst this
        congr 1
        simp [rep]
      · have : u = [] := List.length_eq_zero_iff.mp h2
        subst this
        congr 1
        simp [rep]
    · rw [if_neg h2, Int.toNat_natCast]
      have := foldl_rep u k []
      rw [List.nil_append] at this
      show (⟨(List.replicate k u.toArray).foldl (· ++ ·) (#[] : Array Nat)⟩ : Str) = _
      exact congrArg Str.mk this
/-! ### rules of my own -/
section
variable {X : Cx}
def CPowW (i j : Int) : Prop := 0 ≤ j ∧ (Builtin.Int.intBits i : Int) * j ≤ 2 ^ 27
theorem op_powW : OpR X (binaryOp .Pow) (rI CPowW fun i j => .int (i ^ j.toNat)) := opI fun _ _ _ _ _ _ _ hc q => pow_int hc.1 hc.2 q
/-- text * number -/
theorem op_mulS : OpR X (binaryOp .Mult) (fun x y H Q => ∃ (u : List Nat) (k : Nat), x = .str (S u) ∧ y = .int (k : Int) ∧ u.length * k ≤ 100000 ∧ k ≤ 100000 ∧ u.length ≤ 100000 ∧ Q (.str (S (rep u k))) H) := by
  intro pins s σ H x y v u Q I rx ry h
  obtain ⟨w, k, rfl, rfl, hz, hk, hw, q⟩ := h
  obtain ⟨t, rfl⟩ := rx
  obtain ⟨t', rfl⟩ := ry
  refine SB.mul ⟨?_, fun h1 h2 => ?_, fun h1 h2 => ?_⟩ fun t1 k1 => ?_
  · rw [Bool.or_eq_false_iff]
    exact ⟨decide_eq_false (by omega), decide_eq_false (by omega)⟩
  · rw [S_len]
    have h3 : (100000 : Int) ≤ (2 ^ 63 - 1) / (k : Int) := by
      apply Int.le_ediv_of_mul_le (by omega)
      omega
    omega
  · rw [S_len, Int.toNat_natCast]
    have e : sizeLine = 16777216 := by decide
    unfold Builtin.Str.tooLong
    exact decide_eq_false (by omega)
  · rw [S_mul]
    exact ⟨.str (S (rep w k)), H, I.tok _, ⟨_, rfl⟩, q⟩
def signsV (w : List Nat) : List V := w.map fun c => V.str (S [c])
theorem vals_signs {its : List Value} {w : List Nat} (hl : its.length = w.length) (h : ∀ (j : Nat) (v : Value), its[j]? = some v → ∃ c u, w[j]? = some c ∧ v = .str ⟨#[c]⟩ u) : Vals (signsV w) its := by
  induction w generalizing its with
  | nil =>
    have : its = [] := List.length_eq_zero_iff.mp hl
    subst this
    exact .nil
  | cons c r ih =>
    cases its with
    | nil => cases hl
    | cons v rest =>
      obtain ⟨c', u, e1, e2⟩ := h 0 v rfl
      cases e1
      refine .cons ⟨u, e2⟩ (ih (Nat.succ.inj hl) fun j v hv => h (j + 1) v hv)
/-- list(text) -/
theorem call_listS (hc : X.calm = true) : CallR X (.type "list") (fun xs H Q => ∃ w : List Nat, xs = [.str (S w)] ∧ w.length ≤ 1000 ∧ ∀ l, H l = none → Q (.ref l) (upd H l (.lst (signsV w)))) := by
  intro pins s σ H xs us Q I r h
  obtain ⟨w, rfl, hw, q⟩ := h
  obtain ⟨u, rfl, rx⟩ := vals1 r
  obtain ⟨t, rfl⟩ := rx
  have e : sizeLine = 16777216 := by decide
  have hn : (S w).cps.size ≤ sizeLine := by
    show w.toArray.size ≤ _
    rw [List.size_toArray]
    omega
  refine call_list_str (I.ok.hd hc) (S w) t (hn := hn) fun h' tk acc' c' kp e' hi => ?_
  have hv : Vals (signsV w) acc'.toList := by
    refine vals_signs ?_ fun j v hv => ?_
    · rw [Array.length_toList, hi.1]
      exact List.size_toArray ..
    · obtain ⟨c, u, h1, h2⟩ := hi.2 j v (by simpa using hv)
      exact ⟨c, u, by simpa [S] using h1, h2⟩
  refine ⟨.ref s.heap.objs.size, _, I.laid (t' := tk) kp (Nat.le_refl _) (show ObjOk X.prog X.w _ h' _ (.lst (signsV w)) from ⟨?_, acc'.toList, c', hv, e'⟩), rfl, q _ (I.hok.fresh (Nat.le_refl _))⟩
  unfold signsV
  rw [List.length_map]
  omega
end
theorem same_upd {H : Hp} {p : Addr} {o : HO} (h : H p = none) : Same H (upd H p o) := fun b x e => by
  rw [upd_ne (ne_of_none e h)]
  exact e
end K4
set_option maxRecDepth 100000
namespace K4
open PySem L2
def topS (i : Nat) : Stmt := PySem.Challenge.pw_owncuts_k04_whole_primitive_words.main.body.getD i (.Pass ⟨0, 0, 0, 0⟩)
abbrev st_is_whole_number : Stmt := topS 6
abbrev st_is_count : Stmt := topS 7
abbrev st_is_made_of : Stmt := topS 8
abbrev st_is_text : Stmt := topS 9
abbrev st_is_word : Stmt := topS 10
abbrev st_check_word : Stmt := topS 11
abbrev st_check_number : Stmt := topS 12
abbrev st__is_had : Stmt := topS 14
abbrev st_least_period : Stmt := topS 15
abbrev st_root : Stmt := topS 16
abbrev st_many_words : Stmt := topS 17
abbrev st_many_primitives : Stmt := topS 18
abbrev st__law_dice : Stmt := topS 20
abbrev st__law_mixed : Stmt := topS 21
abbrev st__law_draw : Stmt := topS 22
abbrev st__law_one_of : Stmt := topS 23
abbrev st__law_exact : Stmt := topS 24
abbrev st__law_dices : Stmt := topS 25
abbrev st__law_words_of : Stmt := topS 26
abbrev st__law_power : Stmt := topS 27
abbrev st__law_is_primitive : Stmt := topS 28
abbrev st__law_divisors : Stmt := topS 29
abbrev st__law_root : Stmt := topS 30
abbrev st__law_small_right : Stmt := topS 31
abbrev st__law_great_right : Stmt := topS 32
abbrev st_law : Stmt := topS 33
end K4
set_option Elab.async false
set_option linter.all false
set_option maxRecDepth 100000
set_option maxHeartbeats 4000000
namespace K4
open PySem PySem.Spec PyProof.Rows L2 K4M
/-- a def of the top that may be called: where it stands, and its promise -/
structure Cal (P : Program) (w : World) (K : PySem.W.Frag) (mg : Str → Option Value) (base : Heap) (k : Nat) (x : Str) (ps : List Str) (sp : Sp) where
  f : Addr
  fd : FuncData
  ok : FnOk P w K mg base CX0 k f fd ps sp
  g : mg x = some (.ref f)
  kp : PySem.W.keepIn K (.ref f) = true
  b : Binds K fd ps []
structure Df (K : PySem.W.Frag) (mg : Str → Option Value) (x : Str) (st : Stmt) (ps : List Str) where
  f : Addr
  fd : FuncData
  F : Fun K x x st f fd
  b : Binds K fd ps []
  g : mg x = some (.ref f)
theorem pcall {X : Cx} {k : Nat} {x : Str} {ps : List Str} {sp : Sp} {e : Expr} {es : List Expr} {t : TA} {p pos : Pos} (C : Cal X.prog X.w X.K X.mg X.base k x ps sp) (hr : Room k X.A) (hg : Gl X x) (ha : PA X (e :: es) t)
    (hdb : (x == ("__debug__" : Str)) = false := by decide) (he : starEach (e :: es) X.env = (false, eval e X.env) :: starEach es X.env := by rfl) (hpl : (backTo pos (starEach es X.env)).any (·.1) = false := by rfl) :
    PE X (.Call (.Name x p) (e :: es) [] pos) (tCall sp [] E0 t) := pe_call C.ok hr hg C.g C.kp C.b .nil pass0 ha hdb he hpl
/-- the built-ins that the text leaves as they are -/
structure Bi (mg : Str → Option Value) : Prop where
  len : mg "len" = none
  range : mg "range" = none
  sum : mg "sum" = none
  max : mg "max" = none
  min : mg "min" = none
  int : mg "int" = none
  isi : mg "isinstance" = none
  list : mg "list" = none
  any : mg "any" = none
  all : mg "all" = none
  zip : mg "zip" = none
  bool : mg "bool" = none
  str : mg "str" = none
  tuple : mg "tuple" = none
  dict : mg "dict" = none
section
variable {P : Program} {w : World} {K : PySem.W.Frag} {mg : Str → Option Value} {base : Heap}
def Df.cal {x : Str} {st : Stmt} {ps : List Str} {k : Nat} {sp : Sp} (D : Df K mg x st ps) (h : FnOk P w K mg base CX0 k D.f D.fd ps sp) : Cal P w K mg base k x ps sp := ⟨D.f, D.fd, h, D.g, D.F.kp, D.b⟩
/-! ### the draws -/
theorem sc_mixed : FnScope ["seed", "spin", "at", "mixed"] ["seed", "spin", "at"] (defScope st__law_mixed) := ⟨rfl, rfl, rfl, by decide +kernel, rfl, by decide +kernel, by decide +kernel⟩
def spMixed : Sp := fun vs H Q _ => ∃ a b c : Int, vs = [.int a, .int b, .int c] ∧ (-(2 ^ 60) < b ∧ b < 2 ^ 60) ∧ (-(2 ^ 60) < c ∧ c < 2 ^ 60) ∧ ∀ m : Int, 0 ≤ m → m < 2147483587 → Q (.int m) H
theorem ok_mixed (B : Bi mg) (D : Df K mg "_law_mixed" st__law_mixed ["seed", "spin", "at"]) : FnOk P w K mg base CX0 1 D.f D.fd ["seed", "spin", "at"] spMixed := by
  refine D.F.ok sc_mixed (fun vs H Q E h => ?_) (fun cdv A outer s H vs Q E hr h => ?_)
  · obtain ⟨a, b, c, rfl, _⟩ := h
    rfl
  · obtain ⟨a, b, c, rfl, hb, hc, q⟩ := h
    refine ⟨_, pss_cons (ps_set (i := 3) sc_mixed.nd rfl (.inl rfl) (pe_op op_add (pe_op op_mul (pv 0) pe_int) (pe_op op_mul (pe_op op_mul pe_int (pv 1)) (pv 1))))
      (pss_cons (ps_set (i := 3) sc_mixed.nd rfl (.inl rfl) (pe_op op_mod (pe_callTy call_int1 (by rfl) B.int (by decide +kernel) (pa_cons (pe_op op_add (pe_op op_add (pv 3) (pe_op op_mul pe_int (pv 2))) (pv 1)) pa_nil)) pe_int))
      (pss_cons (ps_set (i := 3) sc_mixed.nd rfl (.inl rfl) (pe_op op_mod (pe_callTy call_int1 (by rfl) B.int (by decide +kernel) (pa_cons (pe_op op_add (pe_op op_mul (pv 3) (pv 3)) pe_int) pa_nil)) pe_int))
      (pss_one (ps_ret (pe_op op_mod (pe_callTy call_int1 (by rfl) B.int (by decide +kernel) (pa_cons (pe_op op_mul (pv 3) pe_int) pa_nil)) pe_int))))), ?_⟩
    refine ⟨_, rfl, _, _, rfl, rfl, .inr ⟨by decide, by decide⟩, _, rfl, _, _, rfl, rfl, .inl ⟨by decide, by decide⟩, _, rfl, _, _, rfl, rfl, .inr ⟨by omega, by omega⟩, _, _, rfl, rfl, ?_⟩
    refine ⟨_, rfl, _, rfl, _, _, rfl, rfl, .inl ⟨by decide, by decide⟩, _, _, rfl, rfl, _, rfl, _, _, rfl, rfl, .inl ⟨_, rfl, _, _, rfl, rfl, (by show (0 : Int) < 2147483647; decide), ?_⟩⟩
    generalize (a * 69069 + 104729 * b * b + 7919 * c + b) = z
    have h1 : 0 ≤ z % 2147483647 := Int.emod_nonneg _ (by decide)
    have h2 : z % 2147483647 < 2147483647 := Int.emod_lt_of_pos _ (by decide)
    refine ⟨_, rfl, _, rfl, _, _, rfl, rfl, .inr ⟨by omega, by omega⟩, _, _, rfl, rfl, .inl ⟨_, rfl, _, _, rfl, rfl, (by show (0 : Int) < 2147483629; decide), ?_⟩⟩
    generalize (z % 2147483647 * (z % 2147483647) + 40503) = y
    refine ⟨_, rfl, _, _, rfl, rfl, .inr ⟨by decide, by decide⟩, .inl ⟨_, rfl, _, _, rfl, rfl, (by show (0 : Int) < 2147483587; decide), ?_⟩⟩
    exact q _ (Int.emod_nonneg _ (by decide)) (Int.emod_lt_of_pos _ (by decide))
/-- all but what stands at d is as it was -/
def Kept (H H' : Hp) (d : Addr) : Prop := ∀ b o, b ≠ d → H b = some o → H' b = some o
theorem Kept.trans {H H1 H2 : Hp} {d : Addr} (a : Kept H H1 d) (b : Kept H1 H2 d) : Kept H H2 d := fun c o hc e => b c o hc (a c o hc e)
theorem Kept.of {H H1 : Hp} {d : Addr} (a : Same H H1) : Kept H H1 d := fun c o _ e => a c o e
theorem Kept.upd {H : Hp} {d : Addr} {o : HO} : Kept H (upd H d o) d := fun c u hc e => by
  rw [upd_ne hc]
  exact e
/-- the dice at d; at most n were drawn of its second source -/
def Dice (H : Hp) (d : Addr) (n : Nat) : Prop := ∃ a b c e : Int, H d = some (.lst [.int a, .int b, .int c, .int e]) ∧ (0 ≤ c ∧ c ≤ n) ∧ (-(2 ^ 60) < e ∧ e < 2 ^ 60)
theorem bits_small {m : Int} (h1 : 1 ≤ m) (h2 : m < 134217728) : (1 + (Builtin.Int.intBits m : Int) / 28) = 1 := by
  have : Builtin.Int.intBits m ≤ 27 := by
    unfold Builtin.Int.intBits
    split
    · omega
    · have : m.natAbs.log2 < 27 := PySem.Flt.log2_lt_of (by decide) (by omega)
      omega
  omega
theorem sc_draw : FnScope ["dice", "many", "drawn", "found", "piece"] ["dice", "many"] (defScope st__law_draw) := ⟨rfl, rfl, rfl, by decide +kernel, rfl, by decide +kernel, by decide +kernel⟩
def spDraw : Sp := fun vs H Q _ => ∃ (d : Addr) (m : Int) (n : Nat), vs = [.ref d, .int m] ∧ Dice H d n ∧ n < 2 ^ 59 ∧ 1 ≤ m ∧ m < 134217728 ∧ ∀ (r : Int) (H' : Hp), 0 ≤ r → r < m → Dice H' d (n + 1) → Kept H H' d → Q (.int r) H'
theorem ok_draw (B : Bi mg) (D : Df K mg "_law_draw" st__law_draw ["dice", "many"]) (CM : Cal P w K mg base 1 "_law_mixed" ["seed", "spin", "at"] spMixed) : FnOk P w K mg base CX0 2 D.f D.fd ["dice", "many"] spDraw := by
  refine D.F.ok sc_draw (fun vs H Q E h => ?_) (fun cdv A outer s H vs Q E hr h => ?_)
  · obtain ⟨d, m, n, rfl, _⟩ := h
    rfl
  · obtain ⟨d, m, n, rfl, ⟨a, b, c, e, hd, hc, he⟩, hn, hm1, hm2, q⟩ := h
    refine ⟨_, pss_cons (ps_if (pt_cmpR op_gt (pe_ix ix_list (pv 0) pe_int (fun _ _ => rfl)) pe_int (nomark _))
        (pss_cons (ps_set (i := 2) sc_draw.nd rfl (.inl rfl) (pe_op op_mod (pe_callTy call_int1 (by rfl) B.int (by decide +kernel) (pa_cons (pe_ix ix_list (pv 0) pe_int (fun _ _ => rfl)) pa_nil)) (pv 1)))
        (pss_cons (ps_asg (pe_op op_fdiv (pe_ix ix_list (pv 0) pe_int (fun _ _ => rfl)) (pv 1)) (pg_sub (pv 0) pe_int set_list))
        (pss_one (ps_ret (pv 2))))) pss_nil)
      (pss_cons (ps_set (i := 3) sc_draw.nd rfl (.inl rfl) pe_int)
      (pss_cons (ps_for PassesOwn.never rfl (pi_range1 rfl B.range (pa_cons (pe_op op_add pe_int (pe_op op_fdiv (pe_bits (pv 1)) pe_int)) pa_nil)) (pg_name (i := 4) sc_draw.nd rfl (.inl rfl))
        (pss_cons (ps_asg (pe_op op_add (pe_ix ix_list (pv 0) pe_int (fun _ _ => rfl)) pe_int) (pg_sub (pv 0) pe_int set_list))
        (pss_one (ps_set (i := 3) sc_draw.nd rfl (.inl rfl) (pe_op op_add (pe_op op_mul (pv 3) pe_int) (pcall CM hr (by rfl) (pa_cons (pe_ix ix_list (pv 0) pe_int (fun _ _ => rfl)) (pa_cons (pe_ix ix_list (pv 0) pe_int (fun _ _ => rfl)) (pa_cons (pe_ix ix_list (pv 0) pe_int (fun _ _ => rfl)) pa_nil)))))))))
      (pss_one (ps_ret (pe_op op_mod (pe_callTy call_int1 (by rfl) B.int (by decide +kernel) (pa_cons (pv 3) pa_nil)) (pv 1)))))), ?_⟩
    have hS : SqL K H d [.int a, .int b, .int c, .int e] := .inl (.inl hd)
    refine ⟨_, rfl, d, _, 0, _, rfl, rfl, hS, atI_nat (j := 0) rfl, _, _, rfl, rfl, _, rfl, ite2 (fun _ => ?_) (fun _ => ?_)⟩
    · refine ⟨_, rfl, d, _, 0, _, rfl, rfl, hS, atI_nat (j := 0) rfl, .inl ⟨_, rfl, _, rfl, _, _, rfl, rfl, (by show 0 < m; omega), ?_⟩⟩
      refine ⟨_, rfl, d, _, 0, _, rfl, rfl, hS, atI_nat (j := 0) rfl, _, rfl, _, _, rfl, rfl, ⟨by omega, by omega⟩, _, rfl, d, _, 0, 0, rfl, rfl, hd, rfl, _, rfl, ?_⟩
      refine q _ _ (Int.emod_nonneg _ (by omega)) (Int.emod_lt_of_pos _ (by omega)) ⟨_, _, _, _, upd_same, ⟨hc.1, by omega⟩, he⟩ Kept.upd
    · refine ⟨_, rfl, _, rfl, _, _, rfl, rfl, ⟨by decide, by decide⟩, _, _, rfl, rfl, ?_⟩
      refine ⟨(1 : Int), congrArg (fun z => [V.int z]) (bits_small hm1 hm2), by decide, by decide, for_range (lo := 0) (n := 1) (fun i σ H2 => ∃ (f c' : Int) (y : Option V), σ = [some (.ref d), some (.int m), none, some (.int f), y] ∧ (0 ≤ c' ∧ c' ≤ n + i) ∧ H2 d = some (.lst [.int a, .int b, .int c', .int e]) ∧ Kept H H2 d)
        ⟨0, c, none, rfl, ⟨hc.1, by omega⟩, hd, fun _ _ _ z => z⟩ ?_ ?_⟩
      · rintro i σ H2 hi ⟨f, c', y, rfl, hc', hd2, hk⟩
        have hS2 : SqL K H2 d [.int a, .int b, .int c', .int e] := .inl (.inl hd2)
        refine ⟨_, rfl, d, _, 2, _, rfl, rfl, hS2, atI_nat (j := 2) rfl, _, _, rfl, rfl, _, rfl, d, _, 2, 2, rfl, rfl, hd2, rfl, ?_⟩
        have hS3 : SqL K (upd H2 d (.lst [.int a, .int b, .int (c' + 1), .int e])) d [.int a, .int b, .int (c' + 1), .int e] := .inl (.inl upd_same)
        refine ⟨_, rfl, _, _, rfl, rfl, .inr ⟨by decide, by decide⟩, _, rfl, d, _, 1, _, rfl, rfl, hS3, atI_nat (j := 1) rfl, _, rfl, d, _, 2, _, rfl, rfl, hS3, atI_nat (j := 2) rfl, _, rfl, d, _, 3, _, rfl, rfl, hS3, atI_nat (j := 3) rfl, ?_⟩
        refine ⟨_, _, _, rfl, ⟨by omega, by omega⟩, he, fun r h1 h2 => ⟨_, _, rfl, rfl, ?_⟩⟩
        exact ⟨_, _, _, rfl, ⟨by omega, by omega⟩, upd_same, hk.trans Kept.upd⟩
      · rintro σ H2 ⟨f, c', y, rfl, hc', hd2, hk⟩
        refine ⟨_, rfl, .inl ⟨_, rfl, _, rfl, _, _, rfl, rfl, (by show 0 < m; omega), ?_⟩⟩
        exact q _ _ (Int.emod_nonneg _ (by omega)) (Int.emod_lt_of_pos _ (by omega)) ⟨_, _, _, _, hd2, ⟨hc'.1, by omega⟩, he⟩ hk
end
end K4
set_option Elab.async false
set_option linter.all false
set_option maxRecDepth 100000
set_option maxHeartbeats 4000000
namespace K4
open PySem PySem.Spec PyProof.Rows L2 K4M
/-! ### values that are compared deeply -/
def Flat : V → Prop
  | .non => True
  | .bl _ => True
  | .int _ => True
  | .str _ => True
  | _ => False
def tn : V → String
  | .non => "NoneType"
  | .bl _ => "bool"
  | .int _ => "int"
  | _ => "str"
def isInt : V → Bool
  | .int _ => true
  | .bl _ => true
  | _ => false
def isBl : V → Bool
  | .bl _ => true
  | _ => false
def isStr : V → Bool
  | .str _ => true
  | _ => false
section
variable {K : PySem.W.Frag} {H : Hp} {x : V}
theorem Flat.ty (h : Flat x) : TyX K H x (.type (tn x)) := by
  cases x with
  | non => exact .base .non
  | bl b => exact .base (.bl b)
  | int i => exact .base (.int i)
  | str y => exact .base (.str y)
  | _ => exact h.elim
theorem Flat.no (h : Flat x) {c : String} (hc : c = "list" ∨ c = "tuple" ∨ c = "dict") : PySem.W.kitOne K (.type (tn x)) (.type c) = some false := by
  cases x with
  | non => rcases hc with rfl | rfl | rfl <;> exact kit_ty (a := "NoneType") (r := false) (by decide +kernel)
  | bl b => rcases hc with rfl | rfl | rfl <;> exact kit_ty (a := "bool") (r := false) (by decide +kernel)
  | int i => rcases hc with rfl | rfl | rfl <;> exact kit_ty (a := "int") (r := false) (by decide +kernel)
  | str y => rcases hc with rfl | rfl | rfl <;> exact kit_ty (a := "str") (r := false) (by decide +kernel)
  | _ => exact h.elim
theorem Flat.kInt (h : Flat x) : PySem.W.kitOne K (.type (tn x)) (.type "int") = some (isInt x) := by
  cases x with
  | non => exact kit_ty (a := "NoneType") (r := false) (by decide +kernel)
  | bl b => exact kit_ty (a := "bool") (r := true) (by decide +kernel)
  | int i => exact kit_ty (a := "int") (r := true) (by decide +kernel)
  | str y => exact kit_ty (a := "str") (r := false) (by decide +kernel)
  | _ => exact h.elim
theorem Flat.kStr (h : Flat x) : PySem.W.kitOne K (.type (tn x)) (.type "str") = some (isStr x) := by
  cases x with
  | non => exact kit_ty (a := "NoneType") (r := false) (by decide +kernel)
  | bl b => exact kit_ty (a := "bool") (r := false) (by decide +kernel)
  | int i => exact kit_ty (a := "int") (r := false) (by decide +kernel)
  | str y => exact kit_ty (a := "str") (r := true) (by decide +kernel)
  | _ => exact h.elim
theorem Flat.kBl (h : Flat x) : PySem.W.kitOne K (.type (tn x)) (.type "bool") = some (isBl x) := by
  cases x with
  | non => exact kit_ty (a := "NoneType") (r := false) (by decide +kernel)
  | bl b => exact kit_ty (a := "bool") (r := true) (by decide +kernel)
  | int i => exact kit_ty (a := "int") (r := false) (by decide +kernel)
  | str y => exact kit_ty (a := "str") (r := false) (by decide +kernel)
  | _ => exact h.elim
theorem Flat.scal (h : Flat x) : scal x x = true := by
  cases x with
  | non => rfl
  | bl b => rfl
  | int i => rfl
  | str y => rfl
  | _ => exact h.elim
theorem sql_ty {a : Addr} {xs : List V} (h : SqL K H a xs) : TyX K H (.ref a) (.type "list") := by
  rcases h with (h | ⟨o, h⟩) | ⟨o, its, n, h, hc, _⟩
  · exact .base (.lst h)
  · exact .base (.frz h)
  · exact .kList h hc
theorem sqt_ty {a : Addr} {xs : List V} (h : SqT K H a xs) : TyX K H (.ref a) (.type "tuple") := by
  rcases h with (h | ⟨o, h⟩) | ⟨o, its, n, h, hc, _⟩
  · exact .base (.tup h)
  · exact .fTuple h
  · exact .kTuple h hc
theorem Same.sqt {H' : Hp} {a : Addr} {xs : List V} (e : Same H H') (h : SqT K H a xs) : SqT K H' a xs := by
  rcases h with (h | ⟨o, h⟩) | h
  · exact .inl (.inl (e _ _ h))
  · exact .inl (.inr ⟨o, e _ _ h⟩)
  · exact .inr h
end
/-- x and y tell the same, n deep -/
def Eqv (K : PySem.W.Frag) (H : Hp) : Nat → V → V → Prop
  | 0, x, y => x = y ∧ Flat x
  | n + 1, x, y => (x = y ∧ Flat x) ∨ ∃ (a b : Addr) (xs ys : List V), x = .ref a ∧ y = .ref b ∧ xs.length ≤ 100000 ∧ xs.length = ys.length ∧ ((SqL K H a xs ∧ SqL K H b ys) ∨ (SqT K H a xs ∧ SqT K H b ys)) ∧
      ∀ (i : Nat) (u v : V), xs[i]? = some u → ys[i]? = some v → Eqv K H n u v
theorem Eqv.same {K : PySem.W.Frag} {H H' : Hp} (e : Same H H') : ∀ {n : Nat} {x y : V}, Eqv K H n x y → Eqv K H' n x y
  | 0, _, _, h => h
  | n + 1, x, y, h => by
    rcases h with h | ⟨a, b, xs, ys, rfl, rfl, h1, h2, h3, h4⟩
    · exact .inl h
    · refine .inr ⟨a, b, xs, ys, rfl, rfl, h1, h2, ?_, fun i u v hu hv => (h4 i u v hu hv).same e⟩
      rcases h3 with ⟨q1, q2⟩ | ⟨q1, q2⟩
      · exact .inl ⟨e.seq q1, e.seq q2⟩
      · exact .inr ⟨Same.sqt e q1, Same.sqt e q2⟩
theorem Eqv.flat {K : PySem.W.Frag} {H : Hp} {n : Nat} {x : V} (h : Flat x) : Eqv K H n x x := by
  cases n with
  | zero => exact ⟨rfl, h⟩
  | succ n => exact .inl ⟨rfl, h⟩
theorem Eqv.list {K : PySem.W.Frag} {H : Hp} {n : Nat} {a b : Addr} {xs : List V} (ha : SqL K H a xs) (hb : SqL K H b xs) (hl : xs.length ≤ 100000) (hf : ∀ x ∈ xs, Flat x) : Eqv K H (n + 1) (.ref a) (.ref b) :=
  .inr ⟨a, b, xs, xs, rfl, rfl, hl, rfl, .inl ⟨ha, hb⟩, fun i u v hu hv => by
    rw [hu] at hv
    cases hv
    exact Eqv.flat (hf u (List.mem_of_getElem? hu))⟩
theorem Eqv.tup {K : PySem.W.Frag} {H : Hp} {n : Nat} {a b : Addr} {xs : List V} (ha : SqT K H a xs) (hb : SqT K H b xs) (hl : xs.length ≤ 100000) (hf : ∀ x ∈ xs, Flat x) : Eqv K H (n + 1) (.ref a) (.ref b) :=
  .inr ⟨a, b, xs, xs, rfl, rfl, hl, rfl, .inr ⟨ha, hb⟩, fun i u v hu hv => by
    rw [hu] at hv
    cases hv
    exact Eqv.flat (hf u (List.mem_of_getElem? hu))⟩
theorem dec_self (x : V) : decide (x = x) = true := decide_eq_true rfl
/-! ### a comprehension over zip -/
theorem lc_zipL {K : PySem.W.Frag} {a b : Addr} {xs ys : List V} {g : TG} {tt : TT} {te : TE} {vs : List Nat} {σ : L2.St} {H1 : Hp} {D : Addr} {Qd : Hp → Prop} (hl : xs.length = ys.length) (Pv : Nat → Hp → Prop) (h0 : Pv 0 (upd H1 D (.lst []))) (hq : ∀ i H, Pv i H → SqL K H a xs ∧ SqL K H b ys)
    (hs : ∀ (i : Nat) (x y : V) (T : Addr) (H : Hp), xs[i]? = some x → ys[i]? = some y → Pv i H → H T = none → g (.ref T) (wipe σ vs) (upd H T (.tup [x, y])) fun σ2 H2 => wipe σ2 vs = wipe σ vs ∧ tt σ2 H2 fun c H3 =>
      if c = true then te σ2 H3 fun y H4 => ∃ acc, H4 D = some (.lst acc) ∧ acc.length < sizeLine ∧ Pv (i + 1) (upd H4 D (.lst (acc ++ [y]))) else Pv (i + 1) H3) (hd : ∀ H, Pv xs.length H → Qd H) :
    ∃ W : Nat → Nat → Hp → Prop, (∃ m, W 0 m (upd H1 D (.lst []))) ∧ ∀ i m H, W i m H →
      ((Itz K a b).stop i H ∧ Qd H) ∨ ((Itz K a b).go i H ∧ ∃ Nx : Hp → Prop, (∀ H', Nx H' → ∃ m', m' < m ∧ W (i + 1) m' H') ∧ ∀ x H', (Itz K a b).yld i H x H' → g x (wipe σ vs) H' fun σ2 H2 => wipe σ2 vs = wipe σ vs ∧ tt σ2 H2 fun c H3 =>
        if c = true then te σ2 H3 fun y H4 => ∃ acc, H4 D = some (.lst acc) ∧ acc.length < sizeLine ∧ Nx (upd H4 D (.lst (acc ++ [y]))) else Nx H3) := by
  refine ⟨fun i m H => m = xs.length - i ∧ i ≤ xs.length ∧ Pv i H, ⟨xs.length, rfl, Nat.zero_le _, h0⟩, ?_⟩
  rintro i m H ⟨rfl, hi, p⟩
  obtain ⟨qx, qy⟩ := hq i H p
  by_cases hlt : i < xs.length
  · have hx : xs[i]? = some xs[i] := List.getElem?_eq_getElem hlt
    have hlt2 : i < ys.length := by omega
    have hy : ys[i]? = some ys[i] := List.getElem?_eq_getElem hlt2
    refine .inr ⟨⟨xs, ys, _, _, qx, qy, hx, hy⟩, Pv (i + 1), fun H' p' => ⟨xs.length - (i + 1), by omega, rfl, hlt, p'⟩, fun v H' y => ?_⟩
    obtain ⟨T, x', y', rfl, hT, rfl, f1, f2⟩ := y
    exact hs i x' y' T H (f1 xs qx) (f2 ys qy) p hT
  · have e : i = xs.length := by omega
    subst e
    exact .inl ⟨⟨xs, ys, qx, qy, Or.inl (Nat.le_refl _)⟩, hd H p⟩
theorem lc_zipT {K : PySem.W.Frag} {a b : Addr} {xs ys : List V} {g : TG} {tt : TT} {te : TE} {vs : List Nat} {σ : L2.St} {H1 : Hp} {D : Addr} {Qd : Hp → Prop} (hl : xs.length = ys.length) (Pv : Nat → Hp → Prop) (h0 : Pv 0 (upd H1 D (.lst []))) (hq : ∀ i H, Pv i H → SqT K H a xs ∧ SqT K H b ys)
    (hs : ∀ (i : Nat) (x y : V) (T : Addr) (H : Hp), xs[i]? = some x → ys[i]? = some y → Pv i H → H T = none → g (.ref T) (wipe σ vs) (upd H T (.tup [x, y])) fun σ2 H2 => wipe σ2 vs = wipe σ vs ∧ tt σ2 H2 fun c H3 =>
      if c = true then te σ2 H3 fun y H4 => ∃ acc, H4 D = some (.lst acc) ∧ acc.length < sizeLine ∧ Pv (i + 1) (upd H4 D (.lst (acc ++ [y]))) else Pv (i + 1) H3) (hd : ∀ H, Pv xs.length H → Qd H) :
    ∃ W : Nat → Nat → Hp → Prop, (∃ m, W 0 m (upd H1 D (.lst []))) ∧ ∀ i m H, W i m H →
      ((RZ.ItzT K a b).stop i H ∧ Qd H) ∨ ((RZ.ItzT K a b).go i H ∧ ∃ Nx : Hp → Prop, (∀ H', Nx H' → ∃ m', m' < m ∧ W (i + 1) m' H') ∧ ∀ x H', (RZ.ItzT K a b).yld i H x H' → g x (wipe σ vs) H' fun σ2 H2 => wipe σ2 vs = wipe σ vs ∧ tt σ2 H2 fun c H3 =>
        if c = true then te σ2 H3 fun y H4 => ∃ acc, H4 D = some (.lst acc) ∧ acc.length < sizeLine ∧ Nx (upd H4 D (.lst (acc ++ [y]))) else Nx H3) := by
  refine ⟨fun i m H => m = xs.length - i ∧ i ≤ xs.length ∧ Pv i H, ⟨xs.length, rfl, Nat.zero_le _, h0⟩, ?_⟩
  rintro i m H ⟨rfl, hi, p⟩
  obtain ⟨qx, qy⟩ := hq i H p
  by_cases hlt : i < xs.length
  · have hx : xs[i]? = some xs[i] := List.getElem?_eq_getElem hlt
    have hlt2 : i < ys.length := by omega
    have hy : ys[i]? = some ys[i] := List.getElem?_eq_getElem hlt2
    refine .inr ⟨⟨xs, ys, _, _, qx, qy, hx, hy⟩, Pv (i + 1), fun H' p' => ⟨xs.length - (i + 1), by omega, rfl, hlt, p'⟩, fun v H' y => ?_⟩
    obtain ⟨T, x', y', rfl, hT, rfl, f1, f2⟩ := y
    exact hs i x' y' T H (f1 xs qx) (f2 ys qy) p hT
  · have e : i = xs.length := by omega
    subst e
    exact .inl ⟨⟨xs, ys, qx, qy, Or.inl (Nat.le_refl _)⟩, hd H p⟩
section
variable {P : Program} {w : World} {K : PySem.W.Frag} {mg : Str → Option Value} {base : Heap}
/-! ### exact -/
theorem sc_exact : FnScope ["mine", "theirs", "is_like", "a", "b", "key"] ["mine", "theirs"] (defScope st__law_exact) := ⟨rfl, rfl, rfl, by decide +kernel, rfl, by decide +kernel, by decide +kernel⟩
def spExact (K : PySem.W.Frag) (n : Nat) : Sp := fun vs H Q _ => ∃ x y : V, vs = [x, y] ∧ Eqv K H n x y ∧ ∀ H', Same H H' → Q (.bl true) H'
theorem lcls (a b : String) : Paired ClsV [.ty a, .ty b] [.type a, .type b] := .cons (.ty _) (.cons (.ty _) .nil)
theorem lcls3 (a b c : String) : Paired ClsV [.ty a, .ty b, .ty c] [.type a, .type b, .type c] := .cons (.ty _) (.cons (.ty _) (.cons (.ty _) .nil))
theorem exact_flat (B : Bi mg) (D : Df K mg "_law_exact" st__law_exact ["mine", "theirs"]) {k : Nat} {cdv : Value} {A : Around} {outer : List Env} {s : Shared} {H : Hp} {x : V} {Q : VK} {E : XK} (hf : Flat x) (q : ∀ H', Same H H' → Q (.bl true) H') :
    ∃ t, PSs (cxOf CX0 P w K mg base ["mine", "theirs", "is_like", "a", "b", "key"] "_law_exact" (defScope st__law_exact) D.f cdv A outer s H E).nox (defBody st__law_exact) t ∧ t { nx := fun _ H' => Q .non H', rt := Q } (start ["mine", "theirs", "is_like", "a", "b", "key"] [x, x]) H := by
  refine ⟨_, pss_cons (ps_if (pt_val (pe_callB call_isiT (by rfl) B.isi (by decide +kernel) (pa_cons (pv 0) (pa_cons (pe_tup (pa_cons (pe_bltn (v := .ty "list") (by rfl) B.list (by decide +kernel) rfl) (pa_cons (pe_bltn (v := .ty "tuple") (by rfl) B.tuple (by decide +kernel) rfl) pa_nil))) pa_nil)))) pss_never pss_nil)
    (pss_cons (ps_if (pt_val (pe_callB call_isi (by rfl) B.isi (by decide +kernel) (pa_cons (pv 0) (pa_cons (pe_bltn (v := .ty "dict") (by rfl) B.dict (by decide +kernel) rfl) pa_nil)))) pss_never pss_nil)
    (pss_cons (ps_if (PW.pt (pw_or (pt_val (pe_callB call_isiT (by rfl) B.isi (by decide +kernel) (pa_cons (pv 1) (pa_cons (pe_tup (pa_cons (pe_bltn (v := .ty "list") (by rfl) B.list (by decide +kernel) rfl) (pa_cons (pe_bltn (v := .ty "tuple") (by rfl) B.tuple (by decide +kernel) rfl) (pa_cons (pe_bltn (v := .ty "dict") (by rfl) B.dict (by decide +kernel) rfl) pa_nil)))) pa_nil))))
        (pw_or1 (pt_cmpR op_ne (pe_cmpR op_isN (pv 0) pe_non (nomark _)) (pe_cmpR op_isN (pv 1) pe_non (nomark _)) (nomark _))))) pss_never pss_nil)
    (pss_cons (ps_set (i := 2) sc_exact.nd rfl (.inl rfl) (pe_and (pe_cmpR op_eq (pe_callB call_isi (by rfl) B.isi (by decide +kernel) (pa_cons (pv 0) (pa_cons (pe_bltn (v := .ty "int") (by rfl) B.int (by decide +kernel) rfl) pa_nil))) (pe_callB call_isi (by rfl) B.isi (by decide +kernel) (pa_cons (pv 1) (pa_cons (pe_bltn (v := .ty "int") (by rfl) B.int (by decide +kernel) rfl) pa_nil))) (nomark _))
        (pe_one (pe_cmpR op_eq (pe_callB call_isi (by rfl) B.isi (by decide +kernel) (pa_cons (pv 0) (pa_cons (pe_bltn (v := .ty "str") (by rfl) B.str (by decide +kernel) rfl) pa_nil))) (pe_callB call_isi (by rfl) B.isi (by decide +kernel) (pa_cons (pv 1) (pa_cons (pe_bltn (v := .ty "str") (by rfl) B.str (by decide +kernel) rfl) pa_nil))) (nomark _)))))
    (pss_one (ps_ret (pe_and (pv 2) (pe_and (pe_cmpR op_eq (pe_callB call_isi (by rfl) B.isi (by decide +kernel) (pa_cons (pv 0) (pa_cons (pe_bltn (v := .ty "bool") (by rfl) B.bool (by decide +kernel) rfl) pa_nil))) (pe_callB call_isi (by rfl) B.isi (by decide +kernel) (pa_cons (pv 1) (pa_cons (pe_bltn (v := .ty "bool") (by rfl) B.bool (by decide +kernel) rfl) pa_nil))) (nomark _))
        (pe_one (pe_cmpR op_eq (pv 0) (pv 1) (nomark _)))))))))), ?_⟩
  refine ⟨x, rfl, (by decide), fun p hp => ?_⟩
  refine ⟨x, p, _, _, _, false, rfl, upd_same, lcls _ _, hf.ty, kitAny_cons (hf.no (.inl rfl)) (fun _ => kitAny_cons (hf.no (.inr (.inl rfl))) (fun _ => kitAny_nil) (fun z => nomatch z)) (fun z => nomatch z), _, rfl, iteF ?_⟩
  refine ⟨x, rfl, x, _, _, _, false, rfl, .ty _, hf.ty, hf.no (.inr (.inr rfl)), _, rfl, iteF ?_⟩
  refine ⟨x, rfl, (by decide), fun p2 hp2 => ?_⟩
  refine ⟨x, p2, _, _, _, false, rfl, upd_same, lcls3 _ _ _, hf.ty, kitAny_cons (hf.no (.inl rfl)) (fun _ => kitAny_cons (hf.no (.inr (.inl rfl))) (fun _ => kitAny_cons (hf.no (.inr (.inr rfl))) (fun _ => kitAny_nil) (fun z => nomatch z)) (fun z => nomatch z)) (fun z => nomatch z), _, rfl, iteF ?_⟩
  refine ⟨x, rfl, rfl, x, rfl, rfl, rfl, _, rfl, ?_⟩
  rw [dec_self]
  refine iteF ?_
  refine ⟨x, rfl, x, _, _, _, isInt x, rfl, .ty _, hf.ty, hf.kInt, x, rfl, x, _, _, _, isInt x, rfl, .ty _, hf.ty, hf.kInt, rfl, _, rfl, ?_⟩
  rw [dec_self]
  refine iteT ?_
  refine ⟨x, rfl, x, _, _, _, isStr x, rfl, .ty _, hf.ty, hf.kStr, x, rfl, x, _, _, _, isStr x, rfl, .ty _, hf.ty, hf.kStr, rfl, ?_⟩
  rw [dec_self]
  refine ⟨_, rfl, _, rfl, iteT ?_⟩
  refine ⟨x, rfl, x, _, _, _, isBl x, rfl, .ty _, hf.ty, hf.kBl, x, rfl, x, _, _, _, isBl x, rfl, .ty _, hf.ty, hf.kBl, rfl, _, rfl, ?_⟩
  rw [dec_self]
  refine iteT ?_
  refine ⟨x, rfl, x, rfl, hf.scal, ?_⟩
  rw [dec_self]
  exact q _ ((same_upd hp).trans (same_upd hp2))
end
end K4
set_option Elab.async false
set_option linter.all false
set_option maxRecDepth 100000
set_option maxHeartbeats 4000000
namespace K4
open PySem PySem.Spec PyProof.Rows L2 K4M
theorem kit_ll {K : PySem.W.Frag} {a : String} (h : kitB a a = some true) : PySem.W.kitOne K (.type a) (.type a) = some true := kit_ty h
theorem Kept.seq {K : PySem.W.Frag} {H H' : Hp} {d a : Addr} {xs : List V} (e : Kept H H' d) (hne : a ≠ d) (h : SqL K H a xs) : SqL K H' a xs := by
  rcases h with (h | ⟨o, h⟩) | h
  · exact .inl (.inl (e _ _ hne h))
  · exact .inl (.inr ⟨o, e _ _ hne h⟩)
  · exact .inr h
theorem Same.dice {H H' : Hp} {d : Addr} {n : Nat} (e : Same H H') (h : Dice H d n) : Dice H' d n := by
  obtain ⟨a, b, c, x, hd, r⟩ := h
  exact ⟨a, b, c, x, e _ _ hd, r⟩
theorem Dice.more {H : Hp} {d : Addr} {n m : Nat} (h : Dice H d n) (hm : n ≤ m) : Dice H d m := by
  obtain ⟨a, b, c, x, hd, r, z⟩ := h
  exact ⟨a, b, c, x, hd, ⟨r.1, by omega⟩, z⟩
theorem Dice.some {H : Hp} {d : Addr} {n : Nat} (h : Dice H d n) : ∃ o, H d = some o := by
  obtain ⟨a, b, c, x, hd, _⟩ := h
  exact ⟨_, hd⟩
theorem cutV_map {α : Type} (f : α → V) (ns : List α) (lo hi : Option Int) : ∃ ms : List α, cutV (ns.map f) lo hi = ms.map f := by
  unfold cutV
  rw [← List.map_drop, ← List.map_take]
  exact ⟨_, rfl⟩
section
variable {P : Program} {w : World} {K : PySem.W.Frag} {mg : Str → Option Value} {base : Heap}
theorem ok_exact (B : Bi mg) (D : Df K mg "_law_exact" st__law_exact ["mine", "theirs"]) : ∀ n : Nat, FnOk P w K mg base CX0 (n + 1) D.f D.fd ["mine", "theirs"] (spExact K n)
  | 0 => by
    refine D.F.ok sc_exact (fun vs H Q E h => ?_) (fun cdv A outer s H vs Q E hr h => ?_)
    · obtain ⟨x, y, rfl, _⟩ := h
      rfl
    · obtain ⟨x, y, rfl, ⟨rfl, hf⟩, q⟩ := h
      exact exact_flat B D (k := 0) hf q
  | n + 1 => by
    have C : Cal P w K mg base (n + 1) "_law_exact" ["mine", "theirs"] (spExact K n) := D.cal (ok_exact B D n)
    refine D.F.ok sc_exact (fun vs H Q E h => ?_) (fun cdv A outer s H vs Q E hr h => ?_)
    · obtain ⟨x, y, rfl, _⟩ := h
      rfl
    · obtain ⟨x, y, rfl, h, q⟩ := h
      rcases h with ⟨rfl, hf⟩ | ⟨a, b, xs, ys, rfl, rfl, h1, h2, h3, h4⟩
      · exact exact_flat B D (k := n + 1) hf q
      · refine ⟨_, pss_cons (ps_if (pt_val (pe_callB call_isiT (by rfl) B.isi (by decide +kernel) (pa_cons (pv 0) (pa_cons (pe_tup (pa_cons (pe_bltn (v := .ty "list") (by rfl) B.list (by decide +kernel) rfl) (pa_cons (pe_bltn (v := .ty "tuple") (by rfl) B.tuple (by decide +kernel) rfl) pa_nil))) pa_nil))))
            (pss_cons (ps_set (i := 2) sc_exact.nd rfl (.inl rfl) (pe_and (pe_cmpR op_eq (pe_callB call_isi (by rfl) B.isi (by decide +kernel) (pa_cons (pv 1) (pa_cons (pe_bltn (v := .ty "list") (by rfl) B.list (by decide +kernel) rfl) pa_nil))) (pe_callB call_isi (by rfl) B.isi (by decide +kernel) (pa_cons (pv 0) (pa_cons (pe_bltn (v := .ty "list") (by rfl) B.list (by decide +kernel) rfl) pa_nil))) (nomark _))
              (pe_one (pe_cmpR op_eq (pe_callB call_isi (by rfl) B.isi (by decide +kernel) (pa_cons (pv 1) (pa_cons (pe_bltn (v := .ty "tuple") (by rfl) B.tuple (by decide +kernel) rfl) pa_nil))) (pe_callB call_isi (by rfl) B.isi (by decide +kernel) (pa_cons (pv 0) (pa_cons (pe_bltn (v := .ty "tuple") (by rfl) B.tuple (by decide +kernel) rfl) pa_nil))) (nomark _)))))
            (pss_one (ps_ret (pe_and (pv 2) (pe_and (pe_cmpR op_eq (pe_callB call_len_seq (by rfl) B.len PySem.boot_len (pa_cons (pv 0) pa_nil)) (pe_callB call_len_seq (by rfl) B.len PySem.boot_len (pa_cons (pv 1) pa_nil)) (nomark _))
              (pe_one (pe_callB (cr_all rfl) (by rfl) B.all (by decide +kernel) (pa_cons (pe_lc (own := [("a", 3), ("b", 4)]) (g := gTup K 2 (gCons (gName 3) (gCons (gName 4) gNil))) (tt := tYes) (by rfl) sc_exact.nd
                (RZ.pi_zipA (by rfl) B.zip (pa_cons (pv 0) (pa_cons (pv 1) pa_nil))) (blkOk_by (N := ["mine", "theirs", "is_like", "a", "b", "key"]) (sc := defScope st__law_exact) (by decide +kernel))
                (fun _ _ _ _ _ => pg_tup rfl (pgs_cons (pg_name (i := 3) sc_exact.nd rfl (.inl rfl)) (pgs_cons (pg_name (i := 4) sc_exact.nd rfl (.inl rfl)) pgs_nil)))
                (fun _ _ _ _ _ => pts_nil)
                (fun _ _ _ _ _ => pcall C hr (by rfl) (pa_cons (pv 3) (pa_cons (pv 4) pa_nil)))) pa_nil)))))))) pss_nil)
          pss_never, ?_⟩
        have eb : ∃ bL bT : Bool, ∃ T : Value, ∀ H', Same H H' → TyX K H' (.ref a) T ∧ TyX K H' (.ref b) T ∧ PySem.W.kitOne K T (.type "list") = some bL ∧ PySem.W.kitOne K T (.type "tuple") = some bT ∧ PySem.W.kitAny K T [.type "list", .type "tuple"] = some true := by
          rcases h3 with ⟨q1, q2⟩ | ⟨q1, q2⟩
          · refine ⟨true, false, .type "list", fun H' sm => ⟨sql_ty (sm.seq q1), sql_ty (sm.seq q2), kit_ty (by decide +kernel), kit_ty (by decide +kernel), kitAny_cons (b := true) (kit_ty (by decide +kernel)) (fun z => nomatch z) (fun _ => rfl)⟩⟩
          · refine ⟨false, true, .type "tuple", fun H' sm => ⟨sqt_ty (Same.sqt sm q1), sqt_ty (Same.sqt sm q2), kit_ty (by decide +kernel), kit_ty (by decide +kernel), kitAny_cons (b := false) (kit_ty (by decide +kernel)) (fun _ => kitAny_cons (b := true) (kit_ty (by decide +kernel)) (fun z => nomatch z) (fun _ => rfl)) (fun z => nomatch z)⟩⟩
        obtain ⟨bL, bT, T, hT⟩ := eb
        refine ⟨.ref a, rfl, (by decide), fun p hp => ?_⟩
        have s1 : Same H (upd H p (.tup [.ty "list", .ty "tuple"])) := same_upd hp
        obtain ⟨ta, tb, kL, kT, kA⟩ := hT _ s1
        refine ⟨.ref a, p, _, T, _, true, rfl, upd_same, lcls _ _, ta, kA, _, rfl, iteT ?_⟩
        refine ⟨.ref b, rfl, .ref b, _, T, _, bL, rfl, .ty _, tb, kL, .ref a, rfl, .ref a, _, T, _, bL, rfl, .ty _, ta, kL, rfl, _, rfl, ?_⟩
        rw [dec_self]
        refine iteT ?_
        refine ⟨.ref b, rfl, .ref b, _, T, _, bT, rfl, .ty _, tb, kT, .ref a, rfl, .ref a, _, T, _, bT, rfl, .ty _, ta, kT, rfl, ?_⟩
        rw [dec_self]
        refine ⟨_, rfl, _, rfl, iteT ?_⟩
        have hq : ∀ H', Same H H' → (SqL K H' a xs ∨ SqT K H' a xs) ∧ (SqL K H' b ys ∨ SqT K H' b ys) := fun H' sm => by
          rcases h3 with ⟨q1, q2⟩ | ⟨q1, q2⟩
          · exact ⟨.inl (sm.seq q1), .inl (sm.seq q2)⟩
          · exact ⟨.inr (Same.sqt sm q1), .inr (Same.sqt sm q2)⟩
        refine ⟨.ref a, rfl, a, xs, rfl, (hq _ s1).1, .ref b, rfl, b, ys, rfl, (hq _ s1).2, rfl, _, rfl, ?_⟩
        rw [← h2, dec_self]
        refine iteT ?_
        have key : ∀ {H2 : Hp} {DD : Addr}, Same H H2 → H2 DD = some (.lst ((List.replicate xs.length true).map V.bl)) → rAll K [.ref DD] H2 fun v H3 => Q v H3 := fun {H2 DD} sm hD => by
          refine ⟨DD, _, rfl, .inl (.inl hD), ?_⟩
          rw [show (List.replicate xs.length true).all id = true by simp]
          exact q _ sm
        have turn : ∀ (DD : Addr) (i : Nat) (u v : V) (T : Addr) (H3 : Hp) , H DD = none → xs[i]? = some u → ys[i]? = some v → (Same H H3 ∧ H3 DD = some (.lst ((List.replicate i true).map V.bl))) → H3 T = none →
            spExact K n [u, v] (upd H3 T (.tup [u, v])) (fun y H4 => ∃ acc, H4 DD = some (.lst acc) ∧ acc.length < sizeLine ∧ (Same H (upd H4 DD (.lst (acc ++ [y]))) ∧ (upd H4 DD (.lst (acc ++ [y]))) DD = some (.lst ((List.replicate (i + 1) true).map V.bl)))) E0 := fun DD i u v T H3 hDn hu hv ⟨sm, hD⟩ hTn => by
          have sT : Same H3 (upd H3 T (.tup [u, v])) := same_upd hTn
          refine ⟨u, v, rfl, (h4 i u v hu hv).same (sm.trans sT), fun H4 s4 => ?_⟩
          have hi : i < xs.length := (List.getElem?_eq_some_iff.mp hu).1
          refine ⟨_, s4 _ _ (sT _ _ hD), ?_, fun c o e => ?_, ?_⟩
          · rw [List.length_map, List.length_replicate]
            have e : sizeLine = 16777216 := by decide
            omega
          · have hc : c ≠ DD := ne_of_none e hDn
            rw [upd_ne hc]
            exact s4 _ _ (sT _ _ (sm _ _ e))
          · rw [upd_same, List.replicate_succ', List.map_append]
            rfl
        refine ⟨.ref a, rfl, .ref b, rfl, a, b, xs, ys, rfl, ?_⟩
        rcases h3 with ⟨q1, q2⟩ | ⟨q1, q2⟩
        · refine .inl ⟨s1.seq q1, s1.seq q2, fun DD hD => ?_⟩
          have hDn : H DD = none := s1.free hD
          refine lc_zipL h2 (fun i H3 => Same H H3 ∧ H3 DD = some (.lst ((List.replicate i true).map V.bl))) ⟨s1.trans (same_upd hD), upd_same⟩ (fun i H3 z => ⟨z.1.seq q1, z.1.seq q2⟩) (fun i u v T H3 hu hv z hTn => ?_) (fun H3 z => key z.1 z.2)
          refine ⟨T, [u, v], rfl, .inl (.inl upd_same), rfl, u, [v], rfl, v, [], rfl, rfl, rfl, ?_⟩
          exact ⟨u, rfl, v, rfl, turn DD i u v T H3 hDn hu hv z hTn⟩
        · refine .inr ⟨Same.sqt s1 q1, Same.sqt s1 q2, fun DD hD => ?_⟩
          have hDn : H DD = none := s1.free hD
          refine lc_zipT h2 (fun i H3 => Same H H3 ∧ H3 DD = some (.lst ((List.replicate i true).map V.bl))) ⟨s1.trans (same_upd hD), upd_same⟩ (fun i H3 z => ⟨Same.sqt z.1 q1, Same.sqt z.1 q2⟩) (fun i u v T H3 hu hv z hTn => ?_) (fun H3 z => key z.1 z.2)
          refine ⟨T, [u, v], rfl, .inl (.inl upd_same), rfl, u, [v], rfl, v, [], rfl, rfl, rfl, ?_⟩
          exact ⟨u, rfl, v, rfl, turn DD i u v T H3 hDn hu hv z hTn⟩
/-! ### one of some -/
theorem sc_one_of : FnScope ["dice", "some"] ["dice", "some"] (defScope st__law_one_of) := ⟨rfl, rfl, rfl, by decide +kernel, rfl, by decide +kernel, by decide +kernel⟩
def spOne (K : PySem.W.Frag) : Sp := fun vs H Q _ => ∃ (d l : Addr) (n : Nat) (xs : List V), vs = [.ref d, .ref l] ∧ Dice H d n ∧ n < 2 ^ 59 ∧ l ≠ d ∧ SqL K H l xs ∧ 0 < xs.length ∧ xs.length < 100000 ∧ ∀ (i : Nat) (x : V) (H' : Hp), xs[i]? = some x → Dice H' d (n + 1) → Kept H H' d → Q x H'
theorem ok_one_of (B : Bi mg) (D : Df K mg "_law_one_of" st__law_one_of ["dice", "some"]) (CD : Cal P w K mg base 2 "_law_draw" ["dice", "many"] spDraw) : FnOk P w K mg base CX0 3 D.f D.fd ["dice", "some"] (spOne K) := by
  refine D.F.ok sc_one_of (fun vs H Q E h => ?_) (fun cdv A outer s H vs Q E hr h => ?_)
  · obtain ⟨d, l, n, xs, rfl, _⟩ := h
    rfl
  · obtain ⟨d, l, n, xs, rfl, hd, hn, hne, hl, h0, h1, q⟩ := h
    refine ⟨_, pss_one (ps_ret (pe_ix ix_list (pv 1) (pcall CD hr (by rfl) (pa_cons (pv 0) (pa_cons (pe_callB call_len_seq (by rfl) B.len PySem.boot_len (pa_cons (pv 1) pa_nil)) pa_nil))) (fun _ _ => rfl))), ?_⟩
    refine ⟨_, rfl, _, rfl, _, rfl, l, xs, rfl, .inl hl, d, _, n, rfl, hd, hn, by omega, by omega, fun r H' r0 r1 hD hk => ?_⟩
    have hi : r.toNat < xs.length := by omega
    have er : (r : Int) = ((r.toNat : Nat) : Int) := by omega
    refine ⟨l, xs, r, xs[r.toNat], rfl, rfl, hk.seq hne hl, ?_, ?_⟩
    · have z := atI_nat (List.getElem?_eq_getElem hi)
      rw [← er] at z
      exact z
    · exact q r.toNat _ _ (List.getElem?_eq_getElem hi) hD hk
/-! ### a dice -/
theorem sc_dice : FnScope ["script", "at", "seed"] ["script", "at"] (defScope st__law_dice) := ⟨rfl, rfl, rfl, by decide +kernel, rfl, by decide +kernel, by decide +kernel⟩
def spDice (K : PySem.W.Frag) : Sp := fun vs H Q _ => ∃ (a : Addr) (ns : List Int) (e : Int), vs = [.ref a, .int e] ∧ SqL K H a (ns.map V.int) ∧ 0 ≤ e ∧ e < 1000 ∧ ∀ (p : Addr) (H' : Hp), H p = none → Same H H' → Dice H' p 0 → Q (.ref p) H'
theorem ok_dice (B : Bi mg) (D : Df K mg "_law_dice" st__law_dice ["script", "at"]) : FnOk P w K mg base CX0 1 D.f D.fd ["script", "at"] (spDice K) := by
  refine D.F.ok sc_dice (fun vs H Q E h => ?_) (fun cdv A outer s H vs Q E hr h => ?_)
  · obtain ⟨a, ns, e, rfl, _⟩ := h
    rfl
  · obtain ⟨a, ns, e, rfl, hS, he0, he1, q⟩ := h
    refine ⟨_, pss_cons (ps_set (i := 2) sc_dice.nd rfl (.inl rfl) (pe_callB (cr_sum rfl) (by rfl) B.sum (by decide +kernel) (pa_cons (pe_slice sl_list (pv 0) (po_some (pv 1)) (po_some (pe_op op_add (pv 1) pe_int))) pa_nil)))
      (pss_one (ps_ret (pe_lst (pa_cons (pe_op op_mod (pe_callTy call_int1 (by rfl) B.int (by decide +kernel) (pa_cons (pe_callB (call_max2 rfl) (by rfl) B.max (by decide +kernel) (pa_cons (pe_op op_sub (pv 2) (pe_op op_pow pe_int pe_int)) (pa_cons pe_int pa_nil))) pa_nil)) (pe_op op_powW (pe_op op_pow pe_int pe_int) pe_int))
        (pa_cons (pe_op op_mod (pe_callTy call_int1 (by rfl) B.int (by decide +kernel) (pa_cons (pv 2) pa_nil)) pe_int) (pa_cons pe_int (pa_cons (pv 1) pa_nil))))))), ?_⟩
    refine ⟨_, rfl, _, rfl, _, rfl, _, rfl, _, _, rfl, rfl, _, rfl, a, _, rfl, hS, fun p hp => ?_⟩
    obtain ⟨ms, em⟩ := cutV_map V.int ns (some e) (some (e + 1))
    refine ⟨p, ms, rfl, .inl (.inl ?_), ?_⟩
    · rw [upd_same, ← em]
    refine ⟨_, rfl, _, _, rfl, rfl, ⟨by decide, by decide, by decide⟩, _, _, rfl, rfl, _, _, rfl, .inl ⟨_, rfl, _, _, rfl, rfl, ⟨by decide, by decide, by decide⟩, _, _, rfl, rfl, ⟨by decide, by decide +kernel⟩, _, _, rfl, rfl, (by show (0 : Int) < ((10 : Int) ^ (60 : Int).toNat) ^ (8 : Int).toNat; decide +kernel), ?_⟩⟩
    refine ⟨_, rfl, .inl ⟨_, rfl, _, _, rfl, rfl, (by show (0 : Int) < 2147483629; decide), _, rfl, (by show 4 ≤ sizeLine; decide), fun p2 hp2 => ?_⟩⟩
    have s1 : Same H (upd H p (.lst (cutV (ns.map V.int) (some e) (some (e + 1))))) := same_upd hp
    exact q p2 _ (s1.free hp2) (s1.trans (same_upd hp2)) ⟨_, _, _, _, upd_same, ⟨Int.le_refl _, Int.le_refl _⟩, by omega⟩
end
end K4
set_option Elab.async false
set_option linter.all false
set_option maxRecDepth 100000
set_option maxHeartbeats 4000000
namespace K4
open PySem PySem.Spec PyProof.Rows L2 K4M
section
variable {P : Program} {w : World} {K : PySem.W.Frag} {mg : Str → Option Value} {base : Heap}
theorem sc_dices : FnScope ["script", "few", "at"] ["script", "few"] (defScope st__law_dices) := ⟨rfl, rfl, rfl, by decide +kernel, rfl, by decide +kernel, by decide +kernel⟩
def spDices (K : PySem.W.Frag) : Sp := fun vs H Q _ => ∃ (a : Addr) (ns : List Int) (few : Int), vs = [.ref a, .int few] ∧ SqL K H a (ns.map V.int) ∧ few ≤ 10 ∧
  ∀ (L : Addr) (ds : List Addr) (H' : Hp), H L = none → Same H H' → H' L = some (.lst (ds.map V.ref)) → ds.length ≤ 10 → (∀ d ∈ ds, Dice H' d 0 ∧ H d = none) → ds.Nodup → Q (.ref L) H'
theorem ok_dices (B : Bi mg) (D : Df K mg "_law_dices" st__law_dices ["script", "few"]) (CD : Cal P w K mg base 1 "_law_dice" ["script", "at"] (spDice K)) : FnOk P w K mg base CX0 2 D.f D.fd ["script", "few"] (spDices K) := by
  refine D.F.ok sc_dices (fun vs H Q E h => ?_) (fun cdv A outer s H vs Q E hr h => ?_)
  · obtain ⟨a, ns, few, rfl, _⟩ := h
    rfl
  · obtain ⟨a, ns, few, rfl, hS, hf, q⟩ := h
    refine ⟨_, pss_one (ps_ret (pe_lc (own := [("at", 2)]) (g := gName 2) (tt := tYes) rfl sc_dices.nd
      (pi_range1 rfl B.range (pa_cons (pe_callB (call_max2 rfl) (by rfl) B.max (by decide +kernel) (pa_cons pe_int (pa_cons (pe_callB (call_min2 rfl) (by rfl) B.min (by decide +kernel) (pa_cons (pv 1) (pa_cons (pe_callB call_len_seq (by rfl) B.len PySem.boot_len (pa_cons (pv 0) pa_nil)) pa_nil))) pa_nil))) pa_nil))
      (blkOk_by (N := ["script", "few", "at"]) (sc := defScope st__law_dices) (by decide +kernel))
      (fun _ _ _ _ _ => pg_name (i := 2) sc_dices.nd rfl (.inl rfl))
      (fun _ _ _ _ _ => pts_nil)
      (fun _ _ _ _ _ => pcall CD hr (by rfl) (pa_cons (pv 0) (pa_cons (pv 2) pa_nil))))), ?_⟩
    refine ⟨_, rfl, .ref a, rfl, a, _, rfl, .inl hS, _, _, rfl, _, _, rfl, _, rfl, by split <;> (try split) <;> omega, by split <;> (try split) <;> omega, fun DD hD => ?_⟩
    have hc : ∀ c : Int, c ≤ 10 → c.toNat ≤ 10 := fun c h => by omega
    refine lc_range (lo := 0) (fun i H3 => ∃ ds : List Addr, ds.length = i ∧ Same H H3 ∧ H3 DD = some (.lst (ds.map V.ref)) ∧ (∀ d ∈ ds, Dice H3 d 0 ∧ H d = none) ∧ ds.Nodup)
      ⟨[], rfl, same_upd hD, upd_same, (fun _ h => by cases h), List.nodup_nil⟩ ?_ ?_
    · rintro i H3 hi ⟨ds, hl, sm, hDD, hds, nd⟩
      have hi10 : i < 10 := Nat.lt_of_lt_of_le hi (hc _ (by split <;> (try split) <;> omega))
      refine ⟨rfl, .ref a, rfl, .int (0 + i), rfl, a, ns, _, rfl, sm.seq hS, by omega, by omega, fun p H4 hp s4 hdi => ?_⟩
      have e16 : sizeLine = 16777216 := by decide
      have hpD : p ≠ DD := fun z => by
        rw [z, hDD] at hp
        cases hp
      refine ⟨ds.map V.ref, s4 _ _ hDD, by rw [List.length_map]; omega, ds ++ [p], by rw [List.length_append, hl]; rfl, fun c o e => ?_, ?_, fun d hd => ?_, ?_⟩
      · rw [upd_ne (ne_of_none e hD)]
        exact s4 _ _ (sm _ _ e)
      · rw [upd_same, List.map_append]
        rfl
      · rcases List.mem_append.mp hd with hd | hd
        · obtain ⟨x1, x2⟩ := hds d hd
          obtain ⟨a1, a2, a3, a4, e1, r⟩ := x1
          refine ⟨⟨a1, a2, a3, a4, ?_, r⟩, x2⟩
          rw [upd_ne]
          · exact s4 _ _ e1
          · intro z
            rw [z, hDD] at e1
            injection e1 with e1
            injection e1 with e1
            cases ds with
            | nil => cases hd
            | cons _ _ => simp at e1
        · rw [List.mem_singleton.mp hd]
          obtain ⟨a1, a2, a3, a4, e1, r⟩ := hdi
          refine ⟨⟨a1, a2, a3, a4, ?_, r⟩, sm.free hp⟩
          rw [upd_ne hpD]
          exact e1
      · rw [List.nodup_append]
        refine ⟨nd, List.nodup_cons.mpr ⟨List.not_mem_nil, List.nodup_nil⟩, fun x hx y hy => ?_⟩
        rw [List.mem_singleton.mp hy]
        intro z
        rw [z] at hx
        obtain ⟨o, ho⟩ := (hds p hx).1.some
        rw [hp] at ho
        cases ho
    · rintro H3 ⟨ds, hl, sm, hDD, hds, nd⟩
      refine q DD ds H3 hD sm hDD (by rw [hl]; exact hc _ (by split <;> (try split) <;> omega)) hds nd
/-! ### the checks -/
theorem sc_whole : FnScope ["value"] ["value"] (defScope st_is_whole_number) := ⟨rfl, rfl, rfl, by decide +kernel, rfl, by decide +kernel, by decide +kernel⟩
def spWhole : Sp := fun vs H Q _ => ∃ i : Int, vs = [.int i] ∧ Q (.bl true) H
theorem ok_whole (B : Bi mg) (D : Df K mg "is_whole_number" st_is_whole_number ["value"]) : FnOk P w K mg base CX0 1 D.f D.fd ["value"] spWhole := by
  refine D.F.ok sc_whole (fun vs H Q E h => ?_) (fun cdv A outer s H vs Q E hr h => ?_)
  · obtain ⟨i, rfl, _⟩ := h
    rfl
  · obtain ⟨i, rfl, q⟩ := h
    refine ⟨_, pss_one (ps_ret (pe_and (pe_callB call_isi (by rfl) B.isi (by decide +kernel) (pa_cons (pv 0) (pa_cons (pe_bltn (v := .ty "int") (by rfl) B.int (by decide +kernel) rfl) pa_nil)))
      (pe_one (pe_not (pe_callB call_isi (by rfl) B.isi (by decide +kernel) (pa_cons (pv 0) (pa_cons (pe_bltn (v := .ty "bool") (by rfl) B.bool (by decide +kernel) rfl) pa_nil))))))), ?_⟩
    have f : Flat (.int i) := True.intro
    refine ⟨_, rfl, .int i, _, _, _, true, rfl, .ty _, f.ty, f.kInt, _, rfl, iteT ?_⟩
    exact ⟨_, rfl, .int i, _, _, _, false, rfl, .ty _, f.ty, f.kBl, _, rfl, q⟩
theorem sc_count : FnScope ["value"] ["value"] (defScope st_is_count) := ⟨rfl, rfl, rfl, by decide +kernel, rfl, by decide +kernel, by decide +kernel⟩
def spCount : Sp := fun vs H Q _ => ∃ i : Int, vs = [.int i] ∧ 0 ≤ i ∧ Q (.bl true) H
theorem ok_count (B : Bi mg) (D : Df K mg "is_count" st_is_count ["value"]) (C : Cal P w K mg base 1 "is_whole_number" ["value"] spWhole) : FnOk P w K mg base CX0 2 D.f D.fd ["value"] spCount := by
  refine D.F.ok sc_count (fun vs H Q E h => ?_) (fun cdv A outer s H vs Q E hr h => ?_)
  · obtain ⟨i, rfl, _⟩ := h
    rfl
  · obtain ⟨i, rfl, h0, q⟩ := h
    refine ⟨_, pss_one (ps_ret (pe_and (pcall C hr (by rfl) (pa_cons (pv 0) pa_nil)) (pe_one (pe_cmpR op_ge (pv 0) pe_int (nomark _))))), ?_⟩
    refine ⟨_, rfl, i, rfl, _, rfl, iteT ?_⟩
    refine ⟨_, rfl, _, _, rfl, rfl, ?_⟩
    have e : decide ((0 : Int) ≤ i) = true := decide_eq_true h0
    exact (congrArg (fun b => Q (.bl b) H) e).mpr q
theorem sc_made : FnScope ["value", "signs"] ["value", "signs"] (defScope st_is_made_of) := ⟨rfl, rfl, rfl, by decide +kernel, rfl, by decide +kernel, by decide +kernel⟩
def spMade : Sp := fun vs H Q _ => ∃ (u : List Nat) (y : Str), vs = [.str (S u), .str y] ∧ u.length ≤ 100000 ∧ (∀ c ∈ u, y.cps.contains c = true) ∧ Q (.bl true) H
theorem ok_made (B : Bi mg) (D : Df K mg "is_made_of" st_is_made_of ["value", "signs"]) : FnOk P w K mg base CX0 1 D.f D.fd ["value", "signs"] spMade := by
  refine D.F.ok sc_made (fun vs H Q E h => ?_) (fun cdv A outer s H vs Q E hr h => ?_)
  · obtain ⟨u, y, rfl, _⟩ := h
    rfl
  · obtain ⟨u, y, rfl, hl, hc, q⟩ := h
    refine ⟨_, pss_one (ps_ret (pe_and (pe_callB call_isi (by rfl) B.isi (by decide +kernel) (pa_cons (pv 0) (pa_cons (pe_bltn (v := .ty "str") (by rfl) B.str (by decide +kernel) rfl) pa_nil)))
      (pe_one (pe_cmpR op_eq (pe_bm PySem.F.plainAttrs_str PySem.F.slot_str_strip PySem.F.type_str_strip mt_stripChars (pv 0) (pa_cons (pv 1) pa_nil)) pe_str (nomark _))))), ?_⟩
    have f : Flat (.str (S u)) := True.intro
    have e16 : sizeLine = 16777216 := by decide
    refine ⟨_, rfl, .str (S u), _, _, _, true, rfl, .ty _, f.ty, f.kStr, _, rfl, iteT ?_⟩
    refine ⟨_, rfl, rfl, _, rfl, S u, y, rfl, rfl, by rw [S_len]; omega, ?_⟩
    rw [strip_all hc]
    refine ⟨rfl, ?_⟩
    exact (congrArg (fun b => Q (.bl b) H) (decide_eq_true rfl)).mpr q
end
end K4
set_option Elab.async false
set_option linter.all false
set_option maxRecDepth 100000
set_option maxHeartbeats 4000000
namespace K4
open PySem PySem.Spec PyProof.Rows L2 K4M
abbrev LET : Str := Str.ofString "abcdefghijklmnopqrstuvwxyz"
def Low (u : List Nat) : Prop := ∀ c ∈ u, 97 ≤ c ∧ c ≤ 122
theorem low_has {c : Nat} (h1 : 97 ≤ c) (h2 : c ≤ 122) : LET.cps.contains c = true := by
  have all : ∀ k : Fin 26, LET.cps.contains (97 + k.val) = true := by decide +kernel
  have := all ⟨c - 97, by omega⟩
  rw [show 97 + (⟨c - 97, by omega⟩ : Fin 26).val = c by show 97 + (c - 97) = c; omega] at this
  exact this
theorem lp_unique {u : List Nat} (h : u ≠ []) {d : Nat} (h1 : 1 ≤ d) (h2 : d ≤ u.length) (h3 : ∀ j, 0 < j → j < d → had u j = false) (h4 : d < u.length → had u d = true) : lp u = d := by
  obtain ⟨a1, a2, a3, a4⟩ := lp_spec u h
  rcases Nat.lt_trichotomy (lp u) d with z | z | z
  · have x1 := a4 (by omega)
    rw [h3 _ (by omega) z] at x1
    cases x1
  · exact z
  · have x1 := h4 (by omega)
    rw [a1 _ (by omega) z] at x1
    cases x1
theorem bl_q {Q : VK} {H : Hp} {a b : Bool} (e : a = b) (q : Q (.bl b) H) : Q (.bl a) H := e ▸ q
theorem int_q {Q : VK} {H : Hp} {a b : Int} (e : a = b) (q : Q (.int b) H) : Q (.int a) H := e ▸ q
theorem pow_abs {s : Int} (h : s.natAbs < 2 ^ 100) : ∀ i : Nat, (s ^ i).natAbs < 2 ^ (100 * i + 1)
  | 0 => by simp
  | i + 1 => by
    rw [Int.pow_succ, Int.natAbs_mul, show 100 * (i + 1) + 1 = (100 * i + 1) + 100 by omega, Nat.pow_add]
    exact Nat.mul_lt_mul'' (pow_abs h i) h
section
variable {P : Program} {w : World} {K : PySem.W.Frag} {mg : Str → Option Value} {base : Heap}
theorem sc_text : FnScope ["value"] ["value"] (defScope st_is_text) := ⟨rfl, rfl, rfl, by decide +kernel, rfl, by decide +kernel, by decide +kernel⟩
def spText : Sp := fun vs H Q _ => ∃ u : List Nat, vs = [.str (S u)] ∧ u.length ≤ 100000 ∧ Low u ∧ Q (.bl true) H
theorem ok_text {t : Tok} (lt : mg "LETTERS" = some (.str LET t)) (D : Df K mg "is_text" st_is_text ["value"]) (C : Cal P w K mg base 1 "is_made_of" ["value", "signs"] spMade) : FnOk P w K mg base CX0 2 D.f D.fd ["value"] spText := by
  refine D.F.ok sc_text (fun vs H Q E h => ?_) (fun cdv A outer s H vs Q E hr h => ?_)
  · obtain ⟨u, rfl, _⟩ := h
    rfl
  · obtain ⟨u, rfl, hl, hw, q⟩ := h
    refine ⟨_, pss_one (ps_ret (pcall C hr (by rfl) (pa_cons (pv 0) (pa_cons (pe_glob (v := .str LET) rfl lt ⟨_, rfl⟩) pa_nil)))), ?_⟩
    exact ⟨_, rfl, u, LET, rfl, hl, fun c hc => low_has (hw c hc).1 (hw c hc).2, q⟩
theorem sc_word : FnScope ["value"] ["value"] (defScope st_is_word) := ⟨rfl, rfl, rfl, by decide +kernel, rfl, by decide +kernel, by decide +kernel⟩
def spWord : Sp := fun vs H Q _ => ∃ u : List Nat, vs = [.str (S u)] ∧ u.length ≤ 100000 ∧ Low u ∧ u ≠ [] ∧ Q (.bl true) H
theorem ok_word (D : Df K mg "is_word" st_is_word ["value"]) (C : Cal P w K mg base 2 "is_text" ["value"] spText) : FnOk P w K mg base CX0 3 D.f D.fd ["value"] spWord := by
  refine D.F.ok sc_word (fun vs H Q E h => ?_) (fun cdv A outer s H vs Q E hr h => ?_)
  · obtain ⟨u, rfl, _⟩ := h
    rfl
  · obtain ⟨u, rfl, hl, hw, h0, q⟩ := h
    refine ⟨_, pss_one (ps_ret (pe_and (pcall C hr (by rfl) (pa_cons (pv 0) pa_nil)) (pe_one (pe_cmpR op_ne (pv 0) pe_str (nomark _))))), ?_⟩
    refine ⟨_, rfl, u, rfl, hl, hw, _, rfl, iteT ?_⟩
    refine ⟨_, rfl, rfl, bl_q ?_ q⟩
    rw [show decide (V.str (S u) = V.str (Str.ofString "")) = (u == []) from V_dec u []]
    cases u with
    | nil => exact absurd rfl h0
    | cons _ _ => rfl
theorem sc_cword : FnScope ["value"] ["value"] (defScope st_check_word) := ⟨rfl, rfl, rfl, by decide +kernel, rfl, by decide +kernel, by decide +kernel⟩
def spCword : Sp := fun vs H Q _ => ∃ u : List Nat, vs = [.str (S u)] ∧ u.length ≤ 100000 ∧ Low u ∧ u ≠ [] ∧ Q .non H
theorem ok_cword (D : Df K mg "check_word" st_check_word ["value"]) (C : Cal P w K mg base 3 "is_word" ["value"] spWord) : FnOk P w K mg base CX0 4 D.f D.fd ["value"] spCword := by
  refine D.F.ok sc_cword (fun vs H Q E h => ?_) (fun cdv A outer s H vs Q E hr h => ?_)
  · obtain ⟨u, rfl, _⟩ := h
    rfl
  · obtain ⟨u, rfl, hl, hw, h0, q⟩ := h
    refine ⟨_, pss_one (ps_if (pt_not (pt_val (pcall C hr (by rfl) (pa_cons (pv 0) pa_nil)))) pss_never pss_nil), ?_⟩
    exact ⟨_, rfl, u, rfl, hl, hw, h0, _, rfl, iteF q⟩
theorem sc_cnum : FnScope ["value", "least"] ["value", "least"] (defScope st_check_number) := ⟨rfl, rfl, rfl, by decide +kernel, rfl, by decide +kernel, by decide +kernel⟩
def spCnum : Sp := fun vs H Q _ => ∃ i l : Int, vs = [.int i, .int l] ∧ 0 ≤ i ∧ l ≤ i ∧ Q .non H
theorem ok_cnum (D : Df K mg "check_number" st_check_number ["value", "least"]) (C : Cal P w K mg base 2 "is_count" ["value"] spCount) : FnOk P w K mg base CX0 3 D.f D.fd ["value", "least"] spCnum := by
  refine D.F.ok sc_cnum (fun vs H Q E h => ?_) (fun cdv A outer s H vs Q E hr h => ?_)
  · obtain ⟨i, l, rfl, _⟩ := h
    rfl
  · obtain ⟨i, l, rfl, h0, h1, q⟩ := h
    refine ⟨_, pss_one (ps_if (PW.pt (pw_or (pt_not (pt_val (pcall C hr (by rfl) (pa_cons (pv 0) pa_nil)))) (pw_or1 (pt_cmpR op_lt (pv 0) (pv 1) (nomark _))))) pss_never pss_nil), ?_⟩
    refine ⟨_, rfl, i, rfl, h0, _, rfl, iteF ?_⟩
    refine ⟨_, rfl, _, rfl, _, _, rfl, rfl, _, rfl, ?_⟩
    rw [decide_eq_false (show ¬ i < l by omega)]
    exact iteF q
/-! ### periods -/
theorem sc_had : FnScope ["text", "period"] ["text", "period"] (defScope st__is_had) := ⟨rfl, rfl, rfl, by decide +kernel, rfl, by decide +kernel, by decide +kernel⟩
def spHad : Sp := fun vs H Q _ => ∃ (u : List Nat) (p : Nat), vs = [.str (S u), .int (p : Int)] ∧ u.length ≤ 100000 ∧ Q (.bl (had u p)) H
theorem ok_had (D : Df K mg "_is_had" st__is_had ["text", "period"]) : FnOk P w K mg base CX0 1 D.f D.fd ["text", "period"] spHad := by
  refine D.F.ok sc_had (fun vs H Q E h => ?_) (fun cdv A outer s H vs Q E hr h => ?_)
  · obtain ⟨u, p, rfl, _⟩ := h
    rfl
  · obtain ⟨u, p, rfl, hl, q⟩ := h
    refine ⟨_, pss_one (ps_ret (pe_bm PySem.F.plainAttrs_str PySem.F.slot_str_startswith PySem.F.type_str_startswith mt_startswith (pv 0) (pa_cons (pe_slice sl_str (pv 0) (po_some (pv 1)) po_none) pa_nil))), ?_⟩
    have e16 : sizeLine = 16777216 := by decide
    refine ⟨_, rfl, rfl, _, rfl, _, rfl, p, rfl, S u, rfl, by rw [S_len]; omega, S u, _, rfl, rfl, ?_⟩
    rw [cut_drop, starts]
    exact q
theorem sc_lp : FnScope ["word", "period"] ["word"] (defScope st_least_period) := ⟨rfl, rfl, rfl, by decide +kernel, rfl, by decide +kernel, by decide +kernel⟩
def spLp : Sp := fun vs H Q _ => ∃ u : List Nat, vs = [.str (S u)] ∧ u.length ≤ 100000 ∧ Low u ∧ u ≠ [] ∧ Q (.int (lp u : Int)) H
theorem ok_lp (B : Bi mg) (D : Df K mg "least_period" st_least_period ["word"]) (C : Cal P w K mg base 4 "check_word" ["value"] spCword) (CH : Cal P w K mg base 1 "_is_had" ["text", "period"] spHad) : FnOk P w K mg base CX0 5 D.f D.fd ["word"] spLp := by
  refine D.F.ok sc_lp (fun vs H Q E h => ?_) (fun cdv A outer s H vs Q E hr h => ?_)
  · obtain ⟨u, rfl, _⟩ := h
    rfl
  · obtain ⟨u, rfl, hl, hw, h0, q⟩ := h
    have hr1 : Room 1 _ := hr.mono (by decide)
    refine ⟨_, pss_cons (ps_expr (pcall C hr (by rfl) (pa_cons (pv 0) pa_nil)))
      (pss_cons (ps_for PassesOwn.never rfl (pi_range2 (by rfl) B.range (pa_cons pe_int (pa_cons (pe_callB call_len_str (by rfl) B.len PySem.boot_len (pa_cons (pv 0) pa_nil)) pa_nil))) (pg_name (i := 1) sc_lp.nd rfl (.inl rfl))
        (pss_one (ps_if (pt_val (pcall CH hr1 (by rfl) (pa_cons (pv 0) (pa_cons (pv 1) pa_nil)))) (pss_one (ps_ret (pv 1))) pss_nil)))
      (pss_one (ps_ret (pe_callB call_len_str (by rfl) B.len PySem.boot_len (pa_cons (pv 0) pa_nil))))), ?_⟩
    have e16 : sizeLine = 16777216 := by decide
    have hs : (S u).length ≤ sizeLine := by rw [S_len]; omega
    have hl0 : 0 < u.length := List.length_pos_iff.mpr h0
    refine ⟨_, rfl, u, rfl, hl, hw, h0, ?_⟩
    refine ⟨_, rfl, S u, rfl, hs, 1, (u.length : Int), by rw [S_len], ⟨by decide, by decide, by omega, by omega⟩, ?_⟩
    refine for_range (lo := 1) (n := ((u.length : Int) - 1).toNat) (fun i σ H2 => H2 = H ∧ ∃ y : Option V, σ = [some (.str (S u)), y] ∧ ∀ j, 0 < j → j ≤ i → had u j = false) ⟨rfl, none, rfl, fun j h1 h2 => by omega⟩ ?_ ?_
    · rintro i σ H2 hi ⟨rfl, y, rfl, hj⟩
      have ei : (1 + (i : Int)) = ((1 + i : Nat) : Int) := by omega
      refine ⟨_, rfl, _, rfl, u, 1 + i, by rw [ei]; rfl, hl, _, rfl, ?_⟩
      cases hb : had u (1 + i) with
      | true =>
        refine iteT ⟨_, rfl, int_q ?_ q⟩
        rw [lp_unique h0 (d := 1 + i) (by omega) (by omega) (fun j h1 h2 => hj j h1 (by omega)) (fun _ => hb)]
        exact ei
      | false =>
        refine iteF ⟨rfl, _, rfl, fun j h1 h2 => ?_⟩
        by_cases e : j = 1 + i
        · rw [e]
          exact hb
        · exact hj j h1 (by omega)
    · rintro σ H2 ⟨rfl, y, rfl, hj⟩
      refine ⟨_, rfl, S u, rfl, hs, int_q ?_ q⟩
      rw [S_len, lp_unique h0 (d := u.length) hl0 (Nat.le_refl _) (fun j h1 h2 => hj j h1 (by omega)) (fun z => absurd z (Nat.lt_irrefl _))]
theorem sc_root : FnScope ["word", "period"] ["word"] (defScope st_root) := ⟨rfl, rfl, rfl, by decide +kernel, rfl, by decide +kernel, by decide +kernel⟩
def rootV (r : List Nat × Nat) : List V := [.str (S r.1), .int (r.2 : Int)]
def spRoot : Sp := fun vs H Q _ => ∃ u : List Nat, vs = [.str (S u)] ∧ u.length ≤ 100000 ∧ Low u ∧ u ≠ [] ∧ ∀ (p : Addr) (H' : Hp), H p = none → Same H H' → H' p = some (.tup (rootV (rootP u))) → Q (.ref p) H'
theorem ok_root (B : Bi mg) (D : Df K mg "root" st_root ["word"]) (C : Cal P w K mg base 4 "check_word" ["value"] spCword) (CL : Cal P w K mg base 5 "least_period" ["word"] spLp) : FnOk P w K mg base CX0 6 D.f D.fd ["word"] spRoot := by
  refine D.F.ok sc_root (fun vs H Q E h => ?_) (fun cdv A outer s H vs Q E hr h => ?_)
  · obtain ⟨u, rfl, _⟩ := h
    rfl
  · obtain ⟨u, rfl, hl, hw, h0, q⟩ := h
    refine ⟨_, pss_cons (ps_expr (pcall C (hr.mono (by decide)) (by rfl) (pa_cons (pv 0) pa_nil)))
      (pss_cons (ps_set (i := 1) sc_root.nd rfl (.inl rfl) (pcall CL hr (by rfl) (pa_cons (pv 0) pa_nil)))
      (pss_cons (ps_if (pt_cmpR op_ne (pe_op op_mod (pe_callB call_len_str (by rfl) B.len PySem.boot_len (pa_cons (pv 0) pa_nil)) (pv 1)) pe_int (nomark _)) (pss_one (ps_ret (pe_tup (pa_cons (pv 0) (pa_cons pe_int pa_nil))))) pss_nil)
      (pss_one (ps_ret (pe_tup (pa_cons (pe_slice sl_str (pv 0) po_none (po_some (pv 1))) (pa_cons (pe_op op_fdiv (pe_callB call_len_str (by rfl) B.len PySem.boot_len (pa_cons (pv 0) pa_nil)) (pv 1)) pa_nil))))))), ?_⟩
    have e16 : sizeLine = 16777216 := by decide
    have hs : (S u).length ≤ sizeLine := by rw [S_len]; omega
    obtain ⟨_, hp1, hp2, _⟩ := lp_spec u h0
    refine ⟨_, rfl, u, rfl, hl, hw, h0, _, rfl, u, rfl, hl, hw, h0, ?_⟩
    refine ⟨_, rfl, S u, rfl, hs, _, rfl, _, _, rfl, rfl, by show (0 : Int) < (lp u : Int); omega, rfl, _, rfl, ?_⟩
    rw [dec_int, S_len]
    by_cases hm : u.length % lp u = 0
    · have em : ((u.length : Int) % (lp u : Int)) = 0 := by omega
      rw [em]
      refine iteF ?_
      have er : rootP u = (u.take (lp u), u.length / lp u) := by
        unfold rootP
        rw [if_neg (by omega)]
      refine ⟨_, rfl, _, rfl, (lp u : Int), rfl, S u, rfl, hs, _, rfl, S u, rfl, hs, _, rfl, _, _, rfl, rfl, ⟨by omega, by omega⟩, by show 2 ≤ sizeLine; decide, fun p hp => ?_⟩
      refine q p _ hp (same_upd hp) ?_
      rw [upd_same, er, cut_take, S_len]
      rfl
    · have em : ((u.length : Int) % (lp u : Int) == 0) = false := by
        rw [beq_eq_false_iff_ne]
        omega
      rw [em]
      refine iteT ?_
      have er : rootP u = (u, 1) := by
        unfold rootP
        rw [if_pos hm]
      refine ⟨_, rfl, by show 2 ≤ sizeLine; decide, fun p hp => ?_⟩
      refine q p _ hp (same_upd hp) ?_
      rw [upd_same, er]
      rfl
/-! ### powers -/
theorem sc_mwords : FnScope ["signs", "length", "many", "_"] ["signs", "length"] (defScope st_many_words) := ⟨rfl, rfl, rfl, by decide +kernel, rfl, by decide +kernel, by decide +kernel⟩
def spPow : Sp := fun vs H Q _ => ∃ (s : Int) (n : Nat), vs = [.int s, .int (n : Int)] ∧ s.natAbs < 2 ^ 100 ∧ n ≤ 1000 ∧ Q (.int (s ^ n)) H
theorem ok_mwords (B : Bi mg) (D : Df K mg "many_words" st_many_words ["signs", "length"]) : FnOk P w K mg base CX0 1 D.f D.fd ["signs", "length"] spPow := by
  refine D.F.ok sc_mwords (fun vs H Q E h => ?_) (fun cdv A outer s H vs Q E hr h => ?_)
  · obtain ⟨s, n, rfl, _⟩ := h
    rfl
  · obtain ⟨s, n, rfl, hs, hn, q⟩ := h
    refine ⟨_, pss_cons (ps_set (i := 2) sc_mwords.nd rfl (.inl rfl) pe_int)
      (pss_cons (ps_for PassesOwn.never rfl (pi_range1 (by rfl) B.range (pa_cons (pv 1) pa_nil)) (pg_name (i := 3) sc_mwords.nd rfl (.inl rfl)) (pss_one (ps_set (i := 2) sc_mwords.nd rfl (.inl rfl) (pe_op op_mulW (pv 2) (pv 0)))))
      (pss_one (ps_ret (pv 2)))), ?_⟩
    refine ⟨_, rfl, (n : Int), rfl, by omega, by omega, ?_⟩
    refine for_range (lo := 0) (n := (n : Int).toNat) (fun i σ H2 => H2 = H ∧ ∃ y : Option V, σ = [some (.int s), some (.int n), some (.int (s ^ i)), y]) ⟨rfl, none, by rw [Int.pow_zero]; rfl⟩ ?_ ?_
    · rintro i σ H2 hi ⟨rfl, y, rfl⟩
      refine ⟨_, rfl, _, rfl, _, _, rfl, rfl, wide_mul (pow_abs hs i) hs (by omega) (by decide) (by omega), rfl, some (.int (0 + (i : Int))), ?_⟩
      rw [Int.pow_succ]
      rfl
    · rintro σ H2 ⟨rfl, y, rfl⟩
      exact ⟨_, rfl, q⟩
theorem sc_power : FnScope ["base", "many", "found", "spin"] ["base", "many"] (defScope st__law_power) := ⟨rfl, rfl, rfl, by decide +kernel, rfl, by decide +kernel, by decide +kernel⟩
theorem ok_power (B : Bi mg) (D : Df K mg "_law_power" st__law_power ["base", "many"]) : FnOk P w K mg base CX0 1 D.f D.fd ["base", "many"] spPow := by
  refine D.F.ok sc_power (fun vs H Q E h => ?_) (fun cdv A outer s H vs Q E hr h => ?_)
  · obtain ⟨s, n, rfl, _⟩ := h
    rfl
  · obtain ⟨s, n, rfl, hs, hn, q⟩ := h
    refine ⟨_, pss_cons (ps_set (i := 2) sc_power.nd rfl (.inl rfl) pe_int)
      (pss_cons (ps_for PassesOwn.never rfl (pi_range1 (by rfl) B.range (pa_cons (pv 1) pa_nil)) (pg_name (i := 3) sc_power.nd rfl (.inl rfl)) (pss_one (ps_set (i := 2) sc_power.nd rfl (.inl rfl) (pe_op op_mulW (pv 2) (pv 0)))))
      (pss_one (ps_ret (pv 2)))), ?_⟩
    refine ⟨_, rfl, (n : Int), rfl, by omega, by omega, ?_⟩
    refine for_range (lo := 0) (n := (n : Int).toNat) (fun i σ H2 => H2 = H ∧ ∃ y : Option V, σ = [some (.int s), some (.int n), some (.int (s ^ i)), y]) ⟨rfl, none, by rw [Int.pow_zero]; rfl⟩ ?_ ?_
    · rintro i σ H2 hi ⟨rfl, y, rfl⟩
      refine ⟨_, rfl, _, rfl, _, _, rfl, rfl, wide_mul (pow_abs hs i) hs (by omega) (by decide) (by omega), rfl, some (.int (0 + (i : Int))), ?_⟩
      rw [Int.pow_succ]
      rfl
    · rintro σ H2 ⟨rfl, y, rfl⟩
      exact ⟨_, rfl, q⟩
end
end K4
set_option Elab.async false
set_option linter.all false
set_option maxRecDepth 100000
set_option maxHeartbeats 4000000
namespace K4
open PySem PySem.Spec PyProof.Rows L2 K4M
theorem lc_keys {d : Addr} {o : Obj} {kvs : List (Key × V)} {g : TG} {tt : TT} {te : TE} {vs : List Nat} {σ : L2.St} {H1 : Hp} {D : Addr} {Qd : Hp → Prop} (Pv : Nat → Hp → Prop) (h0 : Pv 0 (upd H1 D (.lst []))) (hf : ∀ i H, Pv i H → H d = some (.frz o (.dK kvs)))
    (hs : ∀ (i : Nat) (k : Key) (v : V) (H : Hp), kvs[i]? = some (k, v) → Pv i H → g (kV k) (wipe σ vs) H fun σ2 H2 => wipe σ2 vs = wipe σ vs ∧ tt σ2 H2 fun c H3 =>
      if c = true then te σ2 H3 fun y H4 => ∃ acc, H4 D = some (.lst acc) ∧ acc.length < sizeLine ∧ Pv (i + 1) (upd H4 D (.lst (acc ++ [y]))) else Pv (i + 1) H3) (hd : ∀ H, Pv kvs.length H → Qd H) :
    ∃ W : Nat → Nat → Hp → Prop, (∃ m, W 0 m (upd H1 D (.lst []))) ∧ ∀ i m H, W i m H →
      ((Itk d o kvs).stop i H ∧ Qd H) ∨ ((Itk d o kvs).go i H ∧ ∃ Nx : Hp → Prop, (∀ H', Nx H' → ∃ m', m' < m ∧ W (i + 1) m' H') ∧ ∀ x H', (Itk d o kvs).yld i H x H' → g x (wipe σ vs) H' fun σ2 H2 => wipe σ2 vs = wipe σ vs ∧ tt σ2 H2 fun c H3 =>
        if c = true then te σ2 H3 fun y H4 => ∃ acc, H4 D = some (.lst acc) ∧ acc.length < sizeLine ∧ Nx (upd H4 D (.lst (acc ++ [y]))) else Nx H3) := by
  refine ⟨fun i m H => m = kvs.length - i ∧ i ≤ kvs.length ∧ Pv i H, ⟨kvs.length, rfl, Nat.zero_le _, h0⟩, ?_⟩
  rintro i m H ⟨rfl, hi, p⟩
  by_cases hlt : i < kvs.length
  · refine .inr ⟨⟨hf i H p, hlt⟩, Pv (i + 1), fun H' p' => ⟨kvs.length - (i + 1), by omega, rfl, hlt, p'⟩, fun x H' y => ?_⟩
    obtain ⟨rfl, k, v, e, rfl⟩ := y
    exact hs i k v H' e p
  · have e : i = kvs.length := by omega
    subst e
    exact .inl ⟨⟨hf _ H p, Nat.le_refl _⟩, hd H p⟩
/-! ### tables of numbers -/
def tabl (s : Int) (l : List Nat) : List (Key × V) := l.map fun (d : Nat) => ((Sum.inl (d : Int) : Key), V.int (prims s d))
theorem tabl_get (s : Int) {d : Nat} : ∀ {l : List Nat}, d ∈ l → valV (tabl s l) (Sum.inl (d : Int)) = some (.int (prims s d))
  | e :: r, h => by
    show valV (((Sum.inl (e : Int) : Key), V.int (prims s e)) :: tabl s r) _ = _
    by_cases z : e = d
    · subst z
      rw [valV_pos rfl]
    · rw [valV_neg (fun q => z (Int.ofNat.inj (Sum.inl.inj q)))]
      rcases List.mem_cons.mp h with h | h
      · exact absurd h.symm z
      · exact tabl_get s h
theorem tabl_none (s : Int) {d : Nat} : ∀ {l : List Nat}, ¬ d ∈ l → valV (tabl s l) (Sum.inl (d : Int)) = none
  | [], _ => rfl
  | e :: r, h => by
    show valV (((Sum.inl (e : Int) : Key), V.int (prims s e)) :: tabl s r) _ = _
    rw [valV_neg (fun q => h (List.mem_cons.mpr (.inl (Int.ofNat.inj (Sum.inl.inj q)).symm)))]
    exact tabl_none s fun z => h (List.mem_cons_of_mem _ z)
theorem tabl_put (s : Int) {d : Nat} {l : List Nat} (h : ¬ d ∈ l) : putK (tabl s l) (Sum.inl (d : Int)) (.int (prims s d)) = tabl s (l ++ [d]) := by
  rw [putK_new _ (tabl_none s h)]
  unfold tabl
  rw [List.map_append]
  rfl
theorem tabl_len (s : Int) (l : List Nat) : (tabl s l).length = l.length := List.length_map _
theorem divs_len (n i : Nat) : (divs n i).length ≤ i := by
  have := List.length_filter_le (fun d => n % d == 0) (List.range' 1 i)
  rw [List.length_range'] at this
  exact this
theorem int_mod_beq (a b : Nat) : ((a : Int) % (b : Int) == 0) = (a % b == 0) := by
  rw [Bool.eq_iff_iff, beq_iff_eq, beq_iff_eq]
  omega
theorem filter_take {α : Type} {f : α → Bool} {l : List α} {j : Nat} {x : α} (h : l[j]? = some x) : (l.take (j + 1)).filter f = (l.take j).filter f ++ (if f x = true then [x] else []) := by
  rw [List.take_add_one, h, List.filter_append]
  congr 1
  show List.filter f [x] = _
  cases e : f x with
  | true => rw [List.filter_cons_of_pos e]; rfl
  | false => rw [List.filter_cons_of_neg (by rw [e]; exact Bool.false_ne_true)]; rfl
theorem tabl_at {s : Int} {l : List Nat} {j : Nat} {k : Key} {v : V} (h : (tabl s l)[j]? = some (k, v)) : ∃ d : Nat, l[j]? = some d ∧ k = Sum.inl (d : Int) ∧ v = .int (prims s d) := by
  unfold tabl at h
  rw [List.getElem?_map] at h
  cases e : l[j]? with
  | none =>
    rw [e] at h
    cases h
  | some d =>
    rw [e] at h
    cases h
    exact ⟨d, rfl, rfl, rfl⟩
/-- the numbers of a list of words of ints -/
def numsV (l : List Int) : List V := l.map V.int
section
variable {P : Program} {w : World} {K : PySem.W.Frag} {mg : Str → Option Value} {base : Heap}
/-! ### many_primitives -/
theorem sc_prims : FnScope ["signs", "length", "many", "part", "shorter", "size"] ["signs", "length"] (defScope st_many_primitives) := ⟨rfl, rfl, rfl, by decide +kernel, rfl, by decide +kernel, by decide +kernel⟩
def spPrims : Sp := fun vs H Q _ => ∃ (s : Int) (n : Nat), vs = [.int s, .int (n : Int)] ∧ 1 ≤ s ∧ s.natAbs < 2 ^ 100 ∧ 1 ≤ n ∧ n ≤ 1000 ∧ ∀ H', Same H H' → Q (.int (prims s n)) H'
theorem ok_prims (B : Bi mg) (D : Df K mg "many_primitives" st_many_primitives ["signs", "length"]) (CN : Cal P w K mg base 3 "check_number" ["value", "least"] spCnum) (CW : Cal P w K mg base 1 "many_words" ["signs", "length"] spPow) :
    FnOk P w K mg base CX0 4 D.f D.fd ["signs", "length"] spPrims := by
  refine D.F.ok sc_prims (fun vs H Q E h => ?_) (fun cdv A outer s' H vs Q E hr h => ?_)
  · obtain ⟨s, n, rfl, _⟩ := h
    rfl
  · obtain ⟨s, n, rfl, hs1, hs2, hn1, hn2, q⟩ := h
    have hr1 : Room 1 _ := hr.mono (by decide)
    have hu := hu_of hr
    refine ⟨_, pss_cons (ps_expr (pcall CN hr (by rfl) (pa_cons (pv 0) (pa_cons pe_int pa_nil))))
      (pss_cons (ps_expr (pcall CN hr (by rfl) (pa_cons (pv 1) (pa_cons pe_int pa_nil))))
      (pss_cons (ps_set (i := 2) sc_prims.nd rfl (.inr rfl) pe_dnewK)
      (pss_cons (ps_for PassesOwn.never rfl (pi_range2 (by rfl) B.range (pa_cons pe_int (pa_cons (pe_op op_add (pv 1) pe_int) pa_nil))) (pg_name (i := 3) sc_prims.nd rfl (.inr rfl))
        (pss_one (ps_if (pt_cmpR op_eq (pe_op op_mod (pv 1) (pv 3)) pe_int (nomark _))
          (pss_cons (ps_lock (ps_setLc (i := 4) (own := [("size", 5)]) (g := gName 5) rfl sc_prims.nd rfl rfl (sw_true rfl rfl rfl (by decide +kernel)) (pi_keys (pv 2))
              (blkOk_by (N := ["signs", "length", "many", "part", "shorter", "size"]) (sc := defScope st_many_primitives) (by decide +kernel))
              (fun _ _ _ _ _ => pg_name (i := 5) sc_prims.nd rfl (.inl rfl))
              (fun _ _ _ _ _ => pts_one (pt_cmpR op_eq (pe_op op_mod (pv 3) (pv 5)) pe_int (nomark _)))
              (fun _ _ _ _ _ => pe_dget hu (pv 2) (pv 5) (fun _ _ => rfl))))
          (pss_one (ps_dput hu (pv 2) (pv 3) (pe_op op_sub (pcall CW hr1 (by rfl) (pa_cons (pv 0) (pa_cons (pv 3) pa_nil))) (pe_callB (cr_sum rfl) (by rfl) B.sum (by decide +kernel) (pa_cons (pv 4) pa_nil))) rfl)))
          pss_nil)))
      (pss_one (ps_ret (pe_dget hu (pv 2) (pv 1) (fun _ _ => rfl))))))), ?_⟩
    refine ⟨_, rfl, s, 1, rfl, by omega, hs1, _, rfl, n, 1, rfl, by omega, by omega, fun d hd => ?_⟩
    refine ⟨_, rfl, _, _, rfl, rfl, 1, (n : Int) + 1, rfl, ⟨by decide, by decide, by omega, by omega⟩, ?_⟩
    have e16 : sizeLine = 16777216 := by decide
    refine for_range (lo := 1) (n := ((n : Int) + 1 - 1).toNat) (fun i σ H2 => ∃ y3 y4 : Option V, σ = [some (.int s), some (.int n), some (.ref d), y3, y4, none] ∧ H2 d = some (.dK (tabl s (divs n i))) ∧ Same H H2)
      ⟨none, none, rfl, upd_same, same_upd hd⟩ ?_ ?_
    · rintro i σ H2 hi ⟨y3, y4, rfl, hd2, sm⟩
      have ei : (1 + (i : Int)) = ((i + 1 : Nat) : Int) := by omega
      refine ⟨_, rfl, _, rfl, _, _, rfl, rfl, by show (0 : Int) < 1 + (i : Int); omega, rfl, _, rfl, ?_⟩
      rw [dec_int, ei, int_mod_beq]
      by_cases hm : n % (i + 1) = 0
      · rw [hm]
        refine iteT ?_
        refine ⟨d, _, hd2, True.intro, fun od => ?_⟩
        refine ⟨_, rfl, d, od, rfl, .inl ⟨_, upd_same, fun DD hDD => ?_⟩⟩
        have hne : DD ≠ d := fun z => by
          rw [z, upd_same] at hDD
          cases hDD
        rw [upd_ne hne] at hDD
        refine lc_keys (d := d) (o := od) (kvs := tabl s (divs n i)) (fun j H3 => H3 d = some (.frz od (.dK (tabl s (divs n i)))) ∧ (∀ b o, H2 b = some o → b ≠ d → H3 b = some o) ∧ H3 DD = some (.lst (numsV ((((divs n i).take j).filter (fun e => (i + 1) % e == 0)).map (prims s)))))
          ⟨by rw [upd_ne hne.symm, upd_same], fun b o e hb => by rw [upd_ne (ne_of_none e hDD), upd_ne hb]; exact e, by rw [upd_same]; rfl⟩ (fun j H3 z => z.1) ?_ ?_
        · rintro j k v H3 hj ⟨k1, k2, k3⟩
          obtain ⟨e, he, rfl, rfl⟩ := tabl_at hj
          have hmem := List.mem_of_getElem? he
          have h0 := divs_mem.mp hmem
          refine ⟨rfl, _, rfl, _, rfl, _, _, rfl, rfl, by show (0 : Int) < (e : Int); omega, rfl, ?_⟩
          rw [dec_int, int_mod_beq]
          refine ⟨_, rfl, ?_⟩
          cases hb : ((i + 1) % e == 0) with
          | true =>
            refine iteT ?_
            refine ⟨_, rfl, _, rfl, d, _, rfl, .inl ⟨_, Sum.inl (e : Int), .inr ⟨od, k1⟩, rfl, (tabl_get s hmem).symm⟩, ?_⟩
            refine ⟨_, k3, ?_, ?_, fun b o eb hb' => ?_, ?_⟩
            · unfold numsV
              rw [List.length_map, List.length_map]
              have l1 := List.length_filter_le (fun e => (i + 1) % e == 0) ((divs n i).take j)
              have l2 := List.length_take_le j (divs n i)
              have l3 := divs_len n i
              have l4 : ((divs n i).take j).length ≤ (divs n i).length := by
                rw [List.length_take]
                omega
              omega
            · rw [upd_ne hne.symm]
              exact k1
            · rw [upd_ne (ne_of_none eb hDD)]
              exact k2 b o eb hb'
            · rw [upd_same, filter_take he, hb]
              unfold numsV
              rw [List.map_append, List.map_append]
              rfl
          | false =>
            refine iteF ⟨k1, k2, ?_⟩
            rw [k3, filter_take he, hb]
            simp
        · rintro H3 ⟨k1, k2, k3⟩
          refine ⟨k1, ?_⟩
          rw [tabl_len, List.take_length, divs_filter hm] at k3
          refine ⟨_, rfl, _, rfl, s, i + 1, rfl, hs2, by omega, _, rfl, DD, _, rfl, .inl (.inl (by rw [upd_ne hne]; exact k3)), _, _, rfl, rfl, ?_⟩
          have hnm : ¬ (i + 1) ∈ divs n i := fun z => by
            have := divs_mem.mp z
            omega
          have ep : s ^ (i + 1) - ((divs (i + 1) i).map (prims s)).sum = prims s (i + 1) := (prims_eq s (i + 1) (by omega)).symm
          refine ⟨_, rfl, _, rfl, d, _, rfl, .inl ⟨_, Sum.inl ((i + 1 : Nat) : Int), upd_same, rfl, by rw [tabl_len]; have := divs_len n i; omega, rfl⟩, ?_⟩
          refine ⟨some (.int ((i + 1 : Nat) : Int)), some (.ref DD), rfl, ?_, fun b o eb => ?_⟩
          · rw [upd_same, divs_succ_of hm]
            show some (HO.dK (putK (tabl s (divs n i)) (Sum.inl ((i + 1 : Nat) : Int)) (V.int (s ^ (i + 1) - ((divs (i + 1) i).map (prims s)).sum)))) = _
            rw [ep, tabl_put s hnm]
          · have hb : b ≠ d := ne_of_none eb hd
            rw [upd_ne hb, upd_ne hb]
            exact k2 b o (sm b o eb) hb
      · rw [beq_eq_false_iff_ne.mpr hm]
        refine iteF ⟨_, _, rfl, ?_, sm⟩
        rw [hd2, divs_succ_not hm]
    · rintro σ H2 ⟨y3, y4, rfl, hd2, sm⟩
      have en : ((n : Int) + 1 - 1).toNat = n := by omega
      rw [en] at hd2
      have hmem : n ∈ divs n n := divs_mem.mpr ⟨hn1, Nat.le_refl _, Nat.mod_self _⟩
      refine ⟨_, rfl, _, rfl, d, _, rfl, .inl ⟨_, Sum.inl (n : Int), .inl hd2, rfl, (tabl_get s hmem).symm⟩, q _ sm⟩
end
end K4
set_option Elab.async false
set_option linter.all false
set_option maxRecDepth 100000
set_option maxHeartbeats 4000000
namespace K4
open PySem PySem.Spec PyProof.Rows L2 K4M
def strsV (ws : List (List Nat)) : List V := ws.map fun u => V.str (S u)
def natsV (l : List Nat) : List V := l.map fun (d : Nat) => V.int (d : Int)
def blsV (l : List Bool) : List V := l.map V.bl
section
variable {P : Program} {w : World} {K : PySem.W.Frag} {mg : Str → Option Value} {base : Heap}
/-! ### divisors -/
theorem sc_divs : FnScope ["number", "late"] ["number"] (defScope st__law_divisors) := ⟨rfl, rfl, rfl, by decide +kernel, rfl, by decide +kernel, by decide +kernel⟩
def spDivs : Sp := fun vs H Q _ => ∃ n : Nat, vs = [.int (n : Int)] ∧ n ≤ 100000 ∧ ∀ (L : Addr) (H' : Hp), H L = none → Same H H' → H' L = some (.lst (natsV (divs n n))) → Q (.ref L) H'
theorem ok_divs (B : Bi mg) (D : Df K mg "_law_divisors" st__law_divisors ["number"]) : FnOk P w K mg base CX0 1 D.f D.fd ["number"] spDivs := by
  refine D.F.ok sc_divs (fun vs H Q E h => ?_) (fun cdv A outer s' H vs Q E hr h => ?_)
  · obtain ⟨n, rfl, _⟩ := h
    rfl
  · obtain ⟨n, rfl, hn, q⟩ := h
    refine ⟨_, pss_one (ps_ret (pe_lc (own := [("late", 1)]) (g := gName 1) rfl sc_divs.nd (pi_range2 rfl B.range (pa_cons pe_int (pa_cons (pe_op op_add (pv 0) pe_int) pa_nil)))
      (blkOk_by (N := ["number", "late"]) (sc := defScope st__law_divisors) (by decide +kernel))
      (fun _ _ _ _ _ => pg_name (i := 1) sc_divs.nd rfl (.inl rfl))
      (fun _ _ _ _ _ => pts_one (pt_cmpR op_eq (pe_op op_mod (pe_callTy call_int1 (by rfl) B.int (by decide +kernel) (pa_cons (pv 0) pa_nil)) (pv 1)) pe_int (nomark _)))
      (fun _ _ _ _ _ => pv 1))), ?_⟩
    have e16 : sizeLine = 16777216 := by decide
    refine ⟨_, rfl, _, _, rfl, rfl, 1, (n : Int) + 1, rfl, ⟨by decide, by decide, by omega, by omega⟩, fun DD hD => ?_⟩
    refine lc_range (lo := 1) (n := ((n : Int) + 1 - 1).toNat) (fun i H3 => Same H H3 ∧ H3 DD = some (.lst (natsV (divs n i)))) ⟨same_upd hD, upd_same⟩ ?_ ?_
    · rintro i H3 hi ⟨sm, hDD⟩
      have ei : (1 + (i : Int)) = ((i + 1 : Nat) : Int) := by omega
      refine ⟨rfl, _, rfl, .inl ⟨_, rfl, _, rfl, _, _, rfl, rfl, by show (0 : Int) < 1 + (i : Int); omega, rfl, ?_⟩⟩
      rw [dec_int, ei, int_mod_beq]
      refine ⟨_, rfl, ?_⟩
      by_cases hm : n % (i + 1) = 0
      · rw [beq_iff_eq.mpr hm]
        refine iteT ⟨_, rfl, _, hDD, ?_, fun b o e => ?_, ?_⟩
        · unfold natsV
          rw [List.length_map]
          have := divs_len n i
          omega
        · rw [upd_ne (ne_of_none e hD)]
          exact sm b o e
        · rw [upd_same, divs_succ_of hm]
          unfold natsV
          rw [List.map_append]
          rfl
      · rw [beq_eq_false_iff_ne.mpr hm]
        refine iteF ⟨sm, ?_⟩
        rw [hDD, divs_succ_not hm]
    · rintro H3 ⟨sm, hDD⟩
      have en : ((n : Int) + 1 - 1).toNat = n := by omega
      rw [en] at hDD
      exact q DD H3 hD sm hDD
/-! ### all words -/
theorem words_len (cs : List Nat) : ∀ n, (wordsOf cs n).length = cs.length ^ n
  | 0 => rfl
  | n + 1 => by
    have : ∀ l : List (List Nat), (l.flatMap fun u => cs.map fun c => u ++ [c]).length = l.length * cs.length := fun l => by
      induction l with
      | nil => simp
      | cons a r ih => rw [List.flatMap_cons, List.length_append, ih, List.length_map, List.length_cons, Nat.add_mul, Nat.one_mul]; omega
    show ((wordsOf cs n).flatMap _).length = _
    rw [this, words_len cs n, Nat.pow_succ]
theorem flat_take {l : List (List Nat)} {cs : List Nat} {j : Nat} {u : List Nat} (h : l[j]? = some u) : (l.take (j + 1)).flatMap (fun u => cs.map fun c => u ++ [c]) = (l.take j).flatMap (fun u => cs.map fun c => u ++ [c]) ++ cs.map fun c => u ++ [c] := by
  rw [List.take_add_one, h, List.flatMap_append]
  congr 1
  simp
theorem flat_len (cs : List Nat) (l : List (List Nat)) : (l.flatMap fun u => cs.map fun c => u ++ [c]).length = l.length * cs.length := by
  induction l with
  | nil => simp
  | cons a r ih => rw [List.flatMap_cons, List.length_append, ih, List.length_map, List.length_cons, Nat.add_mul, Nat.one_mul]; omega
theorem sc_words : FnScope ["signs", "size", "found", "spin", "longer", "word", "sign"] ["signs", "size"] (defScope st__law_words_of) := ⟨rfl, rfl, rfl, by decide +kernel, rfl, by decide +kernel, by decide +kernel⟩
def spWords : Sp := fun vs H Q _ => ∃ (cs : List Nat) (n : Nat), vs = [.str (S cs), .int (n : Int)] ∧ cs.length ≤ 4 ∧ n ≤ 7 ∧ ∀ (L : Addr) (H' : Hp), H L = none → Same H H' → H' L = some (.lst (strsV (wordsOf cs n))) → Q (.ref L) H'
theorem ok_words (B : Bi mg) (D : Df K mg "_law_words_of" st__law_words_of ["signs", "size"]) : FnOk P w K mg base CX0 1 D.f D.fd ["signs", "size"] spWords := by
  refine D.F.ok sc_words (fun vs H Q E h => ?_) (fun cdv A outer s' H vs Q E hr h => ?_)
  · obtain ⟨cs, n, rfl, _⟩ := h
    rfl
  · obtain ⟨cs, n, rfl, hc, hn, q⟩ := h
    refine ⟨_, pss_cons (ps_set (i := 2) sc_words.nd rfl (.inl rfl) (pe_lst (pa_cons pe_str pa_nil)))
      (pss_cons (ps_for PassesOwn.never rfl (pi_range1 (by rfl) B.range (pa_cons (pv 1) pa_nil)) (pg_name (i := 3) sc_words.nd rfl (.inl rfl))
        (pss_cons (ps_set (i := 4) sc_words.nd rfl (.inl rfl) (pe_lst pa_nil))
        (pss_cons (ps_for PassesOwn.never rfl (pi_list (pv 2)) (pg_name (i := 5) sc_words.nd rfl (.inr rfl))
          (pss_one (ps_set (i := 4) sc_words.nd rfl (.inl rfl) (pe_op op_cat (pv 4) (pe_lc (own := [("sign", 6)]) (g := gName 6) (tt := tYes) rfl sc_words.nd
            (pi_list (pe_callTy (call_listS rfl) (by rfl) B.list (by decide +kernel) (pa_cons (pv 0) pa_nil)))
            (blkOk_by (N := ["signs", "size", "found", "spin", "longer", "word", "sign"]) (sc := defScope st__law_words_of) (by decide +kernel))
            (fun _ _ _ _ _ => pg_name (i := 6) sc_words.nd rfl (.inl rfl))
            (fun _ _ _ _ _ => pts_nil)
            (fun _ _ _ _ _ => pe_op op_add_str (pv 5) (pv 6)))))))
        (pss_one (ps_set (i := 2) sc_words.nd rfl (.inl rfl) (pv 4))))))
      (pss_one (ps_ret (pv 2)))), ?_⟩
    have e16 : sizeLine = 16777216 := by decide
    refine ⟨(by show 1 ≤ sizeLine; decide), fun L0 hL0 => ?_⟩
    refine ⟨_, rfl, n, rfl, by omega, by omega, ?_⟩
    refine for_range (lo := 0) (n := (n : Int).toNat) (fun i σ H2 => ∃ (L : Addr) (y3 y4 y5 : Option V), σ = [some (.str (S cs)), some (.int n), some (.ref L), y3, y4, y5, none] ∧ H L = none ∧ Same H H2 ∧ H2 L = some (.lst (strsV (wordsOf cs i))))
      ⟨L0, none, none, none, rfl, hL0, same_upd hL0, upd_same⟩ ?_ ?_
    · rintro i σ H2 hi ⟨L, y3, y4, y5, rfl, hL, sm, hLs⟩
      refine ⟨Nat.zero_le _, fun L1 hL1 => ?_⟩
      have sm1 : Same H2 (upd H2 L1 (.lst [])) := same_upd hL1
      refine ⟨_, rfl, L, rfl, ⟨_, .inl (.inl (sm1 _ _ hLs))⟩, ?_⟩
      have hwl := words_len cs i
      have hpow : cs.length ^ i ≤ 4 ^ 6 := Nat.le_trans (Nat.pow_le_pow_left hc i) (Nat.pow_le_pow_right (by decide) (by omega))
      refine for_list (K := K) (a := L) (xs := strsV (wordsOf cs i)) (fun j σ H3 => ∃ (L' : Addr) (y5 : Option V), σ = [some (.str (S cs)), some (.int n), some (.ref L), some (.int (0 + (i : Int))), some (.ref L'), y5, none] ∧ H2 L' = none ∧ Same H2 H3 ∧ H3 L' = some (.lst (strsV (((wordsOf cs i).take j).flatMap fun u => cs.map fun c => u ++ [c]))))
        ⟨L1, y5, rfl, hL1, sm1, upd_same⟩ (fun j σ H3 _ ⟨_, _, _, _, s3, _⟩ => .inl (.inl (s3 _ _ hLs))) ?_ ?_
      · rintro j x σ H3 hj ⟨L', y5', rfl, hL', s3, hL's⟩
        unfold strsV at hj
        rw [List.getElem?_map] at hj
        obtain ⟨u, hu, rfl⟩ : ∃ u, (wordsOf cs i)[j]? = some u ∧ x = V.str (S u) := by
          cases e : (wordsOf cs i)[j]? with
          | none => rw [e] at hj; cases hj
          | some u => rw [e] at hj; exact ⟨u, rfl, (Option.some.inj hj).symm⟩
        obtain ⟨hul, huc⟩ := wordsOf_mem (List.mem_of_getElem? hu)
        have hjl : j < cs.length ^ i := by
          rw [← hwl]
          exact (List.getElem?_eq_some_iff.mp hu).1
        have jbound : ((((wordsOf cs i).take j).flatMap fun u => cs.map fun c => u ++ [c])).length ≤ 20000 := by
          rw [flat_len, List.length_take]
          have : min j (wordsOf cs i).length * cs.length ≤ 4 ^ 6 * 4 := Nat.mul_le_mul (by omega) hc
          omega
        refine ⟨_, rfl, _, rfl, cs, rfl, by omega, fun Ls hLs' => ?_⟩
        have s4 : Same H3 (upd H3 Ls (.lst (signsV cs))) := same_upd hLs'
        refine ⟨Ls, rfl, ⟨_, .inl (.inl upd_same)⟩, fun DD hD => ?_⟩
        have hD3 : H3 DD = none := s4.free hD
        have hDL : DD ≠ Ls := fun z => by
          rw [z, upd_same] at hD
          cases hD
        have hLsD : Ls ≠ DD := hDL.symm
        refine lc_list (K := K) (a := Ls) (xs := signsV cs) (fun m H5 => Same H3 H5 ∧ H5 Ls = some (.lst (signsV cs)) ∧ H5 DD = some (.lst (strsV ((cs.take m).map fun c => u ++ [c]))))
          ⟨s4.trans (same_upd hD), by rw [upd_ne hLsD, upd_same], upd_same⟩ (fun m H5 _ z => .inl (.inl z.2.1)) ?_ ?_
        · rintro m x H5 hm ⟨t1, t2, t3⟩
          unfold signsV at hm
          rw [List.getElem?_map] at hm
          obtain ⟨c, hcm, rfl⟩ : ∃ c, cs[m]? = some c ∧ x = V.str (S [c]) := by
            cases e : cs[m]? with
            | none => rw [e] at hm; cases hm
            | some c => rw [e] at hm; exact ⟨c, rfl, (Option.some.inj hm).symm⟩
          have hml : m < cs.length := (List.getElem?_eq_some_iff.mp hcm).1
          refine ⟨rfl, _, rfl, _, rfl, _, _, rfl, rfl, by rw [S_len, S_len, hul]; show i + 1 ≤ _; omega, ?_⟩
          refine ⟨_, t3, ?_, fun b o e => ?_, ?_, ?_⟩
          · unfold strsV
            rw [List.length_map, List.length_map, List.length_take]
            omega
          · rw [upd_ne (ne_of_none e hD3)]
            exact t1 b o e
          · rw [upd_ne hLsD]
            exact t2
          · rw [upd_same, S_app, List.take_add_one, hcm]
            unfold strsV
            rw [List.map_append, List.map_append]
            rfl
        · rintro H5 ⟨t1, t2, t3⟩
          have lsv : (signsV cs).length = cs.length := by
            unfold signsV
            rw [List.length_map]
          rw [lsv, List.take_length] at t3
          refine ⟨_, _, _, _, rfl, rfl, t1 _ _ hL's, t3, ?_, fun p hp => ?_⟩
          · unfold strsV
            rw [List.length_map, List.length_map, List.length_map]
            omega
          · refine ⟨p, some (.str (S u)), rfl, s3.free (t1.free hp), fun b o e => ?_, ?_⟩
            · rw [upd_ne (ne_of_none (t1 _ _ (s3 _ _ e)) hp)]
              exact t1 _ _ (s3 _ _ e)
            · rw [upd_same, flat_take hu]
              unfold strsV
              rw [List.map_append]
      · rintro σ H3 ⟨L', y5', rfl, hL', s3, hL's⟩
        have lsv : (strsV (wordsOf cs i)).length = (wordsOf cs i).length := by
          unfold strsV
          rw [List.length_map]
        rw [lsv, List.take_length] at hL's
        exact ⟨_, rfl, L', some (.int (0 + (i : Int))), some (.ref L'), y5', rfl, sm.free hL', sm.trans s3, hL's⟩
    · rintro σ H2 ⟨L, y3, y4, y5, rfl, hL, sm, hLs⟩
      exact ⟨_, rfl, q L H2 hL sm hLs⟩
end
end K4
set_option Elab.async false
set_option linter.all false
set_option maxRecDepth 100000
set_option maxHeartbeats 4000000
namespace K4
open PySem PySem.Spec PyProof.Rows L2 K4M
theorem cutV_sub {α : Type} (f : α → V) (ns : List α) (lo hi : Option Int) : ∃ ms : List α, cutV (ns.map f) lo hi = ms.map f ∧ ms.length ≤ ns.length ∧ ∀ m ∈ ms, m ∈ ns := by
  unfold cutV
  rw [← List.map_drop, ← List.map_take]
  refine ⟨_, rfl, ?_, fun m hm => List.mem_of_mem_drop (List.mem_of_mem_take hm)⟩
  rw [List.length_take, List.length_drop]
  omega
theorem range_snoc (i : Nat) : List.range' 1 (i + 1) = List.range' 1 i ++ [i + 1] := by
  rw [List.range'_1_concat, Nat.add_comm 1 i]
theorem take_mul_le (u : List Nat) (s : Nat) : (u.take s).length * (u.length / s) ≤ u.length := by
  have h1 : (u.take s).length ≤ s := by rw [List.length_take]; omega
  exact Nat.le_trans (Nat.mul_le_mul_right _ h1) (Nat.mul_div_le _ _)
theorem abcd : Str.ofString "abcd" = S [97, 98, 99, 100] := by decide +kernel
theorem sizes_cons {u : List Nat} (h : u ≠ []) : ∃ r, sizes u = (sizes u).headD 0 :: r ∧ 0 < (sizes u).headD 0 ∧ (sizes u).headD 0 ≤ u.length := by
  have hl : 0 < u.length := List.length_pos_iff.mpr h
  obtain ⟨_, a2, a3, _⟩ := lp_spec u h
  have e := sizes_head u h
  have hb : 0 < (sizes u).headD 0 ∧ (sizes u).headD 0 ≤ u.length := by
    rw [e]
    split <;> omega
  cases hs : sizes u with
  | nil =>
    rw [hs] at hb
    exact absurd hb.1 (by decide)
  | cons a r =>
    rw [hs] at hb
    exact ⟨r, rfl, hb⟩
section
variable {P : Program} {w : World} {K : PySem.W.Frag} {mg : Str → Option Value} {base : Heap}
/-! ### is a word primitive -/
theorem sc_isPrim : FnScope ["word", "size"] ["word"] (defScope st__law_is_primitive) := ⟨rfl, rfl, rfl, by decide +kernel, rfl, by decide +kernel, by decide +kernel⟩
def spIsPrim : Sp := fun vs H Q _ => ∃ u : List Nat, vs = [.str (S u)] ∧ u.length ≤ 1000 ∧ ∀ H', Same H H' → Q (.bl (isPrim u)) H'
theorem ok_isPrim (B : Bi mg) (D : Df K mg "_law_is_primitive" st__law_is_primitive ["word"]) : FnOk P w K mg base CX0 1 D.f D.fd ["word"] spIsPrim := by
  refine D.F.ok sc_isPrim (fun vs H Q E h => ?_) (fun cdv A outer s' H vs Q E hr h => ?_)
  · obtain ⟨u, rfl, _⟩ := h
    rfl
  · obtain ⟨u, rfl, hl, q⟩ := h
    refine ⟨_, pss_one (ps_ret (pe_not (pe_callB (cr_any rfl) (by rfl) B.any (by decide +kernel) (pa_cons (pe_lc (own := [("size", 1)]) (g := gName 1) (tt := tYes) rfl sc_isPrim.nd
      (pi_range2 rfl B.range (pa_cons pe_int (pa_cons (pe_callB call_len_str (by rfl) B.len PySem.boot_len (pa_cons (pv 0) pa_nil)) pa_nil)))
      (blkOk_by (N := ["word", "size"]) (sc := defScope st__law_is_primitive) (by decide +kernel))
      (fun _ _ _ _ _ => pg_name (i := 1) sc_isPrim.nd rfl (.inl rfl))
      (fun _ _ _ _ _ => pts_nil)
      (fun _ _ _ _ _ => pe_and (pe_cmpR op_eq (pe_op op_mod (pe_callTy call_int1 (by rfl) B.int (by decide +kernel) (pa_cons (pe_callB call_len_str (by rfl) B.len PySem.boot_len (pa_cons (pv 0) pa_nil)) pa_nil)) (pv 1)) pe_int (nomark _))
        (pe_one (pe_cmpR op_eq (pe_op op_mulS (pe_slice sl_str (pv 0) po_none (po_some (pv 1))) (pe_op op_fdiv (pe_callB call_len_str (by rfl) B.len PySem.boot_len (pa_cons (pv 0) pa_nil)) (pv 1))) (pv 0) (nomark _))))) pa_nil)))), ?_⟩
    have e16 : sizeLine = 16777216 := by decide
    have hs : (S u).length ≤ sizeLine := by rw [S_len]; omega
    refine ⟨_, rfl, S u, rfl, hs, 1, (u.length : Int), by rw [S_len], ⟨by decide, by decide, by omega, by omega⟩, fun DD hD => ?_⟩
    refine lc_range (lo := 1) (n := ((u.length : Int) - 1).toNat) (fun i H3 => Same H H3 ∧ H3 DD = some (.lst (((List.range' 1 i).map (okSize u)).map V.bl))) ⟨same_upd hD, upd_same⟩ ?_ ?_
    · rintro i H3 hi ⟨sm, hDD⟩
      have ei : (1 + (i : Int)) = ((i + 1 : Nat) : Int) := by omega
      have fin : ∀ b : Bool, b = okSize u (i + 1) → ∃ acc, H3 DD = some (.lst acc) ∧ acc.length < sizeLine ∧ Same H (upd H3 DD (.lst (acc ++ [.bl b]))) ∧ (upd H3 DD (.lst (acc ++ [.bl b]))) DD = some (.lst (((List.range' 1 (i + 1)).map (okSize u)).map V.bl)) := fun b hb => by
        refine ⟨_, hDD, ?_, fun c o e => ?_, ?_⟩
        · rw [List.length_map, List.length_map, List.length_range']
          omega
        · rw [upd_ne (ne_of_none e hD)]
          exact sm c o e
        · rw [upd_same, range_snoc, List.map_append, List.map_append, hb]
          rfl
      refine ⟨rfl, _, rfl, S u, rfl, hs, .inl ⟨_, rfl, _, rfl, _, _, rfl, rfl, by show (0 : Int) < 1 + (i : Int); omega, rfl, ?_⟩⟩
      rw [dec_int, S_len, ei, int_mod_beq]
      refine ⟨_, rfl, ?_⟩
      cases hb : (u.length % (i + 1) == 0) with
      | false =>
        refine iteF (fin false ?_)
        unfold okSize
        rw [hb]
        rfl
      | true =>
        refine iteT ?_
        have hb2 : (i + 1) * 1 ≤ u.length := by omega
        refine ⟨_, rfl, _, rfl, ((i + 1 : Nat) : Int), rfl, S u, rfl, hs, _, rfl, S u, rfl, hs, _, rfl, _, _, rfl, rfl, ⟨by omega, by omega⟩, ?_⟩
        have hm := take_mul_le u (i + 1)
        refine ⟨u.take (i + 1), u.length / (i + 1), by rw [cut_take], by rw [S_len]; rfl, by omega, ?_, ?_, ?_⟩
        · have := Nat.div_le_self u.length (i + 1)
          omega
        · rw [List.length_take]
          omega
        · refine ⟨_, rfl, rfl, ?_⟩
          refine fin _ ?_
          rw [V_dec]
          unfold okSize
          rw [hb]
          rfl
    · rintro H3 ⟨sm, hDD⟩
      have en : ((u.length : Int) - 1).toNat = u.length - 1 := by omega
      rw [en] at hDD
      refine ⟨DD, _, rfl, .inl (.inl hDD), _, rfl, ?_⟩
      have e : (((List.range' 1 (u.length - 1)).map (okSize u)).any id) = (List.range' 1 (u.length - 1)).any (okSize u) := by
        rw [List.any_map]
        rfl
      rw [e]
      exact q H3 sm
/-! ### the law's own root -/
theorem sc_rootL : FnScope ["word", "some", "size"] ["word"] (defScope st__law_root) := ⟨rfl, rfl, rfl, by decide +kernel, rfl, by decide +kernel, by decide +kernel⟩
def spRootL : Sp := fun vs H Q _ => ∃ u : List Nat, vs = [.str (S u)] ∧ u.length ≤ 1000 ∧ u ≠ [] ∧ ∀ (p : Addr) (H' : Hp), H p = none → Same H H' → H' p = some (.tup (rootV (rootL u))) → Q (.ref p) H'
theorem ok_rootL (B : Bi mg) (D : Df K mg "_law_root" st__law_root ["word"]) : FnOk P w K mg base CX0 1 D.f D.fd ["word"] spRootL := by
  refine D.F.ok sc_rootL (fun vs H Q E h => ?_) (fun cdv A outer s' H vs Q E hr h => ?_)
  · obtain ⟨u, rfl, _⟩ := h
    rfl
  · obtain ⟨u, rfl, hl, hne, q⟩ := h
    refine ⟨_, pss_cons (ps_setLc (i := 1) (own := [("size", 2)]) (g := gName 2) rfl sc_rootL.nd rfl rfl (sw_true rfl rfl rfl (by decide +kernel))
        (pi_range2 rfl B.range (pa_cons pe_int (pa_cons (pe_op op_add (pe_callB call_len_str (by rfl) B.len PySem.boot_len (pa_cons (pv 0) pa_nil)) pe_int) pa_nil)))
        (blkOk_by (N := ["word", "some", "size"]) (sc := defScope st__law_root) (by decide +kernel))
        (fun _ _ _ _ _ => pg_name (i := 2) sc_rootL.nd rfl (.inl rfl))
        (fun _ _ _ _ _ => pts_one (PW.pt (pw_and (pt_cmpR op_eq (pe_op op_mod (pe_callTy call_int1 (by rfl) B.int (by decide +kernel) (pa_cons (pe_callB call_len_str (by rfl) B.len PySem.boot_len (pa_cons (pv 0) pa_nil)) pa_nil)) (pv 2)) pe_int (nomark _))
          (pw_and1 (pt_cmpR op_eq (pe_op op_mulS (pe_slice sl_str (pv 0) po_none (po_some (pv 2))) (pe_op op_fdiv (pe_callB call_len_str (by rfl) B.len PySem.boot_len (pa_cons (pv 0) pa_nil)) (pv 2))) (pv 0) (nomark _))))))
        (fun _ _ _ _ _ => pv 2))
      (pss_one (ps_ret (pe_tup (pa_cons (pe_slice sl_str (pv 0) po_none (po_some (pe_ix ix_list (pv 1) pe_int (fun _ _ => rfl)))) (pa_cons (pe_op op_fdiv (pe_callB call_len_str (by rfl) B.len PySem.boot_len (pa_cons (pv 0) pa_nil)) (pe_ix ix_list (pv 1) pe_int (fun _ _ => rfl))) pa_nil))))), ?_⟩
    have e16 : sizeLine = 16777216 := by decide
    have hs : (S u).length ≤ sizeLine := by rw [S_len]; omega
    refine ⟨_, rfl, S u, rfl, hs, _, _, rfl, rfl, 1, (u.length : Int) + 1, by rw [S_len], ⟨by decide, by decide, by omega, by omega⟩, fun DD hD => ?_⟩
    refine lc_range (lo := 1) (n := ((u.length : Int) + 1 - 1).toNat) (fun i H3 => Same H H3 ∧ H3 DD = some (.lst (natsV ((List.range' 1 i).filter (okSize u))))) ⟨same_upd hD, upd_same⟩ ?_ ?_
    · rintro i H3 hi ⟨sm, hDD⟩
      have ei : (1 + (i : Int)) = ((i + 1 : Nat) : Int) := by omega
      have fin : ∀ b : Bool, b = okSize u (i + 1) → if b = true then (∃ acc, H3 DD = some (.lst acc) ∧ acc.length < sizeLine ∧ Same H (upd H3 DD (.lst (acc ++ [.int ((i + 1 : Nat) : Int)]))) ∧ (upd H3 DD (.lst (acc ++ [.int ((i + 1 : Nat) : Int)]))) DD = some (.lst (natsV ((List.range' 1 (i + 1)).filter (okSize u)))))
          else (Same H H3 ∧ H3 DD = some (.lst (natsV ((List.range' 1 (i + 1)).filter (okSize u))))) := fun b hb => by
        cases b with
        | true =>
          refine iteT ⟨_, hDD, ?_, fun c o e => ?_, ?_⟩
          · unfold natsV
            rw [List.length_map]
            have := List.length_filter_le (okSize u) (List.range' 1 i)
            rw [List.length_range'] at this
            omega
          · rw [upd_ne (ne_of_none e hD)]
            exact sm c o e
          · rw [upd_same, range_snoc, List.filter_append, List.filter_cons_of_pos hb.symm]
            unfold natsV
            rw [List.map_append]
            rfl
        | false =>
          refine iteF ⟨sm, ?_⟩
          rw [hDD, range_snoc, List.filter_append, List.filter_cons_of_neg (by rw [← hb]; exact Bool.false_ne_true)]
          simp
      refine ⟨rfl, _, rfl, S u, rfl, hs, .inl ⟨_, rfl, _, rfl, _, _, rfl, rfl, by show (0 : Int) < 1 + (i : Int); omega, rfl, ?_⟩⟩
      rw [dec_int, S_len, ei, int_mod_beq]
      refine ⟨_, rfl, ?_⟩
      cases hb : (u.length % (i + 1) == 0) with
      | false =>
        refine iteF (iteF ?_)
        have z := fin false (by unfold okSize; rw [hb]; rfl)
        rw [if_neg Bool.false_ne_true] at z
        exact z
      | true =>
        refine iteT ?_
        refine ⟨_, rfl, _, rfl, ((i + 1 : Nat) : Int), rfl, S u, rfl, hs, _, rfl, S u, rfl, hs, _, rfl, _, _, rfl, rfl, ⟨by omega, by omega⟩, ?_⟩
        have hm := take_mul_le u (i + 1)
        refine ⟨u.take (i + 1), u.length / (i + 1), by rw [cut_take], by rw [S_len]; rfl, by omega, ?_, ?_, ?_⟩
        · have := Nat.div_le_self u.length (i + 1)
          omega
        · rw [List.length_take]
          omega
        · refine ⟨_, rfl, rfl, _, rfl, ?_⟩
          have z := fin (decide (V.str (S (rep (List.take (i + 1) u) (u.length / (i + 1)))) = V.str (S u))) (by rw [V_dec]; unfold okSize; rw [hb]; rfl)
          revert z
          generalize decide (V.str (S (rep (List.take (i + 1) u) (u.length / (i + 1)))) = V.str (S u)) = b
          intro z
          cases b with
          | true =>
            rw [if_pos rfl] at z
            obtain ⟨acc, z1, z2, z3⟩ := z
            exact iteT ⟨_, rfl, acc, z1, z2, z3⟩
          | false =>
            rw [if_neg Bool.false_ne_true] at z
            exact iteF z
    · rintro H3 ⟨sm, hDD⟩
      have en : ((u.length : Int) + 1 - 1).toNat = u.length := by omega
      rw [en] at hDD
      obtain ⟨r, er, h0, h1⟩ := sizes_cons hne
      have ea : atI (natsV (sizes u)) 0 = some (.int (((sizes u).headD 0 : Nat) : Int)) := by
        rw [er]
        exact atI_nat (j := 0) rfl
      have hL : SqL K H3 DD (natsV (sizes u)) := .inl (.inl hDD)
      refine ⟨_, rfl, _, rfl, DD, _, 0, _, rfl, rfl, hL, ea, _, rfl, S u, rfl, hs, ?_⟩
      refine ⟨_, rfl, S u, rfl, hs, _, rfl, DD, _, 0, _, rfl, rfl, hL, ea, _, _, rfl, rfl, ⟨by omega, by omega⟩, by show 2 ≤ sizeLine; decide, fun p hp => ?_⟩
      refine q p _ (sm.free hp) (sm.trans (same_upd hp)) ?_
      rw [upd_same, cut_take, S_len]
      rfl
end
end K4
set_option Elab.async false
set_option linter.all false
set_option maxRecDepth 100000
set_option maxHeartbeats 4000000
namespace K4
open PySem PySem.Spec PyProof.Rows L2 K4M
theorem low_word {k n : Nat} {u : List Nat} (h : u ∈ wordsOf ([97, 98, 99, 100].take k) n) : Low u ∧ u.length = n := by
  obtain ⟨h1, h2⟩ := wordsOf_mem h
  refine ⟨fun c hc => ?_, h1⟩
  have := List.mem_of_mem_take (h2 c hc)
  have all : ∀ c ∈ [97, 98, 99, 100], 97 ≤ c ∧ c ≤ 122 := by decide
  exact all c this
theorem rootV_flat (r : List Nat × Nat) : ∀ x ∈ rootV r, Flat x := fun x hx => by
  unfold rootV at hx
  rcases List.mem_cons.mp hx with rfl | hx
  · exact True.intro
  · rw [List.mem_singleton.mp hx]
    exact True.intro
theorem ints_flat (l : List Int) : ∀ x ∈ l.map V.int, Flat x := fun x hx => by
  obtain ⟨i, _, rfl⟩ := List.mem_map.mp hx
  exact True.intro
section
variable {P : Program} {w : World} {K : PySem.W.Frag} {mg : Str → Option Value} {base : Heap}
/-! ### words of few signs -/
theorem sc_small : FnScope ["signs", "length", "words", "due", "word"] ["signs", "length"] (defScope st__law_small_right) := ⟨rfl, rfl, rfl, by decide +kernel, rfl, by decide +kernel, by decide +kernel⟩
def spSmall : Sp := fun vs H Q _ => ∃ k n : Nat, vs = [.int (k : Int), .int (n : Int)] ∧ 1 ≤ k ∧ k ≤ 4 ∧ 1 ≤ n ∧ n ≤ 7 ∧ ((countP k n : Nat) : Int) = prims k n ∧ ∀ H', Same H H' → Q (.bl true) H'
theorem ok_small (B : Bi mg) (D : Df K mg "_law_small_right" st__law_small_right ["signs", "length"]) (CW : Cal P w K mg base 1 "_law_words_of" ["signs", "size"] spWords) (CI : Cal P w K mg base 1 "_law_is_primitive" ["word"] spIsPrim)
    (CE0 : Cal P w K mg base 1 "_law_exact" ["mine", "theirs"] (spExact K 0)) (CE1 : Cal P w K mg base 2 "_law_exact" ["mine", "theirs"] (spExact K 1)) (CP : Cal P w K mg base 4 "many_primitives" ["signs", "length"] spPrims)
    (CR : Cal P w K mg base 6 "root" ["word"] spRoot) (CL : Cal P w K mg base 1 "_law_root" ["word"] spRootL) : FnOk P w K mg base CX0 7 D.f D.fd ["signs", "length"] spSmall := by
  refine D.F.ok sc_small (fun vs H Q E h => ?_) (fun cdv A outer s' H vs Q E hr h => ?_)
  · obtain ⟨k, n, rfl, _⟩ := h
    rfl
  · obtain ⟨k, n, rfl, hk1, hk2, hn1, hn2, hc, q⟩ := h
    have hr1 : Room 1 _ := hr.mono (by decide)
    have hr2 : Room 2 _ := hr.mono (by decide)
    have hr4 : Room 4 _ := hr.mono (by decide)
    refine ⟨_, pss_cons (ps_set (i := 2) sc_small.nd rfl (.inl rfl) (pcall CW hr1 (by rfl) (pa_cons (pe_slice sl_str pe_str po_none (po_some (pv 0))) (pa_cons (pv 1) pa_nil))))
      (pss_cons (ps_set (i := 3) sc_small.nd rfl (.inl rfl) (pe_callB call_len_seq (by rfl) B.len PySem.boot_len (pa_cons (pe_lc (own := [("word", 4)]) (g := gName 4) rfl sc_small.nd (pi_list (pv 2))
          (blkOk_by (N := ["signs", "length", "words", "due", "word"]) (sc := defScope st__law_small_right) (by decide +kernel))
          (fun _ _ _ _ _ => pg_name (i := 4) sc_small.nd rfl (.inl rfl))
          (fun _ _ _ _ _ => pts_one (pt_val (pcall CI hr1 (by rfl) (pa_cons (pv 4) pa_nil))))
          (fun _ _ _ _ _ => pv 4)) pa_nil)))
      (pss_cons (ps_if (pt_not (pt_val (pcall CE0 hr1 (by rfl) (pa_cons (pcall CP hr4 (by rfl) (pa_cons (pv 0) (pa_cons (pv 1) pa_nil))) (pa_cons (pv 3) pa_nil))))) pss_never pss_nil)
      (pss_one (ps_ret (pe_callB (cr_all rfl) (by rfl) B.all (by decide +kernel) (pa_cons (pe_lc (own := [("word", 4)]) (g := gName 4) (tt := tYes) rfl sc_small.nd
          (pi_list (pe_op op_cat (pe_slice sl_list (pv 2) po_none (po_some pe_int)) (pe_slice sl_list (pv 2) (po_some (pe_un un_neg pe_int)) po_none)))
          (blkOk_by (N := ["signs", "length", "words", "due", "word"]) (sc := defScope st__law_small_right) (by decide +kernel))
          (fun _ _ _ _ _ => pg_name (i := 4) sc_small.nd rfl (.inl rfl))
          (fun _ _ _ _ _ => pts_nil)
          (fun _ _ _ _ _ => pcall CE1 hr2 (by rfl) (pa_cons (pcall CR hr (by rfl) (pa_cons (pv 4) pa_nil)) (pa_cons (pcall CL hr1 (by rfl) (pa_cons (pv 4) pa_nil)) pa_nil)))) pa_nil)))))), ?_⟩
    have e16 : sizeLine = 16777216 := by decide
    refine ⟨_, rfl, (k : Int), rfl, Str.ofString "abcd", rfl, (by rw [abcd, S_len]; show 4 ≤ sizeLine; decide), _, rfl, [97, 98, 99, 100].take k, n, by rw [abcd, cut_take]; rfl, ?_, hn2, fun L H1 hL sm1 hLs => ?_⟩
    · rw [List.length_take]
      show min k 4 ≤ 4
      omega
    have hwl : (wordsOf ([97, 98, 99, 100].take k) n).length ≤ 4 ^ 7 := by
      rw [words_len]
      have h1 : ([97, 98, 99, 100].take k : List Nat).length ≤ 4 := by rw [List.length_take]; show min k 4 ≤ 4; omega
      exact Nat.le_trans (Nat.pow_le_pow_left h1 n) (Nat.pow_le_pow_right (by decide) hn2)
    have mem : ∀ u, u ∈ wordsOf ([97, 98, 99, 100].take k) n → Low u ∧ u.length = n := fun u hu => low_word hu
    generalize hws : wordsOf ([97, 98, 99, 100].take k) n = ws at hLs hwl mem
    have hcp : countP k n = (ws.filter isPrim).length := by
      unfold countP
      rw [hws]
    have hS1 : SqL K H1 L (strsV ws) := .inl (.inl hLs)
    have sv_at : ∀ {vs : List (List Nat)} {i : Nat} {x : V}, (strsV vs)[i]? = some x → ∃ u, vs[i]? = some u ∧ x = V.str (S u) := fun {vs i x} hx => by
      unfold strsV at hx
      rw [List.getElem?_map] at hx
      cases e : vs[i]? with
      | none => rw [e] at hx; cases hx
      | some u => rw [e] at hx; exact ⟨u, rfl, (Option.some.inj hx).symm⟩
    have svl : ∀ vs : List (List Nat), (strsV vs).length = vs.length := fun vs => List.length_map _
    -- due
    refine ⟨_, rfl, L, rfl, ⟨_, hS1⟩, fun DD hD => ?_⟩
    refine lc_list (K := K) (a := L) (xs := strsV ws) (fun i H3 => Same H1 H3 ∧ H3 DD = some (.lst (strsV ((ws.take i).filter isPrim)))) ⟨same_upd hD, upd_same⟩ (fun i H3 _ z => z.1.seq hS1) ?_ ?_
    · rintro i x H3 hx ⟨sm, hDD⟩
      obtain ⟨u, hu, rfl⟩ := sv_at hx
      have hul := (mem u (List.mem_of_getElem? hu)).2
      refine ⟨rfl, _, rfl, u, rfl, by omega, fun H4 s4 => ?_⟩
      refine ⟨_, rfl, ?_⟩
      cases hb : isPrim u with
      | true =>
        refine iteT ⟨_, rfl, _, s4 _ _ hDD, ?_, fun c o e => ?_, ?_⟩
        · rw [svl]
          have h1 := List.length_filter_le isPrim (ws.take i)
          rw [List.length_take] at h1
          omega
        · rw [upd_ne (ne_of_none e hD)]
          exact s4 _ _ (sm c o e)
        · rw [upd_same, filter_take hu, hb]
          unfold strsV
          rw [List.map_append]
          rfl
      | false =>
        refine iteF ⟨sm.trans s4, ?_⟩
        rw [s4 _ _ hDD, filter_take hu, hb]
        simp
    · rintro H3 ⟨sm, hDD⟩
      rw [svl, List.take_length] at hDD
      refine ⟨DD, _, rfl, .inl (.inl (.inl hDD)), ?_⟩
      -- exact(many_primitives(signs, length), due)
      refine ⟨_, rfl, _, rfl, (k : Int), n, rfl, by omega, by omega, hn1, by omega, fun H4 s4 => ?_⟩
      refine ⟨_, rfl, _, _, rfl, ⟨?_, True.intro⟩, fun H5 s5 => ?_⟩
      · rw [svl, ← hcp, ← hc]
      refine ⟨_, rfl, iteF ?_⟩
      have s15 : Same H1 H5 := sm.trans (s4.trans s5)
      have hS5 : SqL K H5 L (strsV ws) := s15.seq hS1
      -- the roots
      obtain ⟨ms1, em1, el1, mm1⟩ := cutV_sub (fun u => V.str (S u)) ws none (some 40)
      obtain ⟨ms2, em2, el2, mm2⟩ := cutV_sub (fun u => V.str (S u)) ws (some (-40)) none
      refine ⟨_, rfl, _, rfl, L, _, rfl, hS5, fun p1 hp1 => ?_⟩
      have s6 : Same H5 (upd H5 p1 (.lst (cutV (strsV ws) none (some 40)))) := same_upd hp1
      refine ⟨_, rfl, 40, rfl, _, rfl, L, _, rfl, s6.seq hS5, fun p2 hp2 => ?_⟩
      have s7 : Same (upd H5 p1 (.lst (cutV (strsV ws) none (some 40)))) (upd (upd H5 p1 (.lst (cutV (strsV ws) none (some 40)))) p2 (.lst (cutV (strsV ws) (some (-40)) none))) := same_upd hp2
      refine ⟨p1, p2, _, _, rfl, rfl, s7 _ _ upd_same, upd_same, ?_, fun p3 hp3 => ?_⟩
      · have l1 := cutV_length (strsV ws) none (some 40)
        have l2 := cutV_length (strsV ws) (some (-40)) none
        rw [svl] at l1 l2
        omega
      have e3 : cutV (strsV ws) none (some 40) ++ cutV (strsV ws) (some (-40)) none = strsV (ms1 ++ ms2) := by
        show cutV (ws.map fun u => V.str (S u)) none (some 40) ++ cutV (ws.map fun u => V.str (S u)) (some (-40)) none = (ms1 ++ ms2).map fun u => V.str (S u)
        rw [em1, em2, List.map_append]
      have mm3 : ∀ u ∈ ms1 ++ ms2, Low u ∧ u.length = n := fun u hu => by
        rcases List.mem_append.mp hu with h | h
        · exact mem u (mm1 u h)
        · exact mem u (mm2 u h)
      have el3 : (ms1 ++ ms2).length ≤ 2 * 4 ^ 7 := by
        rw [List.length_append]
        omega
      rw [e3]
      generalize ms1 ++ ms2 = ms at mm3 el3
      have hS8 : ∀ H8, Same (upd (upd (upd H5 p1 (.lst (cutV (strsV ws) none (some 40)))) p2 (.lst (cutV (strsV ws) (some (-40)) none))) p3 (.lst (strsV ms))) H8 → SqL K H8 p3 (strsV ms) := fun H8 s8 => .inl (.inl (s8 _ _ upd_same))
      have s8 := s6.trans (s7.trans (same_upd (o := .lst (strsV ms)) hp3))
      generalize (upd (upd (upd H5 p1 (.lst (cutV (strsV ws) none (some 40)))) p2 (.lst (cutV (strsV ws) (some (-40)) none))) p3 (.lst (strsV ms))) = H6 at hS8 s8
      refine ⟨p3, rfl, ⟨_, hS8 _ (Same.refl _)⟩, fun D2 hD2 => ?_⟩
      refine lc_list (K := K) (a := p3) (xs := strsV ms) (fun i H7 => Same H6 H7 ∧ H7 D2 = some (.lst ((List.replicate i true).map V.bl))) ⟨same_upd hD2, upd_same⟩ (fun i H7 _ z => hS8 _ z.1) ?_ ?_
      · rintro i x H7 hx ⟨t1, t2⟩
        obtain ⟨u, hu, rfl⟩ := sv_at hx
        obtain ⟨hlo, hul⟩ := mm3 u (List.mem_of_getElem? hu)
        have hil : i < ms.length := (List.getElem?_eq_some_iff.mp hu).1
        have hne : u ≠ [] := fun z => by
          rw [z] at hul
          exact absurd hul (by show ¬ 0 = n; omega)
        refine ⟨rfl, _, rfl, u, rfl, by omega, hlo, hne, fun r1 H8 hr1' s9 h8 => ?_⟩
        refine ⟨_, rfl, u, rfl, by omega, hne, fun r2 H9 hr2' s10 h9 => ?_⟩
        refine ⟨_, _, rfl, Eqv.tup (.inl (.inl (s10 _ _ h8))) (.inl (.inl (by rw [h9, root_eq u hne]))) (by show 2 ≤ 100000; decide) (rootV_flat _), fun H10 s11 => ?_⟩
        refine ⟨_, s11 _ _ (s10 _ _ (s9 _ _ t2)), ?_, fun c o e => ?_, ?_⟩
        · rw [List.length_map, List.length_replicate]
          omega
        · rw [upd_ne (ne_of_none e hD2)]
          exact s11 _ _ (s10 _ _ (s9 _ _ (t1 c o e)))
        · rw [upd_same, List.replicate_succ', List.map_append]
          rfl
      · rintro H7 ⟨t1, t2⟩
        refine ⟨D2, _, rfl, .inl (.inl t2), ?_⟩
        rw [show (List.replicate (strsV ms).length true).all id = true by simp]
        exact q H7 (sm1.trans (s15.trans (s8.trans t1)))
/-! ### great numbers of signs -/
theorem sc_great : FnScope ["signs", "length", "due", "late", "less"] ["signs", "length"] (defScope st__law_great_right) := ⟨rfl, rfl, rfl, by decide +kernel, rfl, by decide +kernel, by decide +kernel⟩
def spGreat : Sp := fun vs H Q _ => ∃ (s : Int) (n : Nat), vs = [.int s, .int (n : Int)] ∧ 1 ≤ s ∧ s.natAbs < 2 ^ 100 ∧ 1 ≤ n ∧ n ≤ 1000 ∧ ∀ H', Same H H' → Q (.bl true) H'
end
end K4
set_option Elab.async false
set_option linter.all false
set_option maxRecDepth 100000
set_option maxHeartbeats 4000000
namespace K4
open PySem PySem.Spec PyProof.Rows L2 K4M
theorem divs_take (n : Nat) : ∀ (m i d : Nat), (divs n m)[i]? = some d → (divs n m).take i = divs n (d - 1) ∧ n % d = 0 ∧ 0 < d ∧ d ≤ m
  | 0, i, d, h => by
    have : divs n 0 = [] := rfl
    rw [this] at h
    cases h
  | m + 1, i, d, h => by
    by_cases hm : n % (m + 1) = 0
    · rw [divs_succ_of hm] at h ⊢
      by_cases hi : i < (divs n m).length
      · rw [List.getElem?_append_left hi] at h
        obtain ⟨h1, h2, h3, h4⟩ := divs_take n m i d h
        refine ⟨?_, h2, h3, by omega⟩
        rw [List.take_append_of_le_length (by omega), h1]
      · rw [List.getElem?_append_right (by omega)] at h
        have hz : i - (divs n m).length = 0 := by
          cases e : i - (divs n m).length with
          | zero => rfl
          | succ k => rw [e] at h; cases h
        rw [hz] at h
        cases h
        refine ⟨?_, hm, by omega, by omega⟩
        rw [List.take_append_of_le_length (by omega), List.take_of_length_le (by omega)]
        rfl
    · rw [divs_succ_not hm] at h ⊢
      obtain ⟨h1, h2, h3, h4⟩ := divs_take n m i d h
      exact ⟨h1, h2, h3, by omega⟩
section
variable {P : Program} {w : World} {K : PySem.W.Frag} {mg : Str → Option Value} {base : Heap}
theorem ok_great (B : Bi mg) (D : Df K mg "_law_great_right" st__law_great_right ["signs", "length"]) (CD : Cal P w K mg base 1 "_law_divisors" ["number"] spDivs) (CW : Cal P w K mg base 1 "_law_power" ["base", "many"] spPow)
    (CE0 : Cal P w K mg base 1 "_law_exact" ["mine", "theirs"] (spExact K 0)) (CP : Cal P w K mg base 4 "many_primitives" ["signs", "length"] spPrims) : FnOk P w K mg base CX0 5 D.f D.fd ["signs", "length"] spGreat := by
  refine D.F.ok sc_great (fun vs H Q E h => ?_) (fun cdv A outer s' H vs Q E hr h => ?_)
  · obtain ⟨s, n, rfl, _⟩ := h
    rfl
  · obtain ⟨s, n, rfl, hs1, hs2, hn1, hn2, q⟩ := h
    have hr1 : Room 1 _ := hr.mono (by decide)
    have hu := hu_of hr
    refine ⟨_, pss_cons (ps_set (i := 2) sc_great.nd rfl (.inr rfl) pe_dnewK)
      (pss_cons (ps_for PassesOwn.never rfl (pi_list (pcall CD hr1 (by rfl) (pa_cons (pv 1) pa_nil))) (pg_name (i := 3) sc_great.nd rfl (.inr rfl))
        (pss_one (ps_dput hu (pv 2) (pv 3) (pe_op op_sub (pcall CW hr1 (by rfl) (pa_cons (pv 0) (pa_cons (pv 3) pa_nil))) (pe_callB (cr_sum rfl) (by rfl) B.sum (by decide +kernel) (pa_cons (pe_lock (pe_lc (own := [("less", 4)]) (g := gName 4) rfl sc_great.nd (pi_keys (pv 2))
          (blkOk_by (N := ["signs", "length", "due", "late", "less"]) (sc := defScope st__law_great_right) (by decide +kernel))
          (fun _ _ _ _ _ => pg_name (i := 4) sc_great.nd rfl (.inl rfl))
          (fun _ _ _ _ _ => pts_one (pt_cmpR op_eq (pe_op op_mod (pe_callTy call_int1 (by rfl) B.int (by decide +kernel) (pa_cons (pv 3) pa_nil)) (pv 4)) pe_int (nomark _)))
          (fun _ _ _ _ _ => pe_dget hu (pv 2) (pv 4) (fun _ _ => rfl)))) pa_nil))) rfl)))
      (pss_one (ps_ret (pe_callB (cr_all rfl) (by rfl) B.all (by decide +kernel) (pa_cons (pe_lock (pe_lc (own := [("late", 3)]) (g := gName 3) (tt := tYes) rfl sc_great.nd (pi_keys (pv 2))
          (blkOk_by (N := ["signs", "length", "due", "late", "less"]) (sc := defScope st__law_great_right) (by decide +kernel))
          (fun _ _ _ _ _ => pg_name (i := 3) sc_great.nd rfl (.inl rfl))
          (fun _ _ _ _ _ => pts_nil)
          (fun _ _ _ _ _ => pcall CE0 hr1 (by rfl) (pa_cons (pcall CP hr (by rfl) (pa_cons (pv 0) (pa_cons (pv 3) pa_nil))) (pa_cons (pe_dget hu (pv 2) (pv 3) (fun _ _ => rfl)) pa_nil))))) pa_nil))))), ?_⟩
    have e16 : sizeLine = 16777216 := by decide
    intro d hd
    refine ⟨_, rfl, n, rfl, by omega, fun L H1 hL sm1 hLs => ?_⟩
    have hd1 : H1 d = some (.dK []) := sm1 _ _ upd_same
    have hLd : L ≠ d := fun z => by
      rw [z, hd1] at hLs
      cases hLs
    have smH : Same H H1 := (same_upd hd).trans sm1
    have nvl : (natsV (divs n n)).length = (divs n n).length := List.length_map _
    refine ⟨L, rfl, ⟨_, .inl (.inl hLs)⟩, ?_⟩
    refine for_list (K := K) (a := L) (xs := natsV (divs n n)) (fun i σ H2 => ∃ y3 : Option V, σ = [some (.int s), some (.int n), some (.ref d), y3, none] ∧ H2 d = some (.dK (tabl s ((divs n n).take i))) ∧ ∀ b o, b ≠ d → H1 b = some o → H2 b = some o)
      ⟨none, rfl, hd1, fun _ _ _ z => z⟩ (fun i σ H2 _ ⟨_, _, _, kp⟩ => .inl (.inl (kp _ _ hLd hLs))) ?_ ?_
    · rintro i x σ H2 hx ⟨y3, rfl, hd2, kp⟩
      unfold natsV at hx
      rw [List.getElem?_map] at hx
      obtain ⟨e, he, rfl⟩ : ∃ e : Nat, (divs n n)[i]? = some e ∧ x = V.int (e : Int) := by
        cases q : (divs n n)[i]? with
        | none => rw [q] at hx; cases hx
        | some e => rw [q] at hx; exact ⟨e, rfl, (Option.some.inj hx).symm⟩
      obtain ⟨et, em, e0, en⟩ := divs_take n n i e he
      obtain ⟨e', rfl⟩ : ∃ e', e = e' + 1 := ⟨e - 1, by omega⟩
      rw [Nat.add_sub_cancel] at et
      rw [et] at hd2
      refine ⟨_, rfl, _, rfl, s, e' + 1, rfl, hs2, by omega, ?_⟩
      refine ⟨d, _, hd2, True.intro, fun od => ?_⟩
      refine ⟨_, rfl, d, od, rfl, .inl ⟨_, upd_same, fun DD hDD => ?_⟩⟩
      have hne : DD ≠ d := fun z => by
        rw [z, upd_same] at hDD
        cases hDD
      rw [upd_ne hne] at hDD
      refine lc_keys (d := d) (o := od) (kvs := tabl s (divs n e')) (fun j H3 => H3 d = some (.frz od (.dK (tabl s (divs n e')))) ∧ (∀ b o, H2 b = some o → b ≠ d → H3 b = some o) ∧ H3 DD = some (.lst (numsV ((((divs n e').take j).filter (fun c => (e' + 1) % c == 0)).map (prims s)))))
        ⟨by rw [upd_ne hne.symm, upd_same], fun b o eb hb => by rw [upd_ne (ne_of_none eb hDD), upd_ne hb]; exact eb, by rw [upd_same]; rfl⟩ (fun j H3 z => z.1) ?_ ?_
      · rintro j k v H3 hj ⟨k1, k2, k3⟩
        obtain ⟨c, hc, rfl, rfl⟩ := tabl_at hj
        have hmem := List.mem_of_getElem? hc
        have h0 := divs_mem.mp hmem
        refine ⟨rfl, _, rfl, .inl ⟨_, rfl, _, rfl, _, _, rfl, rfl, by show (0 : Int) < (c : Int); omega, rfl, ?_⟩⟩
        rw [dec_int, int_mod_beq]
        refine ⟨_, rfl, ?_⟩
        cases hb : ((e' + 1) % c == 0) with
        | true =>
          refine iteT ?_
          refine ⟨_, rfl, _, rfl, d, _, rfl, .inl ⟨_, Sum.inl (c : Int), .inr ⟨od, k1⟩, rfl, (tabl_get s hmem).symm⟩, ?_⟩
          refine ⟨_, k3, ?_, ?_, fun b o eb hb' => ?_, ?_⟩
          · unfold numsV
            rw [List.length_map, List.length_map]
            have l1 := List.length_filter_le (fun c => (e' + 1) % c == 0) ((divs n e').take j)
            have l3 := divs_len n e'
            have l4 : ((divs n e').take j).length ≤ (divs n e').length := by
              rw [List.length_take]
              omega
            omega
          · rw [upd_ne hne.symm]
            exact k1
          · rw [upd_ne (ne_of_none eb hDD)]
            exact k2 b o eb hb'
          · rw [upd_same, filter_take hc, hb]
            unfold numsV
            rw [List.map_append, List.map_append]
            rfl
        | false =>
          refine iteF ⟨k1, k2, ?_⟩
          rw [k3, filter_take hc, hb]
          simp
      · rintro H3 ⟨k1, k2, k3⟩
        refine ⟨k1, ?_⟩
        rw [tabl_len, List.take_length, divs_filter em] at k3
        refine ⟨DD, _, rfl, .inl (.inl (by rw [upd_ne hne]; exact k3)), _, _, rfl, rfl, ?_⟩
        have hnm : ¬ (e' + 1) ∈ divs n e' := fun z => by
          have := divs_mem.mp z
          omega
        have ep : s ^ (e' + 1) - ((divs (e' + 1) e').map (prims s)).sum = prims s (e' + 1) := (prims_eq s (e' + 1) (by omega)).symm
        refine ⟨_, rfl, _, rfl, d, _, rfl, .inl ⟨_, Sum.inl ((e' + 1 : Nat) : Int), upd_same, rfl, by rw [tabl_len]; have := divs_len n e'; omega, rfl⟩, ?_⟩
        refine ⟨some (.int ((e' + 1 : Nat) : Int)), rfl, ?_, fun b o hb eb => ?_⟩
        · rw [upd_same]
          show some (HO.dK (putK (tabl s (divs n e')) (Sum.inl ((e' + 1 : Nat) : Int)) (V.int (s ^ (e' + 1) - ((divs (e' + 1) e').map (prims s)).sum)))) = _
          rw [ep, tabl_put s hnm, List.take_add_one, he, et]
          rfl
        · rw [upd_ne hb, upd_ne hb]
          exact k2 b o (kp b o hb eb) hb
    · rintro σ H2 ⟨y3, rfl, hd2, kp⟩
      rw [nvl, List.take_length] at hd2
      refine ⟨d, _, hd2, True.intro, fun od => ?_⟩
      refine ⟨_, rfl, d, od, rfl, .inl ⟨_, upd_same, fun DD hDD => ?_⟩⟩
      have hne : DD ≠ d := fun z => by
        rw [z, upd_same] at hDD
        cases hDD
      rw [upd_ne hne] at hDD
      refine lc_keys (d := d) (o := od) (kvs := tabl s (divs n n)) (fun j H3 => H3 d = some (.frz od (.dK (tabl s (divs n n)))) ∧ (∀ b o, H2 b = some o → b ≠ d → H3 b = some o) ∧ H3 DD = some (.lst ((List.replicate j true).map V.bl)))
        ⟨by rw [upd_ne hne.symm, upd_same], fun b o eb hb => by rw [upd_ne (ne_of_none eb hDD), upd_ne hb]; exact eb, upd_same⟩ (fun j H3 z => z.1) ?_ ?_
      · rintro j k v H3 hj ⟨k1, k2, k3⟩
        obtain ⟨c, hc, rfl, rfl⟩ := tabl_at hj
        have hmem := List.mem_of_getElem? hc
        have h0 := divs_mem.mp hmem
        have hjl : j < (divs n n).length := (List.getElem?_eq_some_iff.mp hc).1
        have hdl := divs_len n n
        refine ⟨rfl, _, rfl, _, rfl, s, c, rfl, hs1, hs2, h0.1, by omega, fun H4 s4 => ?_⟩
        refine ⟨_, rfl, _, rfl, d, _, rfl, .inl ⟨_, Sum.inl (c : Int), .inr ⟨od, s4 _ _ k1⟩, rfl, (tabl_get s hmem).symm⟩, ?_⟩
        refine ⟨_, _, rfl, ⟨rfl, True.intro⟩, fun H5 s5 => ?_⟩
        refine ⟨_, s5 _ _ (s4 _ _ k3), ?_, ?_, fun b o eb hb' => ?_, ?_⟩
        · rw [List.length_map, List.length_replicate]
          omega
        · rw [upd_ne hne.symm]
          exact s5 _ _ (s4 _ _ k1)
        · rw [upd_ne (ne_of_none eb hDD)]
          exact s5 _ _ (s4 _ _ (k2 b o eb hb'))
        · rw [upd_same, List.replicate_succ', List.map_append]
          rfl
      · rintro H3 ⟨k1, k2, k3⟩
        refine ⟨k1, DD, _, rfl, .inl (.inl (by rw [upd_ne hne]; exact k3)), ?_⟩
        rw [show (List.replicate (tabl s (divs n n)).length true).all id = true by simp]
        refine q _ fun b o eb => ?_
        have hb : b ≠ d := ne_of_none eb hd
        rw [upd_ne hb]
        exact k2 b o (kp b o hb (smH b o eb)) hb
end
end K4
set_option Elab.async false
set_option linter.all false
set_option maxRecDepth 100000
set_option maxHeartbeats 4000000
namespace K4
open PySem PySem.Spec PyProof.Rows L2 K4M
theorem cnt_small {k n : Nat} (h1 : 1 ≤ k) (h2 : k ≤ 3) (h3 : 1 ≤ n) (h4 : n ≤ 6) : ((countP k n : Nat) : Int) = prims k n := by
  have h := List.all_eq_true.mp count_small k (List.mem_range'_1.mpr ⟨h1, by omega⟩)
  have h' := List.all_eq_true.mp h n (List.mem_range'_1.mpr ⟨h3, by omega⟩)
  exact beq_iff_eq.mp h'
theorem cnt_four {n : Nat} (h3 : 1 ≤ n) (h4 : n ≤ 4) : ((countP 4 n : Nat) : Int) = prims 4 n :=
  beq_iff_eq.mp (List.all_eq_true.mp count_four n (List.mem_range'_1.mpr ⟨h3, by omega⟩))
theorem cnt_two {n : Nat} (h3 : 6 ≤ n) (h4 : n ≤ 7) : ((countP 2 n : Nat) : Int) = prims 2 n :=
  beq_iff_eq.mp (List.all_eq_true.mp count_two n (List.mem_range'_1.mpr ⟨h3, by omega⟩))
/-- what a prime of the law's has -/
structure Pr (v : Nat) : Prop where
  lo : 2 ≤ v
  hi : v ≤ 7
  d1 : divs v (v - 1) = [1]
  d2 : divs (v * v) (v * v - 1) = [1, v]
theorem pr_of {v : Nat} (h : v = 2 ∨ v = 3 ∨ v = 5 ∨ v = 7) : Pr v := by
  rcases h with rfl | rfl | rfl | rfl <;> exact ⟨by decide, by decide, by decide +kernel, by decide +kernel⟩
theorem told_eq (s : Int) {v : Nat} (h : Pr v) : [V.int (prims s 1), V.int (prims s v), V.int (prims s (v * v))] = [V.int s, V.int (s ^ v - s), V.int (s ^ (v * v) - s ^ v)] := by
  have hl := h.lo
  rw [prims_one, prims_prime s (by omega) h.d1, prims_square s (by omega) h.d1 h.d2]
section
variable {P : Program} {w : World} {K : PySem.W.Frag} {mg : Str → Option Value} {base : Heap}
theorem sc_law : FnScope ["script", "dice", "signs", "length", "many", "prime", "told"] ["script"] (defScope st_law) := ⟨rfl, rfl, rfl, by decide +kernel, rfl, by decide +kernel, by decide +kernel⟩
def spLaw (K : PySem.W.Frag) : Sp := fun vs H Q _ => ∃ (a : Addr) (ns : List Int), vs = [.ref a] ∧ SqL K H a (ns.map V.int) ∧ ns.length ≤ 63 ∧ ∀ H', Q (.bl true) H'
theorem ok_law (B : Bi mg) (D : Df K mg "law" st_law ["script"]) (CDs : Cal P w K mg base 2 "_law_dices" ["script", "few"] (spDices K)) (CDr : Cal P w K mg base 2 "_law_draw" ["dice", "many"] spDraw)
    (CO : Cal P w K mg base 3 "_law_one_of" ["dice", "some"] (spOne K)) (CS : Cal P w K mg base 7 "_law_small_right" ["signs", "length"] spSmall) (CG : Cal P w K mg base 5 "_law_great_right" ["signs", "length"] spGreat)
    (CP : Cal P w K mg base 4 "many_primitives" ["signs", "length"] spPrims) (CW : Cal P w K mg base 1 "_law_power" ["base", "many"] spPow) (CE1 : Cal P w K mg base 2 "_law_exact" ["mine", "theirs"] (spExact K 1)) :
    FnOk P w K mg base CX0 8 D.f D.fd ["script"] (spLaw K) := by
  refine D.F.ok sc_law (fun vs H Q E h => ?_) (fun cdv A outer s' H vs Q E hr h => ?_)
  · obtain ⟨a, ns, rfl, _⟩ := h
    rfl
  · obtain ⟨a, ns, rfl, hS, hlen, q⟩ := h
    have r1 : Room 1 _ := hr.mono (by decide)
    have r2 : Room 2 _ := hr.mono (by decide)
    have r3 : Room 3 _ := hr.mono (by decide)
    have r4 : Room 4 _ := hr.mono (by decide)
    have r5 : Room 5 _ := hr.mono (by decide)
    refine ⟨_, pss_cons (ps_for PassesOwn.never rfl (pi_list (pcall CDs r2 (by rfl) (pa_cons (pv 0) (pa_cons pe_int pa_nil)))) (pg_name (i := 1) sc_law.nd rfl (.inl rfl)) (pss_cons (ps_par (i := 2) (j := 3) (by rfl) sc_law.nd rfl rfl (by decide) rfl rfl (pa_cons (pe_op op_add pe_int (pcall CDr r2 (by rfl) (pa_cons (pv 1) (pa_cons pe_int pa_nil)))) (pa_cons (pe_op op_add pe_int (pcall CDr r2 (by rfl) (pa_cons (pv 1) (pa_cons pe_int pa_nil)))) pa_nil)) (by rfl)) (pss_cons (ps_if (PW.pt (pw_or (pt_not (pt_val (pcall CS hr (by rfl) (pa_cons (pv 2) (pa_cons (pv 3) pa_nil))))) (pw_or (pt_not (pt_val (pcall CS hr (by rfl) (pa_cons pe_int (pa_cons (pe_op op_add pe_int (pcall CDr r2 (by rfl) (pa_cons (pv 1) (pa_cons pe_int pa_nil)))) pa_nil))))) (pw_or1 (pt_not (pt_val (pcall CS hr (by rfl) (pa_cons pe_int (pa_cons (pe_op op_add pe_int (pcall CDr r2 (by rfl) (pa_cons (pv 1) (pa_cons pe_int pa_nil)))) pa_nil))))))))) pss_never pss_nil) (pss_one (ps_for PassesOwn.never rfl (pi_tup (pe_tup (pa_cons (pe_op op_add pe_int (pcall CDr r2 (by rfl) (pa_cons (pv 1) (pa_cons pe_int pa_nil)))) (pa_cons (pe_op op_add (pe_op op_pow pe_int pe_int) (pcall CDr r2 (by rfl) (pa_cons (pv 1) (pa_cons (pe_op op_pow pe_int pe_int) pa_nil)))) pa_nil)))) (pg_name (i := 4) sc_law.nd rfl (.inl rfl)) (pss_cons (ps_if (PW.pt (pw_or (pt_not (pt_val (pcall CG r5 (by rfl) (pa_cons (pv 4) (pa_cons (pe_op op_add pe_int (pcall CDr r2 (by rfl) (pa_cons (pv 1) (pa_cons pe_int pa_nil)))) pa_nil))))) (pw_or1 (pt_not (pt_val (pcall CG r5 (by rfl) (pa_cons (pv 4) (pa_cons (pcall CO r3 (by rfl) (pa_cons (pv 1) (pa_cons (pe_lst (pa_cons pe_int (pa_cons pe_int (pa_cons pe_int (pa_cons pe_int (pa_cons pe_int pa_nil)))))) pa_nil))) pa_nil)))))))) pss_never pss_nil) (pss_cons (ps_set (i := 5) sc_law.nd rfl (.inl rfl) (pcall CO r3 (by rfl) (pa_cons (pv 1) (pa_cons (pe_lst (pa_cons pe_int (pa_cons pe_int (pa_cons pe_int (pa_cons pe_int pa_nil))))) pa_nil)))) (pss_cons (ps_set (i := 6) sc_law.nd rfl (.inl rfl) (pe_lst (pa_cons (pcall CP r4 (by rfl) (pa_cons (pv 4) (pa_cons pe_int pa_nil))) (pa_cons (pcall CP r4 (by rfl) (pa_cons (pv 4) (pa_cons (pv 5) pa_nil))) (pa_cons (pcall CP r4 (by rfl) (pa_cons (pv 4) (pa_cons (pe_op op_mul (pv 5) (pv 5)) pa_nil))) pa_nil))))) (pss_one (ps_if (pt_not (pt_val (pcall CE1 r2 (by rfl) (pa_cons (pv 6) (pa_cons (pe_lst (pa_cons (pv 4) (pa_cons (pe_op op_sub (pcall CW r1 (by rfl) (pa_cons (pv 4) (pa_cons (pv 5) pa_nil))) (pv 4)) (pa_cons (pe_op op_sub (pcall CW r1 (by rfl) (pa_cons (pv 4) (pa_cons (pe_op op_mul (pv 5) (pv 5)) pa_nil))) (pcall CW r1 (by rfl) (pa_cons (pv 4) (pa_cons (pv 5) pa_nil)))) pa_nil)))) pa_nil))))) pss_never pss_nil)))))))))) (pss_one (ps_ret (pcall CE1 r2 (by rfl) (pa_cons (pe_lst (pa_cons (pcall CP r4 (by rfl) (pa_cons pe_int (pa_cons pe_int pa_nil))) (pa_cons (pcall CP r4 (by rfl) (pa_cons pe_int (pa_cons pe_int pa_nil))) (pa_cons (pcall CP r4 (by rfl) (pa_cons pe_int (pa_cons pe_int pa_nil))) pa_nil)))) (pa_cons (pe_lst (pa_cons pe_int (pa_cons pe_int (pa_cons pe_int pa_nil)))) pa_nil))))), ?_⟩
    have e16 : sizeLine = 16777216 := by decide
    refine ⟨_, rfl, a, ns, 1, rfl, hS, by decide, fun L ds H1 hL sm1 hLs hdl hds hnd => ?_⟩
    have hS1 : SqL K H1 L (ds.map V.ref) := .inl (.inl hLs)
    refine ⟨L, rfl, ⟨_, hS1⟩, ?_⟩
    have neL : ∀ d, d ∈ ds → L ≠ d := fun d hd z => by
      obtain ⟨⟨b1, b2, b3, b4, e, _⟩, _⟩ := hds d hd
      rw [← z, hLs] at e
      cases ds with
      | nil => cases hd
      | cons _ _ => simp at e
    refine for_list (K := K) (a := L) (xs := ds.map V.ref) (fun i σ H2 => ∃ y1 y2 y3 y4 y5 y6 : Option V, σ = [some (.ref a), y1, y2, y3, y4, y5, y6] ∧ H2 L = some (.lst (ds.map V.ref)) ∧ ∀ j d, i ≤ j → ds[j]? = some d → Dice H2 d 0)
      ⟨none, none, none, none, none, none, rfl, hLs, fun j d _ hj => (hds d (List.mem_of_getElem? hj)).1⟩ (fun i σ H2 _ ⟨_, _, _, _, _, _, _, z, _⟩ => .inl (.inl z)) ?_ ?_
    · rintro i x σ H2 hx ⟨y1, y2, y3, y4, y5, y6, rfl, hL2, hd2⟩
      rw [List.getElem?_map] at hx
      obtain ⟨d, hdi, rfl⟩ : ∃ d, ds[i]? = some d ∧ x = V.ref d := by
        cases e : ds[i]? with
        | none => rw [e] at hx; cases hx
        | some d => rw [e] at hx; exact ⟨d, rfl, (Option.some.inj hx).symm⟩
      have hdm := List.mem_of_getElem? hdi
      -- behind the turn
      have after : ∀ (σ : L2.St) (H9 : Hp), (∃ y1 y2 y3 y4 y5 y6 : Option V, σ = [some (.ref a), y1, y2, y3, y4, y5, y6]) → Kept H2 H9 d → (∃ y1 y2 y3 y4 y5 y6 : Option V, σ = [some (.ref a), y1, y2, y3, y4, y5, y6] ∧ H9 L = some (.lst (ds.map V.ref)) ∧ ∀ j d, i + 1 ≤ j → ds[j]? = some d → Dice H9 d 0) := fun σ H9 ⟨z1, z2, z3, z4, z5, z6, e⟩ kp => by
        refine ⟨z1, z2, z3, z4, z5, z6, e, kp _ _ (neL d hdm) hL2, fun j d' hj hjd => ?_⟩
        obtain ⟨b1, b2, b3, b4, e1, r⟩ := hd2 j d' (by omega) hjd
        refine ⟨b1, b2, b3, b4, kp _ _ (fun z => ?_) e1, r⟩
        have hj2 : j < ds.length := (List.getElem?_eq_some_iff.mp hjd).1
        have hi2 : i < ds.length := (List.getElem?_eq_some_iff.mp hdi).1
        have := (List.getElem?_inj hi2 hnd).mp (hdi.trans (hjd.trans (congrArg some z)).symm)
        omega
      have hD0 := hd2 i d (Nat.le_refl _) hdi
      -- signs, length
      refine ⟨_, rfl, d, 3, 0, rfl, hD0, by decide, by decide, by decide, fun g1 H3 g10 g11 hD1 k1 => ⟨_, _, rfl, rfl, ?_⟩⟩
      refine ⟨_, rfl, d, 6, 1, rfl, hD1, by decide, by decide, by decide, fun g2 H4 g20 g21 hD2 k2 => ⟨_, _, rfl, rfl, ?_⟩⟩
      have e1 : (1 + g1) = (((1 + g1).toNat : Nat) : Int) := by omega
      have e2 : (1 + g2) = (((1 + g2).toNat : Nat) : Int) := by omega
      refine ⟨_, _, rfl, ?_⟩
      refine ⟨_, rfl, _, rfl, (1 + g1).toNat, (1 + g2).toNat, by rw [← e1, ← e2]; rfl, by omega, by omega, by omega, by omega, cnt_small (by omega) (by omega) (by omega) (by omega), fun H5 s5 => ⟨_, rfl, iteF ?_⟩⟩
      refine ⟨_, rfl, d, 4, 2, rfl, Same.dice s5 hD2, by decide, by decide, by decide, fun g3 H6 g30 g31 hD3 k3 => ⟨_, _, rfl, rfl, ?_⟩⟩
      have e3 : (1 + g3) = (((1 + g3).toNat : Nat) : Int) := by omega
      refine ⟨4, (1 + g3).toNat, by rw [← e3]; rfl, by decide, by decide, by omega, by omega, cnt_four (by omega) (by omega), fun H7 s7 => ⟨_, rfl, iteF ?_⟩⟩
      refine ⟨_, rfl, d, 2, 3, rfl, Same.dice s7 hD3, by decide, by decide, by decide, fun g4 H8 g40 g41 hD4 k4 => ⟨_, _, rfl, rfl, ?_⟩⟩
      have e4 : (6 + g4) = (((6 + g4).toNat : Nat) : Int) := by omega
      refine ⟨2, (6 + g4).toNat, by rw [← e4]; rfl, by decide, by decide, by omega, by omega, cnt_two (by omega) (by omega), fun H9 s9 => ⟨_, rfl, iteF ?_⟩⟩
      -- the two great numbers
      refine ⟨_, rfl, d, 30, 4, rfl, Same.dice s9 hD4, by decide, by decide, by decide, fun g5 HA g50 g51 hD5 k5 => ⟨_, _, rfl, rfl, ?_⟩⟩
      refine ⟨_, _, rfl, rfl, ⟨by decide, by decide, by decide⟩, _, rfl, _, _, rfl, rfl, ⟨by decide, by decide, by decide⟩, d, _, 5, rfl, hD5, by decide, by decide +kernel, by decide +kernel, fun g6 HB g60 g61 hD6 k6 => ⟨_, _, rfl, rfl, by show 2 ≤ sizeLine; decide, fun T hT => ?_⟩⟩
      have g61' : g6 < 1000000 := g61
      have big : (10 : Int) ^ (29 : Int).toNat = 100000000000000000000000000000 := by decide +kernel
      have kAll : Kept H2 HB d := k1.trans (k2.trans ((Kept.of s5).trans (k3.trans ((Kept.of s7).trans (k4.trans ((Kept.of s9).trans (k5.trans k6)))))))
      have sT : Same HB (upd HB T (.tup [.int (2 + g5), .int ((10 : Int) ^ (29 : Int).toNat + g6)])) := same_upd hT
      have hTd : T ≠ d := fun z => by
        obtain ⟨o, ho⟩ := hD6.some
        rw [← z, hT] at ho
        cases ho
      refine ⟨T, rfl, ⟨_, .inl (.inl upd_same)⟩, ?_⟩
      have hDT := Same.dice sT hD6
      have hTT : (upd HB T (.tup [.int (2 + g5), .int ((10 : Int) ^ (29 : Int).toNat + g6)])) T = some (.tup [.int (2 + g5), .int ((10 : Int) ^ (29 : Int).toNat + g6)]) := upd_same
      have kT : Kept H2 (upd HB T (.tup [.int (2 + g5), .int ((10 : Int) ^ (29 : Int).toNat + g6)])) d := kAll.trans (Kept.of sT)
      have good : ∀ (j : Nat) (x : V), [V.int (2 + g5), V.int ((10 : Int) ^ (29 : Int).toNat + g6)][j]? = some x → ∃ s : Int, x = .int s ∧ 1 ≤ s ∧ s.natAbs < 2 ^ 100 := fun j x hj => by
        have hm := List.mem_of_getElem? hj
        rcases List.mem_cons.mp hm with rfl | hm
        · exact ⟨_, rfl, by omega, by omega⟩
        · rw [List.mem_singleton.mp hm, big]
          exact ⟨_, rfl, by omega, by omega⟩
      generalize hxs : [V.int (2 + g5), V.int ((10 : Int) ^ (29 : Int).toNat + g6)] = xs at hTT good hDT kT sT
      have hxl : xs.length = 2 := by rw [← hxs]; rfl
      generalize upd HB T (.tup xs) = HC at hTT hDT kT sT
      refine for_tup (K := K) (a := T) (xs := xs) (fun j σ H3 => ∃ z2 z3 z4 z5 z6 : Option V, σ = [some (.ref a), some (.ref d), z2, z3, z4, z5, z6] ∧ Dice H3 d (6 + 3 * j) ∧ Kept HC H3 d)
        ⟨_, _, _, _, _, rfl, hDT, fun _ _ _ z => z⟩ (fun j σ H3 _ ⟨_, _, _, _, _, _, _, z⟩ => .inl (.inl (z _ _ hTd hTT))) ?_ ?_
      · rintro j x σ H3 hj ⟨z2, z3, z4, z5, z6, rfl, hD, kp⟩
        have hj2 : j < 2 := by
          rw [← hxl]
          exact (List.getElem?_eq_some_iff.mp hj).1
        obtain ⟨s, rfl, hs1, hs2⟩ := good j x hj
        refine ⟨_, rfl, _, rfl, d, 60, 6 + 3 * j, rfl, hD, by omega, by decide, by decide, fun f1 H4 f10 f11 hE1 l1 => ⟨_, _, rfl, rfl, ?_⟩⟩
        have e1 : (1 + f1) = (((1 + f1).toNat : Nat) : Int) := by omega
        refine ⟨s, (1 + f1).toNat, by rw [← e1]; rfl, hs1, hs2, by omega, by omega, fun H5 s5 => ⟨_, rfl, iteF ?_⟩⟩
        have hE5 := Same.dice s5 hE1
        refine ⟨_, rfl, _, rfl, by show 5 ≤ sizeLine; decide, fun p1 hp1 => ?_⟩
        have hp1d : p1 ≠ d := fun z => by
          obtain ⟨o, ho⟩ := hE5.some
          rw [← z, hp1] at ho
          cases ho
        refine ⟨d, p1, 6 + 3 * j + 1, _, rfl, Same.dice (same_upd hp1) hE5, by omega, hp1d, .inl (.inl upd_same), by show 0 < 5; decide, by show 5 < 100000; decide, fun m y H6 hm hE2 l2 => ?_⟩
        obtain ⟨v, rfl, hv1, hv2⟩ : ∃ v : Nat, y = .int (v : Int) ∧ 1 ≤ v ∧ v ≤ 1000 := by
          have hm := List.mem_of_getElem? hm
          rcases List.mem_cons.mp hm with rfl | hm
          · exact ⟨12, rfl, by decide, by decide⟩
          rcases List.mem_cons.mp hm with rfl | hm
          · exact ⟨24, rfl, by decide, by decide⟩
          rcases List.mem_cons.mp hm with rfl | hm
          · exact ⟨36, rfl, by decide, by decide⟩
          rcases List.mem_cons.mp hm with rfl | hm
          · exact ⟨60, rfl, by decide, by decide⟩
          rw [List.mem_singleton.mp hm]
          exact ⟨120, rfl, by decide, by decide⟩
        refine ⟨s, v, rfl, hs1, hs2, hv1, hv2, fun H7 s7 => ⟨_, rfl, iteF ?_⟩⟩
        have hE7 := Same.dice s7 hE2
        refine ⟨_, rfl, by show 4 ≤ sizeLine; decide, fun p2 hp2 => ?_⟩
        have hp2d : p2 ≠ d := fun z => by
          obtain ⟨o, ho⟩ := hE7.some
          rw [← z, hp2] at ho
          cases ho
        refine ⟨d, p2, 6 + 3 * j + 2, _, rfl, Same.dice (same_upd hp2) hE7, by omega, hp2d, .inl (.inl upd_same), by show 0 < 4; decide, by show 4 < 100000; decide, fun m y H8 hm hE3 l3 => ?_⟩
        obtain ⟨pr, rfl, hpr⟩ : ∃ v : Nat, y = .int (v : Int) ∧ Pr v := by
          have hm := List.mem_of_getElem? hm
          rcases List.mem_cons.mp hm with rfl | hm
          · exact ⟨2, rfl, pr_of (by decide)⟩
          rcases List.mem_cons.mp hm with rfl | hm
          · exact ⟨3, rfl, pr_of (by decide)⟩
          rcases List.mem_cons.mp hm with rfl | hm
          · exact ⟨5, rfl, pr_of (by decide)⟩
          rw [List.mem_singleton.mp hm]
          exact ⟨7, rfl, pr_of (by decide)⟩
        have h2 := hpr.lo
        have h7 := hpr.hi
        have hsq : pr * pr ≤ 7 * 7 := Nat.mul_le_mul h7 h7
        have hsq0 : 0 < pr * pr := Nat.mul_pos (by omega) (by omega)
        have esq : ((pr : Int) * (pr : Int)) = ((pr * pr : Nat) : Int) := (Int.natCast_mul pr pr).symm
        refine ⟨_, rfl, s, 1, rfl, hs1, hs2, by decide, by decide, fun Ha sa => ?_⟩
        refine ⟨_, rfl, _, rfl, s, pr, rfl, hs1, hs2, by omega, by omega, fun Hb sb => ?_⟩
        refine ⟨_, rfl, _, rfl, _, rfl, _, _, rfl, rfl, .inl ⟨by omega, by omega⟩, s, pr * pr, by rw [← esq]; rfl, hs1, hs2, by omega, by omega, fun Hc sc => ?_⟩
        refine ⟨by show 3 ≤ sizeLine; decide, fun p3 hp3 => ?_⟩
        refine ⟨_, rfl, _, rfl, _, rfl, _, rfl, s, pr, rfl, hs2, by omega, _, rfl, _, _, rfl, rfl, ?_⟩
        refine ⟨_, rfl, _, rfl, _, rfl, _, _, rfl, rfl, .inl ⟨by omega, by omega⟩, s, pr * pr, by rw [← esq]; rfl, hs2, by omega, _, rfl, _, rfl, s, pr, rfl, hs2, by omega, _, _, rfl, rfl, by show 3 ≤ sizeLine; decide, fun p4 hp4 => ?_⟩
        have s3 : Same Hc (upd Hc p3 (.lst [V.int (prims s 1), V.int (prims s pr), V.int (prims s (pr * pr))])) := same_upd hp3
        refine ⟨_, _, rfl, Eqv.list (xs := [V.int s, V.int (s ^ pr - s), V.int (s ^ (pr * pr) - s ^ pr)]) (.inl (.inl ?_)) (.inl (.inl upd_same)) (by show 3 ≤ 100000; decide) (ints_flat [s, s ^ pr - s, s ^ (pr * pr) - s ^ pr]), fun Hd sd => ⟨_, rfl, iteF ?_⟩⟩
        · rw [upd_ne (fun z => by rw [z] at hp4; rw [upd_same] at hp4; cases hp4), upd_same, told_eq s hpr]
        refine ⟨_, _, _, _, _, rfl, ?_, ?_⟩
        · exact (Same.dice (sa.trans (sb.trans (sc.trans (s3.trans ((same_upd hp4).trans sd))))) hE3).more (by omega)
        · exact kp.trans (l1.trans ((Kept.of s5).trans ((Kept.of (same_upd hp1)).trans (l2.trans ((Kept.of s7).trans ((Kept.of (same_upd hp2)).trans (l3.trans (Kept.of (sa.trans (sb.trans (sc.trans (s3.trans ((same_upd hp4).trans sd)))))))))))))
      · rintro σ H3 ⟨z2, z3, z4, z5, z6, rfl, hD, kp⟩
        exact after _ _ ⟨_, _, _, _, _, _, rfl⟩ (kT.trans kp)
    · rintro σ H2 ⟨y1, y2, y3, y4, y5, y6, rfl, hL2, hd2⟩
      refine ⟨1, 1, rfl, by decide, by decide, by decide, by decide, fun Ha sa => ?_⟩
      refine ⟨1, 12, rfl, by decide, by decide, by decide, by decide, fun Hb sb => ?_⟩
      refine ⟨2, 4, rfl, by decide, by decide, by decide, by decide, fun Hc sc => ?_⟩
      refine ⟨by show 3 ≤ sizeLine; decide, fun p3 hp3 => ?_⟩
      refine ⟨by show 3 ≤ sizeLine; decide, fun p4 hp4 => ?_⟩
      refine ⟨_, _, rfl, Eqv.list (xs := [V.int 1, V.int 0, V.int 12]) (.inl (.inl ?_)) (.inl (.inl upd_same)) (by show 3 ≤ 100000; decide) (ints_flat [1, 0, 12]), fun Hd sd => q _⟩
      rw [upd_ne (fun z => by rw [z] at hp4; rw [upd_same] at hp4; cases hp4), upd_same, prims_one, prims_112, prims_24]
end
end K4
set_option Elab.async false
set_option linter.all false
set_option maxRecDepth 100000
set_option maxHeartbeats 4000000
namespace K4
open PySem PySem.Spec PyProof.Rows L2 K4M
/-- a def as the top has left it -/
def df_mk {K : PySem.W.Frag} {h : Heap} {mg : Str → Option Value} (X : K.In h) (G : h.Ns mainGlobals mg) {x : Str} {st : Stmt} {ps : List Str} {f : Addr} {oc : Value} {od an : Option Addr} {sl : Array (Option Value)} {kV dc pm cd ct : Value}
    (a : PySem.W.nsIn K mainGlobals x = some (some (.ref f))) (l : K.lookup f = some ⟨oc, od, .func (PySem.W.fnOf x x (defArgs st) (defBody st) (defScope st) .none kV dc pm an cd ct), sl⟩) (c : PySem.W.codeIn K cd x = true) (k : PySem.W.keepIn K (.ref f) = true)
    (b : ∀ (kV doc pm : Value) (an : Option Addr) (cdv ct : Value) (us : List Value), us.length = ps.length → bindArgs (PySem.W.fnOf x x (defArgs st) (defBody st) (defScope st) .none kV doc pm an cdv ct) ⟨us, []⟩ = pure (ps.zip us)) : Df K mg x st ps :=
  ⟨f, _, fun_mk (st := st) l c k, (fun_mk (st := st) l c k).binds b, PySem.W.mg_of X G a⟩
theorem all_mk {l : PySem.W.OpenLaw} {w : World} {K : PySem.W.Frag} {h : Heap} {mg : Str → Option Value} {fa f1 : Addr} (X : K.In h) (G : h.Ns mainGlobals mg) (hfa : mg "law" = some (.ref fa))
    {od1 an1 : Option Addr} {sl1 : Array (Option Value)} {oc1 kV1 dc1 pm1 cd1 ct1 : Value}
    (a1 : PySem.W.nsIn K mainGlobals "law" = some (some (.ref f1))) (l1 : K.lookup f1 = some ⟨oc1, od1, .func (PySem.W.fnOf "law" "law" (defArgs st_law) (defBody st_law) (defScope st_law) .none kV1 dc1 pm1 an1 cd1 ct1), sl1⟩) (c1 : PySem.W.codeIn K cd1 "law" = true) (k1 : PySem.W.keepIn K (.ref f1) = true)
    (B : Bi mg) {t : Tok} (lt : PySem.W.nsIn K mainGlobals "LETTERS" = some (some (.str LET t)))
    (dWhole : Df K mg "is_whole_number" st_is_whole_number ["value"]) (dCount : Df K mg "is_count" st_is_count ["value"]) (dMade : Df K mg "is_made_of" st_is_made_of ["value", "signs"]) (dText : Df K mg "is_text" st_is_text ["value"]) (dWord : Df K mg "is_word" st_is_word ["value"])
    (dCword : Df K mg "check_word" st_check_word ["value"]) (dCnum : Df K mg "check_number" st_check_number ["value", "least"]) (dHad : Df K mg "_is_had" st__is_had ["text", "period"]) (dLp : Df K mg "least_period" st_least_period ["word"]) (dRoot : Df K mg "root" st_root ["word"])
    (dMw : Df K mg "many_words" st_many_words ["signs", "length"]) (dPrims : Df K mg "many_primitives" st_many_primitives ["signs", "length"]) (dDice : Df K mg "_law_dice" st__law_dice ["script", "at"]) (dMixed : Df K mg "_law_mixed" st__law_mixed ["seed", "spin", "at"])
    (dDraw : Df K mg "_law_draw" st__law_draw ["dice", "many"]) (dOne : Df K mg "_law_one_of" st__law_one_of ["dice", "some"]) (dExact : Df K mg "_law_exact" st__law_exact ["mine", "theirs"]) (dDices : Df K mg "_law_dices" st__law_dices ["script", "few"])
    (dWords : Df K mg "_law_words_of" st__law_words_of ["signs", "size"]) (dPower : Df K mg "_law_power" st__law_power ["base", "many"]) (dIsPrim : Df K mg "_law_is_primitive" st__law_is_primitive ["word"]) (dDivs : Df K mg "_law_divisors" st__law_divisors ["number"])
    (dRootL : Df K mg "_law_root" st__law_root ["word"]) (dSmall : Df K mg "_law_small_right" st__law_small_right ["signs", "length"]) (dGreat : Df K mg "_law_great_right" st__law_great_right ["signs", "length"]) :
    ∃ fd : FuncData, (∀ (s : Shared) (v : Value), BindsTo s fd ⟨[v], []⟩ [("script", v)]) ∧ ∀ base : Heap, K.In base → base.Ns mainGlobals mg → FnOk l.prog w K mg base CX0 8 fa fd ["script"] (spLaw K) := by
  have e := hfa.symm.trans (PySem.W.mg_of X G a1)
  cases e
  have F1 := fun_mk (st := st_law) l1 c1 k1
  have b1 := F1.binds (ps := ["script"]) fun _ _ _ _ _ _ us hl => match us, hl with | [_], _ => rfl
  refine ⟨PySem.W.fnOf "law" "law" (defArgs st_law) (defBody st_law) (defScope st_law) .none kV1 dc1 pm1 an1 cd1 ct1, fun s v => .of_eq rfl, fun base _ _ => ?_⟩
  have cMixed := dMixed.cal (P := l.prog) (w := w) (base := base) (ok_mixed B dMixed)
  have cDraw := dDraw.cal (P := l.prog) (w := w) (base := base) (ok_draw B dDraw cMixed)
  have cOne := dOne.cal (P := l.prog) (w := w) (base := base) (ok_one_of B dOne cDraw)
  have cDice := dDice.cal (P := l.prog) (w := w) (base := base) (ok_dice B dDice)
  have cDices := dDices.cal (P := l.prog) (w := w) (base := base) (ok_dices B dDices cDice)
  have cE0 := dExact.cal (P := l.prog) (w := w) (base := base) (ok_exact B dExact 0)
  have cE1 := dExact.cal (P := l.prog) (w := w) (base := base) (ok_exact B dExact 1)
  have cWhole := dWhole.cal (P := l.prog) (w := w) (base := base) (ok_whole B dWhole)
  have cCount := dCount.cal (P := l.prog) (w := w) (base := base) (ok_count B dCount cWhole)
  have cMade := dMade.cal (P := l.prog) (w := w) (base := base) (ok_made B dMade)
  have cText := dText.cal (P := l.prog) (w := w) (base := base) (ok_text (PySem.W.mg_of X G lt) dText cMade)
  have cWord := dWord.cal (P := l.prog) (w := w) (base := base) (ok_word dWord cText)
  have cCword := dCword.cal (P := l.prog) (w := w) (base := base) (ok_cword dCword cWord)
  have cCnum := dCnum.cal (P := l.prog) (w := w) (base := base) (ok_cnum dCnum cCount)
  have cHad := dHad.cal (P := l.prog) (w := w) (base := base) (ok_had dHad)
  have cLp := dLp.cal (P := l.prog) (w := w) (base := base) (ok_lp B dLp cCword cHad)
  have cRoot := dRoot.cal (P := l.prog) (w := w) (base := base) (ok_root B dRoot cCword cLp)
  have cMw := dMw.cal (P := l.prog) (w := w) (base := base) (ok_mwords B dMw)
  have cPower := dPower.cal (P := l.prog) (w := w) (base := base) (ok_power B dPower)
  have cPrims := dPrims.cal (P := l.prog) (w := w) (base := base) (ok_prims B dPrims cCnum cMw)
  have cWords := dWords.cal (P := l.prog) (w := w) (base := base) (ok_words B dWords)
  have cIsPrim := dIsPrim.cal (P := l.prog) (w := w) (base := base) (ok_isPrim B dIsPrim)
  have cDivs := dDivs.cal (P := l.prog) (w := w) (base := base) (ok_divs B dDivs)
  have cRootL := dRootL.cal (P := l.prog) (w := w) (base := base) (ok_rootL B dRootL)
  have cSmall := dSmall.cal (P := l.prog) (w := w) (base := base) (ok_small B dSmall cWords cIsPrim cE0 cE1 cPrims cRoot cRootL)
  have cGreat := dGreat.cal (P := l.prog) (w := w) (base := base) (ok_great B dGreat cDivs cPower cE0 cPrims)
  exact ok_law B ⟨_, _, F1, b1, PySem.W.mg_of X G a1⟩ cDices cDraw cOne cSmall cGreat cPrims cPower cE1
end K4
open PySem PySem.W PyProof.Rows
set_option maxRecDepth 100000 in
set_option maxHeartbeats 0 in
theorem PySem.Challenge.cw_owncuts_k04_whole_primitive_words_holds : PySem.Challenge.rw_owncuts_k04_whole_primitive_words.Holds := by
  w_on; o_law; k_head; (case hw => w_witness2)
  k_fill
  refine L2.walk_of (l := PySem.Challenge.rw_owncuts_k04_whole_primitive_words) (n := 63) (k := 8) (x := "script") (CX := fun _ => L2.CX0) (sp := fun w => K4.spLaw _) rfl (by decide) rfl ⟨rfl, by decide, by decide⟩ (fun w h Y => PySem.W.kIn_of Y) ?F (fun _ _ a ns hl _ hS => ⟨a, ns, rfl, hS, hl, fun _ => rfl⟩) (fun _ _ _ _ _ h => h)
  case F =>
    intro w mg fa h KX G hmg
    have z_len : mg "len" = none := PySem.W.mg_none_of KX G (by k_is)
    have z_range : mg "range" = none := PySem.W.mg_none_of KX G (by k_is)
    have z_sum : mg "sum" = none := PySem.W.mg_none_of KX G (by k_is)
    have z_max : mg "max" = none := PySem.W.mg_none_of KX G (by k_is)
    have z_min : mg "min" = none := PySem.W.mg_none_of KX G (by k_is)
    have z_int : mg "int" = none := PySem.W.mg_none_of KX G (by k_is)
    have z_isinstance : mg "isinstance" = none := PySem.W.mg_none_of KX G (by k_is)
    have z_list : mg "list" = none := PySem.W.mg_none_of KX G (by k_is)
    have z_any : mg "any" = none := PySem.W.mg_none_of KX G (by k_is)
    have z_all : mg "all" = none := PySem.W.mg_none_of KX G (by k_is)
    have z_zip : mg "zip" = none := PySem.W.mg_none_of KX G (by k_is)
    have z_bool : mg "bool" = none := PySem.W.mg_none_of KX G (by k_is)
    have z_str : mg "str" = none := PySem.W.mg_none_of KX G (by k_is)
    have z_tuple : mg "tuple" = none := PySem.W.mg_none_of KX G (by k_is)
    have z_dict : mg "dict" = none := PySem.W.mg_none_of KX G (by k_is)
    have d_is_whole_number := K4.df_mk (x := "is_whole_number") (st := K4.st_is_whole_number) (ps := ["value"]) KX G (by k_is) (by k_is) (by k_is) (by k_is) (fun _ _ _ _ _ _ us hl => match us, hl with | [_], _ => rfl)
    have d_is_count := K4.df_mk (x := "is_count") (st := K4.st_is_count) (ps := ["value"]) KX G (by k_is) (by k_is) (by k_is) (by k_is) (fun _ _ _ _ _ _ us hl => match us, hl with | [_], _ => rfl)
    have d_is_made_of := K4.df_mk (x := "is_made_of") (st := K4.st_is_made_of) (ps := ["value", "signs"]) KX G (by k_is) (by k_is) (by k_is) (by k_is) (fun _ _ _ _ _ _ us hl => match us, hl with | [_, _], _ => rfl)
    have d_is_text := K4.df_mk (x := "is_text") (st := K4.st_is_text) (ps := ["value"]) KX G (by k_is) (by k_is) (by k_is) (by k_is) (fun _ _ _ _ _ _ us hl => match us, hl with | [_], _ => rfl)
    have d_is_word := K4.df_mk (x := "is_word") (st := K4.st_is_word) (ps := ["value"]) KX G (by k_is) (by k_is) (by k_is) (by k_is) (fun _ _ _ _ _ _ us hl => match us, hl with | [_], _ => rfl)
    have d_check_word := K4.df_mk (x := "check_word") (st := K4.st_check_word) (ps := ["value"]) KX G (by k_is) (by k_is) (by k_is) (by k_is) (fun _ _ _ _ _ _ us hl => match us, hl with | [_], _ => rfl)
    have d_check_number := K4.df_mk (x := "check_number") (st := K4.st_check_number) (ps := ["value", "least"]) KX G (by k_is) (by k_is) (by k_is) (by k_is) (fun _ _ _ _ _ _ us hl => match us, hl with | [_, _], _ => rfl)
    have d__is_had := K4.df_mk (x := "_is_had") (st := K4.st__is_had) (ps := ["text", "period"]) KX G (by k_is) (by k_is) (by k_is) (by k_is) (fun _ _ _ _ _ _ us hl => match us, hl with | [_, _], _ => rfl)
    have d_least_period := K4.df_mk (x := "least_period") (st := K4.st_least_period) (ps := ["word"]) KX G (by k_is) (by k_is) (by k_is) (by k_is) (fun _ _ _ _ _ _ us hl => match us, hl with | [_], _ => rfl)
    have d_root := K4.df_mk (x := "root") (st := K4.st_root) (ps := ["word"]) KX G (by k_is) (by k_is) (by k_is) (by k_is) (fun _ _ _ _ _ _ us hl => match us, hl with | [_], _ => rfl)
    have d_many_words := K4.df_mk (x := "many_words") (st := K4.st_many_words) (ps := ["signs", "length"]) KX G (by k_is) (by k_is) (by k_is) (by k_is) (fun _ _ _ _ _ _ us hl => match us, hl with | [_, _], _ => rfl)
    have d_many_primitives := K4.df_mk (x := "many_primitives") (st := K4.st_many_primitives) (ps := ["signs", "length"]) KX G (by k_is) (by k_is) (by k_is) (by k_is) (fun _ _ _ _ _ _ us hl => match us, hl with | [_, _], _ => rfl)
    have d__law_dice := K4.df_mk (x := "_law_dice") (st := K4.st__law_dice) (ps := ["script", "at"]) KX G (by k_is) (by k_is) (by k_is) (by k_is) (fun _ _ _ _ _ _ us hl => match us, hl with | [_, _], _ => rfl)
    have d__law_mixed := K4.df_mk (x := "_law_mixed") (st := K4.st__law_mixed) (ps := ["seed", "spin", "at"]) KX G (by k_is) (by k_is) (by k_is) (by k_is) (fun _ _ _ _ _ _ us hl => match us, hl with | [_, _, _], _ => rfl)
    have d__law_draw := K4.df_mk (x := "_law_draw") (st := K4.st__law_draw) (ps := ["dice", "many"]) KX G (by k_is) (by k_is) (by k_is) (by k_is) (fun _ _ _ _ _ _ us hl => match us, hl with | [_, _], _ => rfl)
    have d__law_one_of := K4.df_mk (x := "_law_one_of") (st := K4.st__law_one_of) (ps := ["dice", "some"]) KX G (by k_is) (by k_is) (by k_is) (by k_is) (fun _ _ _ _ _ _ us hl => match us, hl with | [_, _], _ => rfl)
    have d__law_exact := K4.df_mk (x := "_law_exact") (st := K4.st__law_exact) (ps := ["mine", "theirs"]) KX G (by k_is) (by k_is) (by k_is) (by k_is) (fun _ _ _ _ _ _ us hl => match us, hl with | [_, _], _ => rfl)
    have d__law_dices := K4.df_mk (x := "_law_dices") (st := K4.st__law_dices) (ps := ["script", "few"]) KX G (by k_is) (by k_is) (by k_is) (by k_is) (fun _ _ _ _ _ _ us hl => match us, hl with | [_, _], _ => rfl)
    have d__law_words_of := K4.df_mk (x := "_law_words_of") (st := K4.st__law_words_of) (ps := ["signs", "size"]) KX G (by k_is) (by k_is) (by k_is) (by k_is) (fun _ _ _ _ _ _ us hl => match us, hl with | [_, _], _ => rfl)
    have d__law_power := K4.df_mk (x := "_law_power") (st := K4.st__law_power) (ps := ["base", "many"]) KX G (by k_is) (by k_is) (by k_is) (by k_is) (fun _ _ _ _ _ _ us hl => match us, hl with | [_, _], _ => rfl)
    have d__law_is_primitive := K4.df_mk (x := "_law_is_primitive") (st := K4.st__law_is_primitive) (ps := ["word"]) KX G (by k_is) (by k_is) (by k_is) (by k_is) (fun _ _ _ _ _ _ us hl => match us, hl with | [_], _ => rfl)
    have d__law_divisors := K4.df_mk (x := "_law_divisors") (st := K4.st__law_divisors) (ps := ["number"]) KX G (by k_is) (by k_is) (by k_is) (by k_is) (fun _ _ _ _ _ _ us hl => match us, hl with | [_], _ => rfl)
    have d__law_root := K4.df_mk (x := "_law_root") (st := K4.st__law_root) (ps := ["word"]) KX G (by k_is) (by k_is) (by k_is) (by k_is) (fun _ _ _ _ _ _ us hl => match us, hl with | [_], _ => rfl)
    have d__law_small_right := K4.df_mk (x := "_law_small_right") (st := K4.st__law_small_right) (ps := ["signs", "length"]) KX G (by k_is) (by k_is) (by k_is) (by k_is) (fun _ _ _ _ _ _ us hl => match us, hl with | [_, _], _ => rfl)
    have d__law_great_right := K4.df_mk (x := "_law_great_right") (st := K4.st__law_great_right) (ps := ["signs", "length"]) KX G (by k_is) (by k_is) (by k_is) (by k_is) (fun _ _ _ _ _ _ us hl => match us, hl with | [_, _], _ => rfl)
    refine' K4.all_mk KX G hmg ?a1 ?l1 ?c1 ?k1 ⟨z_len, z_range, z_sum, z_max, z_min, z_int, z_isinstance, z_list, z_any, z_all, z_zip, z_bool, z_str, z_tuple, z_dict⟩ ?lt d_is_whole_number d_is_count d_is_made_of d_is_text d_is_word d_check_word d_check_number d__is_had d_least_period d_root d_many_words d_many_primitives d__law_dice d__law_mixed d__law_draw d__law_one_of d__law_exact d__law_dices d__law_words_of d__law_power d__law_is_primitive d__law_divisors d__law_root d__law_small_right d__law_great_right
    (case a1 => k_is); (case l1 => k_is); (case c1 => k_is); (case k1 => k_is); (case lt => k_is)
