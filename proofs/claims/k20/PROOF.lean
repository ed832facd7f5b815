import PyProof.Rows.All
import Wide.All
import OpenK.AllK
import Wide.FinOn
import HandS.ForMost
import HandS.Wide
import HandS.WideBits
import HandS.IsInst
import HandS.StrMore
import HandS.Zip
import HandS.Flow
import HandS.Conv
import HandS.Style
import HandS.Gcd
import KE.KMathGC
import HandS.Walk
import PySem.Challenge.RW_owncuts_k20_whole_numbers_of_signs_and_r
set_option Elab.async false
set_option maxRecDepth 100000
namespace K4M
/-! ### periods -/
def had (w : List Nat) (p : Nat) : Bool := (w.drop p).isPrefixOf w
def Per (w : List Nat) (p : Nat) : Prop := ∀ i, i + p < w.length → w[i]? = w[i + p]?
theorem prefix_get {u w : List Nat} : u.isPrefixOf w = true ↔ ∀ i, i < u.length → w[i]? = u[i]? := by
  rw [List.isPrefixOf_iff_prefix]
  constructor
  · rintro ⟨t, rfl⟩ i hi
    rw [List.getElem?_append_left hi]
  · intro h
    have hl : u.length ≤ w.length := by
      apply Nat.le_of_not_lt
      intro hlt
      have := h w.length hlt
      rw [List.getElem?_eq_none (Nat.le_refl _), List.getElem?_eq_getElem hlt] at this
      cases this
    have : w.take u.length = u := by
      apply List.ext_getElem?
      intro i
      by_cases hi : i < u.length
      · rw [List.getElem?_take_of_lt hi]
        exact h i hi
      · rw [List.getElem?_eq_none (by rw [List.length_take]; omega), List.getElem?_eq_none (by omega)]
    rw [← this]
    exact List.take_prefix _ _
theorem had_iff (w : List Nat) (p : Nat) : had w p = true ↔ Per w p := by
  unfold had
  rw [prefix_get]
  constructor
  · intro h i hi
    have := h i (by rw [List.length_drop]; omega)
    rw [List.getElem?_drop, Nat.add_comm p i] at this
    exact this
  · intro h i hi
    rw [List.length_drop] at hi
    rw [List.getElem?_drop, Nat.add_comm p i]
    exact h i (by omega)
/-- two periods, the greater less the lesser -/
theorem per_sub {w : List Nat} {p d : Nat} (hp : Per w p) (hd : Per w d) (hlt : p < d) (hn : p + d ≤ w.length) : Per w (d - p) := by
  intro i hi
  by_cases hip : p ≤ i
  · have h1 := hp (i - p) (by omega)
    have h2 := hd (i - p) (by omega)
    rw [show i - p + p = i by omega] at h1
    rw [show i - p + d = i + (d - p) by omega] at h2
    rw [← h1, h2]
  · have h1 := hd i (by omega)
    have h2 := hp (i + (d - p)) (by omega)
    rw [show i + (d - p) + p = i + d by omega] at h2
    rw [h1, h2]
theorem per_dvd {w : List Nat} {p : Nat} (h0 : 0 < p) (hp : Per w p) (hmin : ∀ q, 0 < q → q < p → ¬ Per w q) : ∀ (d : Nat), 0 < d → Per w d → p + d ≤ w.length → p ∣ d := by
  intro d
  induction d using Nat.strongRecOn with
  | _ d ih =>
    intro hd0 hd hn
    by_cases h1 : d < p
    · exact absurd hd (hmin d hd0 h1)
    by_cases h2 : d = p
    · subst h2
      exact Nat.dvd_refl _
    · have := ih (d - p) (by omega) (by omega) (per_sub hp hd (by omega) hn) (by omega)
      obtain ⟨k, hk⟩ := this
      exact ⟨k + 1, by rw [Nat.mul_add, Nat.mul_one]; omega⟩
/-! ### repeated words -/
def rep (u : List Nat) (k : Nat) : List Nat := (List.replicate k u).flatten
theorem rep_succ (u : List Nat) (k : Nat) : rep u (k + 1) = u ++ rep u k := by
  unfold rep
  rw [List.replicate_succ, List.flatten_cons]
theorem rep_len (u : List Nat) : ∀ k, (rep u k).length = k * u.length
  | 0 => by simp [rep]
  | k + 1 => by rw [rep_succ, List.length_append, rep_len u k, Nat.add_mul]; omega
theorem rep_per {u : List Nat} : ∀ k, Per (rep u k) u.length
  | 0 => fun i hi => by simp [rep] at hi
  | k + 1 => fun i hi => by
    rw [rep_succ] at hi ⊢
    rw [List.length_append] at hi
    by_cases h : i < u.length
    · rw [List.getElem?_append_left h, List.getElem?_append_right (by omega), show i + u.length - u.length = i by omega]
      cases k with
      | zero =>
        exfalso
        have : (rep u 0).length = 0 := by simp [rep]
        omega
      | succ k => rw [rep_succ, List.getElem?_append_left h]
    · rw [List.getElem?_append_right (by omega), List.getElem?_append_right (by omega)]
      have := rep_per (u := u) k (i - u.length) (by omega)
      rw [this, show i - u.length + u.length = i + u.length - u.length by omega]
theorem per_drop {w : List Nat} {s : Nat} (h : Per w s) (m : Nat) : Per (w.drop m) s := fun i hi => by
  rw [List.length_drop] at hi
  rw [List.getElem?_drop, List.getElem?_drop, show m + (i + s) = m + i + s by omega]
  exact h (m + i) (by omega)
theorem rep_of_per : ∀ (k : Nat) {w : List Nat} {s : Nat}, 0 < s → w.length = k * s → Per w s → rep (w.take s) k = w
  | 0, w, s, _, hl, _ => by
    have : w = [] := List.length_eq_zero_iff.mp (by omega)
    subst this
    simp [rep]
  | k + 1, w, s, h0, hl, hp => by
    rw [rep_succ]
    have hl' : w.length = k * s + s := by rw [hl, Nat.add_mul, Nat.one_mul]
    have hd : (w.drop s).length = k * s := by rw [List.length_drop]; omega
    have ih := rep_of_per k h0 hd (per_drop hp s)
    cases k with
    | zero =>
      have e : w.drop s = [] := List.length_eq_zero_iff.mp (by omega)
      rw [show rep (w.take s) 0 = [] by simp [rep], List.append_nil, List.take_of_length_le (by omega)]
    | succ k =>
      have e : (w.drop s).take s = w.take s := by
        apply List.ext_getElem?
        intro i
        by_cases hi : i < s
        · rw [List.getElem?_take_of_lt hi, List.getElem?_take_of_lt hi, List.getElem?_drop, Nat.add_comm s i]
          have : s ≤ (k + 1) * s := Nat.le_mul_of_pos_left s (by omega)
          exact (hp i (by omega)).symm
        · rw [List.getElem?_eq_none (by rw [List.length_take]; omega), List.getElem?_eq_none (by rw [List.length_take]; omega)]
      rw [e] at ih
      rw [ih, List.take_append_drop]
theorem rep_iff {w : List Nat} {s : Nat} (h0 : 0 < s) (hs : w.length % s = 0) (hle : s ≤ w.length) : rep (w.take s) (w.length / s) = w ↔ Per w s := by
  have hk : w.length = w.length / s * s := by
    have := Nat.div_add_mod w.length s
    rw [hs, Nat.add_zero, Nat.mul_comm] at this
    exact this.symm
  constructor
  · intro h
    have hl : (w.take s).length = s := by rw [List.length_take]; omega
    have := rep_per (u := w.take s) (w.length / s)
    rw [h, hl] at this
    exact this
  · exact rep_of_per _ h0 hk
/-! ### the least period, the root -/
def lpFrom (w : List Nat) (n i : Nat) : Nat → Nat
  | 0 => n
  | m + 1 => if had w i then i else lpFrom w n (i + 1) m
def lp (w : List Nat) : Nat := lpFrom w w.length 1 (w.length - 1)
theorem lpFrom_spec (w : List Nat) (n : Nat) : ∀ (m i : Nat), i + m = n → (∀ j, 0 < j → j < i → had w j = false) → (∀ j, 0 < j → j < lpFrom w n i m → had w j = false) ∧ i ≤ lpFrom w n i m ∧ lpFrom w n i m ≤ n ∧ (lpFrom w n i m < n → had w (lpFrom w n i m) = true)
  | 0, i, e, h => by
    unfold lpFrom
    have : i = n := by omega
    subst this
    exact ⟨h, Nat.le_refl _, Nat.le_refl _, fun z => absurd z (Nat.lt_irrefl _)⟩
  | m + 1, i, e, h => by
    unfold lpFrom
    by_cases hi : had w i = true
    · rw [if_pos hi]
      exact ⟨h, Nat.le_refl _, by omega, fun _ => hi⟩
    · rw [if_neg hi]
      have := lpFrom_spec w n m (i + 1) (by omega) fun j h0 hj => by
        by_cases e : j = i
        · subst e
          exact Bool.eq_false_iff.mpr hi
        · exact h j h0 (by omega)
      exact ⟨this.1, by omega, this.2.2⟩
theorem lp_spec (w : List Nat) (h : w ≠ []) : (∀ j, 0 < j → j < lp w → had w j = false) ∧ 1 ≤ lp w ∧ lp w ≤ w.length ∧ (lp w < w.length → had w (lp w) = true) := by
  have hl : 0 < w.length := List.length_pos_iff.mpr h
  exact lpFrom_spec w w.length (w.length - 1) 1 (by omega) fun j h0 hj => by omega
def rootP (w : List Nat) : List Nat × Nat := if w.length % lp w ≠ 0 then (w, 1) else (w.take (lp w), w.length / lp w)
def okSize (w : List Nat) (s : Nat) : Bool := w.length % s == 0 && rep (w.take s) (w.length / s) == w
def sizes (w : List Nat) : List Nat := (List.range' 1 w.length).filter (okSize w)
def rootL (w : List Nat) : List Nat × Nat := (w.take ((sizes w).headD 0), w.length / (sizes w).headD 0)
def isPrim (w : List Nat) : Bool := !(List.range' 1 (w.length - 1)).any (okSize w)
theorem headD_filter {f : Nat → Bool} {d : Nat} : ∀ (n a : Nat), a ≤ d → d < a + n → f d = true → (∀ j, a ≤ j → j < d → f j = false) → ((List.range' a n).filter f).headD 0 = d
  | 0, a, h1, h2, _, _ => by omega
  | n + 1, a, h1, h2, h3, h4 => by
    rw [List.range'_succ]
    by_cases e : a = d
    · subst e
      rw [List.filter_cons_of_pos h3]
      rfl
    · rw [List.filter_cons_of_neg (by rw [h4 a (Nat.le_refl _) (by omega)]; exact Bool.false_ne_true)]
      exact headD_filter n (a + 1) (by omega) (by omega) h3 fun j hj1 hj2 => h4 j (by omega) hj2
theorem okSize_iff {w : List Nat} {s : Nat} (h0 : 0 < s) (hle : s ≤ w.length) : okSize w s = true ↔ w.length % s = 0 ∧ Per w s := by
  unfold okSize
  rw [Bool.and_eq_true, beq_iff_eq, beq_iff_eq]
  constructor
  · rintro ⟨h1, h2⟩
    exact ⟨h1, (rep_iff h0 h1 hle).mp h2⟩
  · rintro ⟨h1, h2⟩
    exact ⟨h1, (rep_iff h0 h1 hle).mpr h2⟩
theorem per_all (w : List Nat) : Per w w.length := fun i hi => by omega
theorem sizes_head (w : List Nat) (h : w ≠ []) : (sizes w).headD 0 = if w.length % lp w ≠ 0 then w.length else lp w := by
  have hl : 0 < w.length := List.length_pos_iff.mpr h
  obtain ⟨a1, a2, a3, a4⟩ := lp_spec w h
  have hp : Per w (lp w) := by
    by_cases e : lp w < w.length
    · exact (had_iff _ _).mp (a4 e)
    · rw [show lp w = w.length by omega]
      exact per_all w
  have hmin : ∀ q, 0 < q → q < lp w → ¬ Per w q := fun q h0 hq hper => by
    have := a1 q h0 hq
    rw [(had_iff w q).mpr hper] at this
    cases this
  by_cases hm : w.length % lp w = 0
  · rw [if_neg (by omega)]
    refine headD_filter _ 1 a2 (by omega) ((okSize_iff a2 a3).mpr ⟨hm, hp⟩) fun j h1 h2 => ?_
    cases e : okSize w j with
    | false => rfl
    | true => exact absurd ((okSize_iff h1 (by omega)).mp e).2 (hmin j h1 h2)
  · rw [if_pos hm]
    refine headD_filter _ 1 hl (by omega) ((okSize_iff hl (Nat.le_refl _)).mpr ⟨Nat.mod_self _, per_all w⟩) fun j h1 h2 => ?_
    cases e : okSize w j with
    | false => rfl
    | true =>
      exfalso
      obtain ⟨e1, e2⟩ := (okSize_iff h1 (by omega)).mp e
      obtain ⟨k, hk⟩ := Nat.dvd_of_mod_eq_zero e1
      have hk2 : 2 ≤ k := by
        rcases k with _ | _ | k
        · omega
        · omega
        · omega
      have hj2 : j + j ≤ w.length := by
        have : j * 2 ≤ j * k := Nat.mul_le_mul_left j hk2
        omega
      have hpj : lp w ≤ j := by
        apply Nat.le_of_not_lt
        intro z
        exact hmin j h1 z e2
      have := per_dvd a2 hp hmin j h1 e2 (by omega)
      exact hm (Nat.mod_eq_zero_of_dvd (Nat.dvd_trans this ⟨k, hk⟩))
theorem root_eq (w : List Nat) (h : w ≠ []) : rootL w = rootP w := by
  have hl : 0 < w.length := List.length_pos_iff.mpr h
  unfold rootL rootP
  rw [sizes_head w h]
  by_cases hm : w.length % lp w ≠ 0
  · rw [if_pos hm, if_pos hm, List.take_length, Nat.div_self hl]
  · rw [if_neg hm, if_neg hm]
/-! ### how many primitive words -/
def divs (n i : Nat) : List Nat := (List.range' 1 i).filter (fun d => n % d == 0)
/-- the values at 1, 2, .. n -/
def allP (s : Int) : Nat → List Int
  | 0 => []
  | n + 1 => allP s n ++ [s ^ (n + 1) - ((divs (n + 1) n).map fun d => (allP s n).getD (d - 1) 0).sum]
def prims (s : Int) (n : Nat) : Int := (allP s n).getD (n - 1) 0
theorem allP_len (s : Int) : ∀ n, (allP s n).length = n
  | 0 => rfl
  | n + 1 => by
    show (allP s n ++ _).length = _
    rw [List.length_append, allP_len s n]
    rfl
theorem allP_get (s : Int) : ∀ (n d : Nat), 0 < d → d ≤ n → (allP s n).getD (d - 1) 0 = prims s d
  | 0, d, h1, h2 => by omega
  | n + 1, d, h1, h2 => by
    by_cases e : d = n + 1
    · subst e
      rfl
    · show (allP s n ++ _).getD (d - 1) 0 = _
      rw [List.getD_eq_getElem?_getD, List.getElem?_append_left (by rw [allP_len]; omega), ← List.getD_eq_getElem?_getD]
      exact allP_get s n d h1 (by omega)
theorem divs_mem {n i d : Nat} : d ∈ divs n i ↔ 0 < d ∧ d ≤ i ∧ n % d = 0 := by
  unfold divs
  rw [List.mem_filter, List.mem_range'_1, beq_iff_eq]
  constructor
  · rintro ⟨⟨h1, h2⟩, h3⟩
    exact ⟨h1, by omega, h3⟩
  · rintro ⟨h1, h2, h3⟩
    exact ⟨⟨h1, by omega⟩, h3⟩
theorem prims_eq (s : Int) (n : Nat) (h : 0 < n) : prims s n = s ^ n - ((divs n (n - 1)).map (prims s)).sum := by
  obtain ⟨m, rfl⟩ : ∃ m, n = m + 1 := ⟨n - 1, by omega⟩
  show (allP s m ++ [_]).getD m 0 = _
  rw [List.getD_eq_getElem?_getD, List.getElem?_append_right (by rw [allP_len]; omega), allP_len, Nat.sub_self]
  show s ^ (m + 1) - _ = s ^ (m + 1) - _
  congr 2
  apply List.map_congr_left
  intro d hd
  rw [divs_mem] at hd
  exact allP_get s m d hd.1 hd.2.1
theorem divs_succ_of {n i : Nat} (h : n % (i + 1) = 0) : divs n (i + 1) = divs n i ++ [i + 1] := by
  unfold divs
  rw [List.range'_1_concat, List.filter_append, Nat.add_comm 1 i, List.filter_cons_of_pos (by rw [h]; rfl)]
  rfl
theorem divs_succ_not {n i : Nat} (h : n % (i + 1) ≠ 0) : divs n (i + 1) = divs n i := by
  unfold divs
  rw [List.range'_1_concat, List.filter_append, Nat.add_comm 1 i, List.filter_cons_of_neg (by rw [beq_iff_eq]; exact h)]
  exact List.append_nil _
theorem divs_filter {n i : Nat} (h : n % (i + 1) = 0) : (divs n i).filter (fun d => (i + 1) % d == 0) = divs (i + 1) i := by
  unfold divs
  rw [List.filter_filter]
  apply List.filter_congr
  intro d hd
  rw [Bool.eq_iff_iff, Bool.and_eq_true, beq_iff_eq, beq_iff_eq]
  constructor
  · exact fun z => z.1
  · intro z
    exact ⟨z, Nat.mod_eq_zero_of_dvd (Nat.dvd_trans (Nat.dvd_of_mod_eq_zero z) (Nat.dvd_of_mod_eq_zero h))⟩
theorem prims_one (s : Int) : prims s 1 = s := by
  rw [prims_eq s 1 (by decide)]
  show s ^ 1 - (0 : Int) = s
  rw [Int.pow_succ, Int.pow_zero, Int.one_mul, Int.sub_zero]
theorem prims_prime (s : Int) {p : Nat} (h0 : 0 < p) (h : divs p (p - 1) = [1]) : prims s p = s ^ p - s := by
  rw [prims_eq s p h0, h]
  show s ^ p - (prims s 1 + 0) = _
  rw [prims_one, Int.add_zero]
theorem prims_square (s : Int) {p : Nat} (h0 : 0 < p) (h : divs p (p - 1) = [1]) (h2 : divs (p * p) (p * p - 1) = [1, p]) : prims s (p * p) = s ^ (p * p) - s ^ p := by
  rw [prims_eq s (p * p) (Nat.mul_pos h0 h0), h2]
  show s ^ (p * p) - (prims s 1 + (prims s p + 0)) = _
  rw [prims_one, prims_prime s h0 h, Int.add_zero]
  omega
/-! ### all words -/
def wordsOf (cs : List Nat) : Nat → List (List Nat)
  | 0 => [[]]
  | n + 1 => (wordsOf cs n).flatMap fun w => cs.map fun c => w ++ [c]
theorem wordsOf_mem {cs : List Nat} : ∀ {n : Nat} {w : List Nat}, w ∈ wordsOf cs n → w.length = n ∧ ∀ c ∈ w, c ∈ cs
  | 0, w, h => by
    have : w = [] := List.mem_singleton.mp h
    subst this
    exact ⟨rfl, fun _ h => nomatch h⟩
  | n + 1, w, h => by
    obtain ⟨u, hu, hw⟩ := List.mem_flatMap.mp h
    obtain ⟨c, hc, rfl⟩ := List.mem_map.mp hw
    obtain ⟨h1, h2⟩ := wordsOf_mem hu
    refine ⟨by rw [List.length_append, h1]; rfl, fun d hd => ?_⟩
    rcases List.mem_append.mp hd with hd | hd
    · exact h2 d hd
    · rw [List.mem_singleton.mp hd]
      exact hc
def countP (k n : Nat) : Nat := ((wordsOf ([97, 98, 99, 100].take k) n).filter isPrim).length
theorem count_small : (List.range' 1 3).all (fun k => (List.range' 1 6).all fun n => ((countP k n : Nat) : Int) == prims k n) = true := by decide +kernel
theorem count_four : (List.range' 1 4).all (fun n => ((countP 4 n : Nat) : Int) == prims 4 n) = true := by decide +kernel
theorem count_two : (List.range' 6 2).all (fun n => ((countP 2 n : Nat) : Int) == prims 2 n) = true := by decide +kernel
theorem prims_112 : prims 1 12 = 0 := by decide +kernel
theorem prims_24 : prims 2 4 = 12 := by decide +kernel
end K4M
set_option Elab.async false
set_option linter.all false
set_option maxRecDepth 100000
set_option maxHeartbeats 4000000
namespace K4
open PySem PySem.Spec PyProof.Rows L2 K4M
/-! ### texts as lists of signs -/
def S (w : List Nat) : Str := ⟨w.toArray⟩
theorem S_inj {u v : List Nat} (h : S u = S v) : u = v := by
  have := congrArg Str.cps h
  have := congrArg Array.toList this
  simpa [S] using this
theorem S_len (w : List Nat) : (S w).length = w.length := by
  show w.toArray.size = _
  rw [List.size_toArray]
theorem S_app (u v : List Nat) : S u ++ S v = S (u ++ v) := by
  show (⟨u.toArray ++ v.toArray⟩ : Str) = ⟨(u ++ v).toArray⟩
  rw [List.append_toArray]
theorem S_empty : (Str.empty) = S [] := rfl
theorem S_dec (u v : List Nat) : decide (S u = S v) = (u == v) := by
  by_cases h : u = v
  · subst h
    simp
  · rw [decide_eq_false fun z => h (S_inj z)]
    exact (beq_eq_false_iff_ne.mpr h).symm
theorem V_dec (u v : List Nat) : decide (V.str (S u) = V.str (S v)) = (u == v) := by
  by_cases h : u = v
  · subst h
    simp
  · rw [decide_eq_false fun z => h (S_inj (V.str.inj z))]
    exact (beq_eq_false_iff_ne.mpr h).symm
theorem cut_drop (w : List Nat) (p : Nat) : cutS (S w) (some (p : Int)) none = S (w.drop p) := by
  unfold cutS
  rw [HT.sIx_none, HT.sIx_nat, S_len]
  show (⟨((w.drop (min p w.length)).take (w.length - min p w.length)).toArray⟩ : Str) = ⟨(w.drop p).toArray⟩
  congr 2
  by_cases h : p ≤ w.length
  · rw [Nat.min_eq_left h, List.take_of_length_le (by rw [List.length_drop]; omega)]
  · rw [Nat.min_eq_right (by omega), Nat.sub_self, List.take_zero, List.drop_of_length_le (by omega)]
theorem cut_take (w : List Nat) (p : Nat) : cutS (S w) none (some (p : Int)) = S (w.take p) := by
  unfold cutS
  rw [HT.sIx_none, HT.sIx_nat, S_len]
  show (⟨((w.drop 0).take (min p w.length - 0)).toArray⟩ : Str) = ⟨(w.take p).toArray⟩
  rw [List.drop_zero, Nat.sub_zero]
  congr 2
  by_cases h : p ≤ w.length
  · rw [Nat.min_eq_left h]
  · rw [Nat.min_eq_right (by omega), List.take_length, List.take_of_length_le (by omega)]
theorem starts (w u : List Nat) : Txt.startswith (S w) (S u) = u.isPrefixOf w := by
  unfold Txt.startswith
  rw [PySem.StrLaws.subAt_eq, S_len, S_len, Nat.zero_add]
  show (decide (u.length ≤ w.length) && (((w.drop 0).take (S u).length) == u)) = _
  rw [List.drop_zero, S_len, Bool.eq_iff_iff, Bool.and_eq_true, decide_eq_true_eq, beq_iff_eq, List.isPrefixOf_iff_prefix]
  constructor
  · rintro ⟨_, h⟩
    rw [← h]
    exact List.take_prefix _ _
  · rintro ⟨t, rfl⟩
    exact ⟨by rw [List.length_append]; omega, by rw [List.take_left]⟩
theorem strip_all {w : List Nat} {y : Str} (h : ∀ c ∈ w, y.cps.contains c = true) : Txt.stripChars (S w) y = S [] := by
  have lo : (List.takeWhile y.cps.contains w) = w := by
    induction w with
    | nil => rfl
    | cons a r ih =>
      rw [List.takeWhile_cons, if_pos (h a (List.mem_cons_self ..)), ih fun c hc => h c (List.mem_cons_of_mem _ hc)]
  have e1 : stripLo y.cps.contains true (S w) = w.length := by
    show (List.takeWhile y.cps.contains w).length = _
    rw [lo]
  have e2 : stripHi y.cps.contains true (S w) w.length = w.length := by
    show (S w).length - ((w.drop w.length).reverse.takeWhile y.cps.contains).length = _
    rw [List.drop_length, S_len]
    rfl
  unfold Txt.stripChars Txt.stripBy
  by_cases h0 : w = []
  · subst h0
    split <;> rfl
  · have hl : 0 < w.length := List.length_pos_iff.mpr h0
    rw [if_neg]
    · unfold stripped
      rw [e1, e2]
      show (⟨w.toArray.extract w.length w.length⟩ : Str) = ⟨[].toArray⟩
      congr 1
      apply Array.toList_inj.mp
      simp
    · unfold stripSame
      rw [e1, Bool.and_eq_true, beq_iff_eq]
      omega
theorem foldl_rep (u : List Nat) : ∀ (k : Nat) (acc : List Nat), (List.replicate k u.toArray).foldl (· ++ ·) acc.toArray = (acc ++ rep u k).toArray
  | 0, acc => by simp [rep]
  | k + 1, acc => by
    rw [List.replicate_succ, List.foldl_cons, List.append_toArray, foldl_rep u k, rep_succ, List.append_assoc]
theorem S_mul (u : List Nat) (k : Nat) : Txt.mul (S u) (k : Int) = S (rep u k) := by
  unfold Txt.mul
  by_cases h1 : (k : Int) < 1
  · rw [if_pos h1]
    have : k = 0 := by omega
    subst this
    rfl
  · rw [if_neg h1]
    by_cases h2 : ((k : Int) == 1 || (S u).length == 0) = true
    · rw [if_pos h2]
      rw [Bool.or_eq_true, beq_iff_eq, beq_iff_eq, S_len] at h2
      rcases h2 with h2 | h2
      · have : k = 1 := by omega
        subst this
        congr 1
        simp [rep]
      · have : u = [] := List.length_eq_zero_iff.mp h2
        subst this
        congr 1
        simp [rep]
    · rw [if_neg h2, Int.toNat_natCast]
      have := foldl_rep u k []
      rw [List.nil_append] at this
      show (⟨(List.replicate k u.toArray).foldl (· ++ ·) (#[] : Array Nat)⟩ : Str) = _
      exact congrArg Str.mk this
/-! ### rules of my own -/
section
variable {X : Cx}
def CPowW (i j : Int) : Prop := 0 ≤ j ∧ (Builtin.Int.intBits i : Int) * j ≤ 2 ^ 27
theorem op_powW : OpR X (binaryOp .Pow) (rI CPowW fun i j => .int (i ^ j.toNat)) := opI fun _ _ _ _ _ _ _ hc q => pow_int hc.1 hc.2 q
/-- text * number -/
theorem op_mulS : OpR X (binaryOp .Mult) (fun x y H Q => ∃ (u : List Nat) (k : Nat), x = .str (S u) ∧ y = .int (k : Int) ∧ u.length * k ≤ 100000 ∧ k ≤ 100000 ∧ u.length ≤ 100000 ∧ Q (.str (S (rep u k))) H) := by
  intro pins s σ H x y v u Q I rx ry h
  obtain ⟨w, k, rfl, rfl, hz, hk, hw, q⟩ := h
  obtain ⟨t, rfl⟩ := rx
  obtain ⟨t', rfl⟩ := ry
  refine SB.mul ⟨?_, fun h1 h2 => ?_, fun h1 h2 => ?_⟩ fun t1 k1 => ?_
  · rw [Bool.or_eq_false_iff]
    exact ⟨decide_eq_false (by omega), decide_eq_false (by omega)⟩
  · rw [S_len]
    have h3 : (100000 : Int) ≤ (2 ^ 63 - 1) / (k : Int) := by
      apply Int.le_ediv_of_mul_le (by omega)
      omega
    omega
  · rw [S_len, Int.toNat_natCast]
    have e : sizeLine = 16777216 := by decide
    unfold Builtin.Str.tooLong
    exact decide_eq_false (by omega)
  · rw [S_mul]
    exact ⟨.str (S (rep w k)), H, I.tok _, ⟨_, rfl⟩, q⟩
def signsV (w : List Nat) : List V := w.map fun c => V.str (S [c])
theorem vals_signs {its : List Value} {w : List Nat} (hl : its.length = w.length) (h : ∀ (j : Nat) (v : Value), its[j]? = some v → ∃ c u, w[j]? = some c ∧ v = .str ⟨#[c]⟩ u) : Vals (signsV w) its := by
  induction w generalizing its with
  | nil =>
    have : its = [] := List.length_eq_zero_iff.mp hl
    subst this
    exact .nil
  | cons c r ih =>
    cases its with
    | nil => cases hl
    | cons v rest =>
      obtain ⟨c', u, e1, e2⟩ := h 0 v rfl
      cases e1
      refine .cons ⟨u, e2⟩ (ih (Nat.succ.inj hl) fun j v hv => h (j + 1) v hv)
/-- list(text) -/
theorem call_listS (hc : X.calm = true) : CallR X (.type "list") (fun xs H Q => ∃ w : List Nat, xs = [.str (S w)] ∧ w.length ≤ 1000 ∧ ∀ l, H l = none → Q (.ref l) (upd H l (.lst (signsV w)))) := by
  intro pins s σ H xs us Q I r h
  obtain ⟨w, rfl, hw, q⟩ := h
  obtain ⟨u, rfl, rx⟩ := vals1 r
  obtain ⟨t, rfl⟩ := rx
  have e : sizeLine = 16777216 := by decide
  have hn : (S w).cps.size ≤ sizeLine := by
    show w.toArray.size ≤ _
    rw [List.size_toArray]
    omega
  refine call_list_str (I.ok.hd hc) (S w) t (hn := hn) fun h' tk acc' c' kp e' hi => ?_
  have hv : Vals (signsV w) acc'.toList := by
    refine vals_signs ?_ fun j v hv => ?_
    · rw [Array.length_toList, hi.1]
      exact List.size_toArray ..
    · obtain ⟨c, u, h1, h2⟩ := hi.2 j v (by simpa using hv)
      exact ⟨c, u, by simpa [S] using h1, h2⟩
  refine ⟨.ref s.heap.objs.size, _, I.laid (t' := tk) kp (Nat.le_refl _) (show ObjOk X.prog X.w _ h' _ (.lst (signsV w)) from ⟨?_, acc'.toList, c', hv, e'⟩), rfl, q _ (I.hok.fresh (Nat.le_refl _))⟩
  unfold signsV
  rw [List.length_map]
  omega
end
theorem filter_take {α : Type} {f : α → Bool} {l : List α} {j : Nat} {x : α} (h : l[j]? = some x) : (l.take (j + 1)).filter f = (l.take j).filter f ++ (if f x = true then [x] else []) := by
  rw [List.take_add_one, h, List.filter_append]
  congr 1
  show List.filter f [x] = _
  cases e : f x with
  | true => rw [List.filter_cons_of_pos e]; rfl
  | false => rw [List.filter_cons_of_neg (by rw [e]; exact Bool.false_ne_true)]; rfl
theorem range_snoc' (i : Nat) : List.range' 1 (i + 1) = List.range' 1 i ++ [i + 1] := by
  rw [List.range'_1_concat, Nat.add_comm 1 i]
def natsV (l : List Nat) : List V := l.map fun (d : Nat) => V.int (d : Int)
theorem int_mod_beq (a b : Nat) : ((a : Int) % (b : Int) == 0) = (a % b == 0) := by
  rw [Bool.eq_iff_iff, beq_iff_eq, beq_iff_eq]
  omega
theorem take_mul_le (u : List Nat) (s : Nat) : (u.take s).length * (u.length / s) ≤ u.length := by
  have h1 : (u.take s).length ≤ s := by rw [List.length_take]; omega
  exact Nat.le_trans (Nat.mul_le_mul_right _ h1) (Nat.mul_div_le _ _)
theorem sizes_cons {u : List Nat} (h : u ≠ []) : ∃ r, sizes u = (sizes u).headD 0 :: r ∧ 0 < (sizes u).headD 0 ∧ (sizes u).headD 0 ≤ u.length := by
  have hl : 0 < u.length := List.length_pos_iff.mpr h
  obtain ⟨_, a2, a3, _⟩ := lp_spec u h
  have e := sizes_head u h
  have hb : 0 < (sizes u).headD 0 ∧ (sizes u).headD 0 ≤ u.length := by
    rw [e]
    split <;> omega
  cases hs : sizes u with
  | nil =>
    rw [hs] at hb
    exact absurd hb.1 (by decide)
  | cons a r =>
    rw [hs] at hb
    exact ⟨r, rfl, hb⟩
theorem same_upd {H : Hp} {p : Addr} {o : HO} (h : H p = none) : Same H (upd H p o) := fun b x e => by
  rw [upd_ne (ne_of_none e h)]
  exact e
end K4
set_option maxRecDepth 100000
namespace K4
open PySem L2
def topS (i : Nat) : Stmt := PySem.Challenge.pw_owncuts_k20_whole_numbers_of_signs_and_r.main.body.getD i (.Pass ⟨0, 0, 0, 0⟩)
abbrev st_is_whole_number : Stmt := topS 5
abbrev st_is_count : Stmt := topS 6
abbrev st_check_number : Stmt := topS 7
abbrev st_signs_for : Stmt := topS 9
abbrev st_rounds_for : Stmt := topS 10
abbrev st__law_dice : Stmt := topS 12
abbrev st__law_mixed : Stmt := topS 13
abbrev st__law_draw : Stmt := topS 14
abbrev st__law_one_of : Stmt := topS 15
abbrev st__law_exact : Stmt := topS 16
abbrev st__law_dices : Stmt := topS 17
abbrev st__law_halves : Stmt := topS 18
abbrev st_law : Stmt := topS 19
abbrev cl_CutError : Stmt := topS 2
abbrev st_CutError___init__ : Stmt := inClass (topS 2) 0
abbrev cl_InvalidNumber : Stmt := topS 3
abbrev st_InvalidNumber___init__ : Stmt := inClass (topS 3) 0
end K4
set_option Elab.async false
set_option linter.all false
set_option maxRecDepth 100000
set_option maxHeartbeats 4000000
namespace K4
open PySem PySem.Spec PyProof.Rows L2 K4M
/-- a def of the top that may be called: where it stands, and its promise -/
structure Cal (P : Program) (w : World) (K : PySem.W.Frag) (mg : Str → Option Value) (base : Heap) (k : Nat) (x : Str) (ps : List Str) (sp : Sp) where
  f : Addr
  fd : FuncData
  ok : FnOk P w K mg base CX0 k f fd ps sp
  g : mg x = some (.ref f)
  kp : PySem.W.keepIn K (.ref f) = true
  b : Binds K fd ps []
structure Df (K : PySem.W.Frag) (mg : Str → Option Value) (x : Str) (st : Stmt) (ps : List Str) where
  f : Addr
  fd : FuncData
  F : Fun K x x st f fd
  b : Binds K fd ps []
  g : mg x = some (.ref f)
theorem pcall {X : Cx} {k : Nat} {x : Str} {ps : List Str} {sp : Sp} {e : Expr} {es : List Expr} {t : TA} {p pos : Pos} (C : Cal X.prog X.w X.K X.mg X.base k x ps sp) (hr : Room k X.A) (hg : Gl X x) (ha : PA X (e :: es) t)
    (hdb : (x == ("__debug__" : Str)) = false := by decide) (he : starEach (e :: es) X.env = (false, eval e X.env) :: starEach es X.env := by rfl) (hpl : (backTo pos (starEach es X.env)).any (·.1) = false := by rfl) :
    PE X (.Call (.Name x p) (e :: es) [] pos) (tCall sp [] E0 t) := pe_call C.ok hr hg C.g C.kp C.b .nil pass0 ha hdb he hpl
/-- the built-ins that the text leaves as they are -/
structure Bi (mg : Str → Option Value) : Prop where
  len : mg "len" = none
  range : mg "range" = none
  sum : mg "sum" = none
  max : mg "max" = none
  min : mg "min" = none
  int : mg "int" = none
  isi : mg "isinstance" = none
  list : mg "list" = none
  any : mg "any" = none
  all : mg "all" = none
  zip : mg "zip" = none
  bool : mg "bool" = none
  str : mg "str" = none
  tuple : mg "tuple" = none
  dict : mg "dict" = none
  sorted : mg "sorted" = none
  set : mg "set" = none
  repr : mg "repr" = none
  abs : mg "abs" = none
  enum : mg "enumerate" = none
section
variable {P : Program} {w : World} {K : PySem.W.Frag} {mg : Str → Option Value} {base : Heap}
def Df.cal {x : Str} {st : Stmt} {ps : List Str} {k : Nat} {sp : Sp} (D : Df K mg x st ps) (h : FnOk P w K mg base CX0 k D.f D.fd ps sp) : Cal P w K mg base k x ps sp := ⟨D.f, D.fd, h, D.g, D.F.kp, D.b⟩
/-! ### the draws -/
theorem sc_mixed : FnScope ["seed", "spin", "at", "mixed"] ["seed", "spin", "at"] (defScope st__law_mixed) := ⟨rfl, rfl, rfl, by decide +kernel, rfl, by decide +kernel, by decide +kernel⟩
def spMixed : Sp := fun vs H Q _ => ∃ a b c : Int, vs = [.int a, .int b, .int c] ∧ (-(2 ^ 60) < b ∧ b < 2 ^ 60) ∧ (-(2 ^ 60) < c ∧ c < 2 ^ 60) ∧ ∀ m : Int, 0 ≤ m → m < 2147483587 → Q (.int m) H
theorem ok_mixed (B : Bi mg) (D : Df K mg "_law_mixed" st__law_mixed ["seed", "spin", "at"]) : FnOk P w K mg base CX0 1 D.f D.fd ["seed", "spin", "at"] spMixed := by
  refine D.F.ok sc_mixed (fun vs H Q E h => ?_) (fun cdv A outer s H vs Q E hr h => ?_)
  · obtain ⟨a, b, c, rfl, _⟩ := h
    rfl
  · obtain ⟨a, b, c, rfl, hb, hc, q⟩ := h
    refine ⟨_, pss_cons (ps_set (i := 3) sc_mixed.nd rfl (.inl rfl) (pe_op op_add (pe_op op_mul (pv 0) pe_int) (pe_op op_mul (pe_op op_mul pe_int (pv 1)) (pv 1))))
      (pss_cons (ps_set (i := 3) sc_mixed.nd rfl (.inl rfl) (pe_op op_mod (pe_callTy call_int1 (by rfl) B.int (by decide +kernel) (pa_cons (pe_op op_add (pe_op op_add (pv 3) (pe_op op_mul pe_int (pv 2))) (pv 1)) pa_nil)) pe_int))
      (pss_cons (ps_set (i := 3) sc_mixed.nd rfl (.inl rfl) (pe_op op_mod (pe_callTy call_int1 (by rfl) B.int (by decide +kernel) (pa_cons (pe_op op_add (pe_op op_mul (pv 3) (pv 3)) pe_int) pa_nil)) pe_int))
      (pss_one (ps_ret (pe_op op_mod (pe_callTy call_int1 (by rfl) B.int (by decide +kernel) (pa_cons (pe_op op_mul (pv 3) pe_int) pa_nil)) pe_int))))), ?_⟩
    refine ⟨_, rfl, _, _, rfl, rfl, .inr ⟨by decide, by decide⟩, _, rfl, _, _, rfl, rfl, .inl ⟨by decide, by decide⟩, _, rfl, _, _, rfl, rfl, .inr ⟨by omega, by omega⟩, _, _, rfl, rfl, ?_⟩
    refine ⟨_, rfl, _, rfl, _, _, rfl, rfl, .inl ⟨by decide, by decide⟩, _, _, rfl, rfl, _, rfl, _, _, rfl, rfl, .inl ⟨_, rfl, _, _, rfl, rfl, (by show (0 : Int) < 2147483647; decide), ?_⟩⟩
    generalize (a * 69069 + 104729 * b * b + 7919 * c + b) = z
    have h1 : 0 ≤ z % 2147483647 := Int.emod_nonneg _ (by decide)
    have h2 : z % 2147483647 < 2147483647 := Int.emod_lt_of_pos _ (by decide)
    refine ⟨_, rfl, _, rfl, _, _, rfl, rfl, .inr ⟨by omega, by omega⟩, _, _, rfl, rfl, .inl ⟨_, rfl, _, _, rfl, rfl, (by show (0 : Int) < 2147483629; decide), ?_⟩⟩
    generalize (z % 2147483647 * (z % 2147483647) + 40503) = y
    refine ⟨_, rfl, _, _, rfl, rfl, .inr ⟨by decide, by decide⟩, .inl ⟨_, rfl, _, _, rfl, rfl, (by show (0 : Int) < 2147483587; decide), ?_⟩⟩
    exact q _ (Int.emod_nonneg _ (by decide)) (Int.emod_lt_of_pos _ (by decide))
/-- all but what stands at d is as it was -/
def Kept (H H' : Hp) (d : Addr) : Prop := ∀ b o, b ≠ d → H b = some o → H' b = some o
theorem Kept.trans {H H1 H2 : Hp} {d : Addr} (a : Kept H H1 d) (b : Kept H1 H2 d) : Kept H H2 d := fun c o hc e => b c o hc (a c o hc e)
theorem Kept.of {H H1 : Hp} {d : Addr} (a : Same H H1) : Kept H H1 d := fun c o _ e => a c o e
theorem Kept.upd {H : Hp} {d : Addr} {o : HO} : Kept H (upd H d o) d := fun c u hc e => by
  rw [upd_ne hc]
  exact e
/-- the dice at d; at most n were drawn of its second source -/
def Dice (H : Hp) (d : Addr) (n : Nat) : Prop := ∃ a b c e : Int, H d = some (.lst [.int a, .int b, .int c, .int e]) ∧ (0 ≤ c ∧ c ≤ n) ∧ (-(2 ^ 60) < e ∧ e < 2 ^ 60)
theorem bits_small {m : Int} (h1 : 1 ≤ m) (h2 : m < 134217728) : (1 + (Builtin.Int.intBits m : Int) / 28) = 1 := by
  have : Builtin.Int.intBits m ≤ 27 := by
    unfold Builtin.Int.intBits
    split
    · omega
    · have : m.natAbs.log2 < 27 := PySem.Flt.log2_lt_of (by decide) (by omega)
      omega
  omega
theorem sc_draw : FnScope ["dice", "many", "drawn", "found", "piece"] ["dice", "many"] (defScope st__law_draw) := ⟨rfl, rfl, rfl, by decide +kernel, rfl, by decide +kernel, by decide +kernel⟩
def spDraw : Sp := fun vs H Q _ => ∃ (d : Addr) (m : Int) (n : Nat), vs = [.ref d, .int m] ∧ Dice H d n ∧ n < 2 ^ 59 ∧ 1 ≤ m ∧ m < 134217728 ∧ ∀ (r : Int) (H' : Hp), 0 ≤ r → r < m → Dice H' d (n + 1) → Kept H H' d → Q (.int r) H'
theorem ok_draw (B : Bi mg) (D : Df K mg "_law_draw" st__law_draw ["dice", "many"]) (CM : Cal P w K mg base 1 "_law_mixed" ["seed", "spin", "at"] spMixed) : FnOk P w K mg base CX0 2 D.f D.fd ["dice", "many"] spDraw := by
  refine D.F.ok sc_draw (fun vs H Q E h => ?_) (fun cdv A outer s H vs Q E hr h => ?_)
  · obtain ⟨d, m, n, rfl, _⟩ := h
    rfl
  · obtain ⟨d, m, n, rfl, ⟨a, b, c, e, hd, hc, he⟩, hn, hm1, hm2, q⟩ := h
    refine ⟨_, pss_cons (ps_if (pt_cmpR op_gt (pe_ix ix_list (pv 0) pe_int (fun _ _ => rfl)) pe_int (nomark _))
        (pss_cons (ps_set (i := 2) sc_draw.nd rfl (.inl rfl) (pe_op op_mod (pe_callTy call_int1 (by rfl) B.int (by decide +kernel) (pa_cons (pe_ix ix_list (pv 0) pe_int (fun _ _ => rfl)) pa_nil)) (pv 1)))
        (pss_cons (ps_asg (pe_op op_fdiv (pe_ix ix_list (pv 0) pe_int (fun _ _ => rfl)) (pv 1)) (pg_sub (pv 0) pe_int set_list))
        (pss_one (ps_ret (pv 2))))) pss_nil)
      (pss_cons (ps_set (i := 3) sc_draw.nd rfl (.inl rfl) pe_int)
      (pss_cons (ps_for PassesOwn.never rfl (pi_range1 rfl B.range (pa_cons (pe_op op_add pe_int (pe_op op_fdiv (pe_bits (pv 1)) pe_int)) pa_nil)) (pg_name (i := 4) sc_draw.nd rfl (.inl rfl))
        (pss_cons (ps_asg (pe_op op_add (pe_ix ix_list (pv 0) pe_int (fun _ _ => rfl)) pe_int) (pg_sub (pv 0) pe_int set_list))
        (pss_one (ps_set (i := 3) sc_draw.nd rfl (.inl rfl) (pe_op op_add (pe_op op_mul (pv 3) pe_int) (pcall CM hr (by rfl) (pa_cons (pe_ix ix_list (pv 0) pe_int (fun _ _ => rfl)) (pa_cons (pe_ix ix_list (pv 0) pe_int (fun _ _ => rfl)) (pa_cons (pe_ix ix_list (pv 0) pe_int (fun _ _ => rfl)) pa_nil)))))))))
      (pss_one (ps_ret (pe_op op_mod (pe_callTy call_int1 (by rfl) B.int (by decide +kernel) (pa_cons (pv 3) pa_nil)) (pv 1)))))), ?_⟩
    have hS : SqL K H d [.int a, .int b, .int c, .int e] := .inl (.inl hd)
    refine ⟨_, rfl, d, _, 0, _, rfl, rfl, hS, atI_nat (j := 0) rfl, _, _, rfl, rfl, _, rfl, ite2 (fun _ => ?_) (fun _ => ?_)⟩
    · refine ⟨_, rfl, d, _, 0, _, rfl, rfl, hS, atI_nat (j := 0) rfl, .inl ⟨_, rfl, _, rfl, _, _, rfl, rfl, (by show 0 < m; omega), ?_⟩⟩
      refine ⟨_, rfl, d, _, 0, _, rfl, rfl, hS, atI_nat (j := 0) rfl, _, rfl, _, _, rfl, rfl, ⟨by omega, by omega⟩, _, rfl, d, _, 0, 0, rfl, rfl, hd, rfl, _, rfl, ?_⟩
      refine q _ _ (Int.emod_nonneg _ (by omega)) (Int.emod_lt_of_pos _ (by omega)) ⟨_, _, _, _, upd_same, ⟨hc.1, by omega⟩, he⟩ Kept.upd
    · refine ⟨_, rfl, _, rfl, _, _, rfl, rfl, ⟨by decide, by decide⟩, _, _, rfl, rfl, ?_⟩
      refine ⟨(1 : Int), congrArg (fun z => [V.int z]) (bits_small hm1 hm2), by decide, by decide, for_range (lo := 0) (n := 1) (fun i σ H2 => ∃ (f c' : Int) (y : Option V), σ = [some (.ref d), some (.int m), none, some (.int f), y] ∧ (0 ≤ c' ∧ c' ≤ n + i) ∧ H2 d = some (.lst [.int a, .int b, .int c', .int e]) ∧ Kept H H2 d)
        ⟨0, c, none, rfl, ⟨hc.1, by omega⟩, hd, fun _ _ _ z => z⟩ ?_ ?_⟩
      · rintro i σ H2 hi ⟨f, c', y, rfl, hc', hd2, hk⟩
        have hS2 : SqL K H2 d [.int a, .int b, .int c', .int e] := .inl (.inl hd2)
        refine ⟨_, rfl, d, _, 2, _, rfl, rfl, hS2, atI_nat (j := 2) rfl, _, _, rfl, rfl, _, rfl, d, _, 2, 2, rfl, rfl, hd2, rfl, ?_⟩
        have hS3 : SqL K (upd H2 d (.lst [.int a, .int b, .int (c' + 1), .int e])) d [.int a, .int b, .int (c' + 1), .int e] := .inl (.inl upd_same)
        refine ⟨_, rfl, _, _, rfl, rfl, .inr ⟨by decide, by decide⟩, _, rfl, d, _, 1, _, rfl, rfl, hS3, atI_nat (j := 1) rfl, _, rfl, d, _, 2, _, rfl, rfl, hS3, atI_nat (j := 2) rfl, _, rfl, d, _, 3, _, rfl, rfl, hS3, atI_nat (j := 3) rfl, ?_⟩
        refine ⟨_, _, _, rfl, ⟨by omega, by omega⟩, he, fun r h1 h2 => ⟨_, _, rfl, rfl, ?_⟩⟩
        exact ⟨_, _, _, rfl, ⟨by omega, by omega⟩, upd_same, hk.trans Kept.upd⟩
      · rintro σ H2 ⟨f, c', y, rfl, hc', hd2, hk⟩
        refine ⟨_, rfl, .inl ⟨_, rfl, _, rfl, _, _, rfl, rfl, (by show 0 < m; omega), ?_⟩⟩
        exact q _ _ (Int.emod_nonneg _ (by omega)) (Int.emod_lt_of_pos _ (by omega)) ⟨_, _, _, _, hd2, ⟨hc'.1, by omega⟩, he⟩ hk
end
end K4
set_option Elab.async false
set_option linter.all false
set_option maxRecDepth 100000
set_option maxHeartbeats 4000000
namespace K4
open PySem PySem.Spec PyProof.Rows L2 K4M
/-! ### values that are compared deeply -/
def Flat : V → Prop
  | .non => True
  | .bl _ => True
  | .int _ => True
  | .str _ => True
  | _ => False
def tn : V → String
  | .non => "NoneType"
  | .bl _ => "bool"
  | .int _ => "int"
  | _ => "str"
def isInt : V → Bool
  | .int _ => true
  | .bl _ => true
  | _ => false
def isBl : V → Bool
  | .bl _ => true
  | _ => false
def isStr : V → Bool
  | .str _ => true
  | _ => false
section
variable {K : PySem.W.Frag} {H : Hp} {x : V}
theorem Flat.ty (h : Flat x) : TyX K H x (.type (tn x)) := by
  cases x with
  | non => exact .base .non
  | bl b => exact .base (.bl b)
  | int i => exact .base (.int i)
  | str y => exact .base (.str y)
  | _ => exact h.elim
theorem Flat.no (h : Flat x) {c : String} (hc : c = "list" ∨ c = "tuple" ∨ c = "dict") : PySem.W.kitOne K (.type (tn x)) (.type c) = some false := by
  cases x with
  | non => rcases hc with rfl | rfl | rfl <;> exact kit_ty (a := "NoneType") (r := false) (by decide +kernel)
  | bl b => rcases hc with rfl | rfl | rfl <;> exact kit_ty (a := "bool") (r := false) (by decide +kernel)
  | int i => rcases hc with rfl | rfl | rfl <;> exact kit_ty (a := "int") (r := false) (by decide +kernel)
  | str y => rcases hc with rfl | rfl | rfl <;> exact kit_ty (a := "str") (r := false) (by decide +kernel)
  | _ => exact h.elim
theorem Flat.kInt (h : Flat x) : PySem.W.kitOne K (.type (tn x)) (.type "int") = some (isInt x) := by
  cases x with
  | non => exact kit_ty (a := "NoneType") (r := false) (by decide +kernel)
  | bl b => exact kit_ty (a := "bool") (r := true) (by decide +kernel)
  | int i => exact kit_ty (a := "int") (r := true) (by decide +kernel)
  | str y => exact kit_ty (a := "str") (r := false) (by decide +kernel)
  | _ => exact h.elim
theorem Flat.kStr (h : Flat x) : PySem.W.kitOne K (.type (tn x)) (.type "str") = some (isStr x) := by
  cases x with
  | non => exact kit_ty (a := "NoneType") (r := false) (by decide +kernel)
  | bl b => exact kit_ty (a := "bool") (r := false) (by decide +kernel)
  | int i => exact kit_ty (a := "int") (r := false) (by decide +kernel)
  | str y => exact kit_ty (a := "str") (r := true) (by decide +kernel)
  | _ => exact h.elim
theorem Flat.kBl (h : Flat x) : PySem.W.kitOne K (.type (tn x)) (.type "bool") = some (isBl x) := by
  cases x with
  | non => exact kit_ty (a := "NoneType") (r := false) (by decide +kernel)
  | bl b => exact kit_ty (a := "bool") (r := true) (by decide +kernel)
  | int i => exact kit_ty (a := "int") (r := false) (by decide +kernel)
  | str y => exact kit_ty (a := "str") (r := false) (by decide +kernel)
  | _ => exact h.elim
theorem Flat.scal (h : Flat x) : scal x x = true := by
  cases x with
  | non => rfl
  | bl b => rfl
  | int i => rfl
  | str y => rfl
  | _ => exact h.elim
theorem sql_ty {a : Addr} {xs : List V} (h : SqL K H a xs) : TyX K H (.ref a) (.type "list") := by
  rcases h with (h | ⟨o, h⟩) | ⟨o, its, n, h, hc, _⟩
  · exact .base (.lst h)
  · exact .base (.frz h)
  · exact .kList h hc
theorem sqt_ty {a : Addr} {xs : List V} (h : SqT K H a xs) : TyX K H (.ref a) (.type "tuple") := by
  rcases h with (h | ⟨o, h⟩) | ⟨o, its, n, h, hc, _⟩
  · exact .base (.tup h)
  · exact .fTuple h
  · exact .kTuple h hc
theorem Same.sqt {H' : Hp} {a : Addr} {xs : List V} (e : Same H H') (h : SqT K H a xs) : SqT K H' a xs := by
  rcases h with (h | ⟨o, h⟩) | h
  · exact .inl (.inl (e _ _ h))
  · exact .inl (.inr ⟨o, e _ _ h⟩)
  · exact .inr h
end
/-- x and y tell the same, n deep -/
def Eqv (K : PySem.W.Frag) (H : Hp) : Nat → V → V → Prop
  | 0, x, y => x = y ∧ Flat x
  | n + 1, x, y => (x = y ∧ Flat x) ∨ ∃ (a b : Addr) (xs ys : List V), x = .ref a ∧ y = .ref b ∧ xs.length ≤ 100000 ∧ xs.length = ys.length ∧ ((SqL K H a xs ∧ SqL K H b ys) ∨ (SqT K H a xs ∧ SqT K H b ys)) ∧
      ∀ (i : Nat) (u v : V), xs[i]? = some u → ys[i]? = some v → Eqv K H n u v
theorem Eqv.same {K : PySem.W.Frag} {H H' : Hp} (e : Same H H') : ∀ {n : Nat} {x y : V}, Eqv K H n x y → Eqv K H' n x y
  | 0, _, _, h => h
  | n + 1, x, y, h => by
    rcases h with h | ⟨a, b, xs, ys, rfl, rfl, h1, h2, h3, h4⟩
    · exact .inl h
    · refine .inr ⟨a, b, xs, ys, rfl, rfl, h1, h2, ?_, fun i u v hu hv => (h4 i u v hu hv).same e⟩
      rcases h3 with ⟨q1, q2⟩ | ⟨q1, q2⟩
      · exact .inl ⟨e.seq q1, e.seq q2⟩
      · exact .inr ⟨Same.sqt e q1, Same.sqt e q2⟩
theorem Eqv.flat {K : PySem.W.Frag} {H : Hp} {n : Nat} {x : V} (h : Flat x) : Eqv K H n x x := by
  cases n with
  | zero => exact ⟨rfl, h⟩
  | succ n => exact .inl ⟨rfl, h⟩
theorem Eqv.list {K : PySem.W.Frag} {H : Hp} {n : Nat} {a b : Addr} {xs : List V} (ha : SqL K H a xs) (hb : SqL K H b xs) (hl : xs.length ≤ 100000) (hf : ∀ x ∈ xs, Flat x) : Eqv K H (n + 1) (.ref a) (.ref b) :=
  .inr ⟨a, b, xs, xs, rfl, rfl, hl, rfl, .inl ⟨ha, hb⟩, fun i u v hu hv => by
    rw [hu] at hv
    cases hv
    exact Eqv.flat (hf u (List.mem_of_getElem? hu))⟩
theorem Eqv.tup {K : PySem.W.Frag} {H : Hp} {n : Nat} {a b : Addr} {xs : List V} (ha : SqT K H a xs) (hb : SqT K H b xs) (hl : xs.length ≤ 100000) (hf : ∀ x ∈ xs, Flat x) : Eqv K H (n + 1) (.ref a) (.ref b) :=
  .inr ⟨a, b, xs, xs, rfl, rfl, hl, rfl, .inr ⟨ha, hb⟩, fun i u v hu hv => by
    rw [hu] at hv
    cases hv
    exact Eqv.flat (hf u (List.mem_of_getElem? hu))⟩
theorem dec_self (x : V) : decide (x = x) = true := decide_eq_true rfl
/-! ### a comprehension over zip -/
theorem lc_zipL {K : PySem.W.Frag} {a b : Addr} {xs ys : List V} {g : TG} {tt : TT} {te : TE} {vs : List Nat} {σ : L2.St} {H1 : Hp} {D : Addr} {Qd : Hp → Prop} (hl : xs.length = ys.length) (Pv : Nat → Hp → Prop) (h0 : Pv 0 (upd H1 D (.lst []))) (hq : ∀ i H, Pv i H → SqL K H a xs ∧ SqL K H b ys)
    (hs : ∀ (i : Nat) (x y : V) (T : Addr) (H : Hp), xs[i]? = some x → ys[i]? = some y → Pv i H → H T = none → g (.ref T) (wipe σ vs) (upd H T (.tup [x, y])) fun σ2 H2 => wipe σ2 vs = wipe σ vs ∧ tt σ2 H2 fun c H3 =>
      if c = true then te σ2 H3 fun y H4 => ∃ acc, H4 D = some (.lst acc) ∧ acc.length < sizeLine ∧ Pv (i + 1) (upd H4 D (.lst (acc ++ [y]))) else Pv (i + 1) H3) (hd : ∀ H, Pv xs.length H → Qd H) :
    ∃ W : Nat → Nat → Hp → Prop, (∃ m, W 0 m (upd H1 D (.lst []))) ∧ ∀ i m H, W i m H →
      ((Itz K a b).stop i H ∧ Qd H) ∨ ((Itz K a b).go i H ∧ ∃ Nx : Hp → Prop, (∀ H', Nx H' → ∃ m', m' < m ∧ W (i + 1) m' H') ∧ ∀ x H', (Itz K a b).yld i H x H' → g x (wipe σ vs) H' fun σ2 H2 => wipe σ2 vs = wipe σ vs ∧ tt σ2 H2 fun c H3 =>
        if c = true then te σ2 H3 fun y H4 => ∃ acc, H4 D = some (.lst acc) ∧ acc.length < sizeLine ∧ Nx (upd H4 D (.lst (acc ++ [y]))) else Nx H3) := by
  refine ⟨fun i m H => m = xs.length - i ∧ i ≤ xs.length ∧ Pv i H, ⟨xs.length, rfl, Nat.zero_le _, h0⟩, ?_⟩
  rintro i m H ⟨rfl, hi, p⟩
  obtain ⟨qx, qy⟩ := hq i H p
  by_cases hlt : i < xs.length
  · have hx : xs[i]? = some xs[i] := List.getElem?_eq_getElem hlt
    have hlt2 : i < ys.length := by omega
    have hy : ys[i]? = some ys[i] := List.getElem?_eq_getElem hlt2
    refine .inr ⟨⟨xs, ys, _, _, qx, qy, hx, hy⟩, Pv (i + 1), fun H' p' => ⟨xs.length - (i + 1), by omega, rfl, hlt, p'⟩, fun v H' y => ?_⟩
    obtain ⟨T, x', y', rfl, hT, rfl, f1, f2⟩ := y
    exact hs i x' y' T H (f1 xs qx) (f2 ys qy) p hT
  · have e : i = xs.length := by omega
    subst e
    exact .inl ⟨⟨xs, ys, qx, qy, Or.inl (Nat.le_refl _)⟩, hd H p⟩
theorem lc_zipT {K : PySem.W.Frag} {a b : Addr} {xs ys : List V} {g : TG} {tt : TT} {te : TE} {vs : List Nat} {σ : L2.St} {H1 : Hp} {D : Addr} {Qd : Hp → Prop} (hl : xs.length = ys.length) (Pv : Nat → Hp → Prop) (h0 : Pv 0 (upd H1 D (.lst []))) (hq : ∀ i H, Pv i H → SqT K H a xs ∧ SqT K H b ys)
    (hs : ∀ (i : Nat) (x y : V) (T : Addr) (H : Hp), xs[i]? = some x → ys[i]? = some y → Pv i H → H T = none → g (.ref T) (wipe σ vs) (upd H T (.tup [x, y])) fun σ2 H2 => wipe σ2 vs = wipe σ vs ∧ tt σ2 H2 fun c H3 =>
      if c = true then te σ2 H3 fun y H4 => ∃ acc, H4 D = some (.lst acc) ∧ acc.length < sizeLine ∧ Pv (i + 1) (upd H4 D (.lst (acc ++ [y]))) else Pv (i + 1) H3) (hd : ∀ H, Pv xs.length H → Qd H) :
    ∃ W : Nat → Nat → Hp → Prop, (∃ m, W 0 m (upd H1 D (.lst []))) ∧ ∀ i m H, W i m H →
      ((RZ.ItzT K a b).stop i H ∧ Qd H) ∨ ((RZ.ItzT K a b).go i H ∧ ∃ Nx : Hp → Prop, (∀ H', Nx H' → ∃ m', m' < m ∧ W (i + 1) m' H') ∧ ∀ x H', (RZ.ItzT K a b).yld i H x H' → g x (wipe σ vs) H' fun σ2 H2 => wipe σ2 vs = wipe σ vs ∧ tt σ2 H2 fun c H3 =>
        if c = true then te σ2 H3 fun y H4 => ∃ acc, H4 D = some (.lst acc) ∧ acc.length < sizeLine ∧ Nx (upd H4 D (.lst (acc ++ [y]))) else Nx H3) := by
  refine ⟨fun i m H => m = xs.length - i ∧ i ≤ xs.length ∧ Pv i H, ⟨xs.length, rfl, Nat.zero_le _, h0⟩, ?_⟩
  rintro i m H ⟨rfl, hi, p⟩
  obtain ⟨qx, qy⟩ := hq i H p
  by_cases hlt : i < xs.length
  · have hx : xs[i]? = some xs[i] := List.getElem?_eq_getElem hlt
    have hlt2 : i < ys.length := by omega
    have hy : ys[i]? = some ys[i] := List.getElem?_eq_getElem hlt2
    refine .inr ⟨⟨xs, ys, _, _, qx, qy, hx, hy⟩, Pv (i + 1), fun H' p' => ⟨xs.length - (i + 1), by omega, rfl, hlt, p'⟩, fun v H' y => ?_⟩
    obtain ⟨T, x', y', rfl, hT, rfl, f1, f2⟩ := y
    exact hs i x' y' T H (f1 xs qx) (f2 ys qy) p hT
  · have e : i = xs.length := by omega
    subst e
    exact .inl ⟨⟨xs, ys, qx, qy, Or.inl (Nat.le_refl _)⟩, hd H p⟩
section
variable {P : Program} {w : World} {K : PySem.W.Frag} {mg : Str → Option Value} {base : Heap}
/-! ### exact -/
theorem sc_exact : FnScope ["mine", "theirs", "is_like", "a", "b", "key"] ["mine", "theirs"] (defScope st__law_exact) := ⟨rfl, rfl, rfl, by decide +kernel, rfl, by decide +kernel, by decide +kernel⟩
def spExact (K : PySem.W.Frag) (n : Nat) : Sp := fun vs H Q _ => ∃ x y : V, vs = [x, y] ∧ Eqv K H n x y ∧ ∀ H', Same H H' → Q (.bl true) H'
theorem lcls (a b : String) : Paired ClsV [.ty a, .ty b] [.type a, .type b] := .cons (.ty _) (.cons (.ty _) .nil)
theorem lcls3 (a b c : String) : Paired ClsV [.ty a, .ty b, .ty c] [.type a, .type b, .type c] := .cons (.ty _) (.cons (.ty _) (.cons (.ty _) .nil))
theorem exact_flat (B : Bi mg) (D : Df K mg "_law_exact" st__law_exact ["mine", "theirs"]) {k : Nat} {cdv : Value} {A : Around} {outer : List Env} {s : Shared} {H : Hp} {x : V} {Q : VK} {E : XK} (hf : Flat x) (q : ∀ H', Same H H' → Q (.bl true) H') :
    ∃ t, PSs (cxOf CX0 P w K mg base ["mine", "theirs", "is_like", "a", "b", "key"] "_law_exact" (defScope st__law_exact) D.f cdv A outer s H E).nox (defBody st__law_exact) t ∧ t { nx := fun _ H' => Q .non H', rt := Q } (start ["mine", "theirs", "is_like", "a", "b", "key"] [x, x]) H := by
  refine ⟨_, pss_cons (ps_if (pt_val (pe_callB call_isiT (by rfl) B.isi (by decide +kernel) (pa_cons (pv 0) (pa_cons (pe_tup (pa_cons (pe_bltn (v := .ty "list") (by rfl) B.list (by decide +kernel) rfl) (pa_cons (pe_bltn (v := .ty "tuple") (by rfl) B.tuple (by decide +kernel) rfl) pa_nil))) pa_nil)))) pss_never pss_nil)
    (pss_cons (ps_if (pt_val (pe_callB call_isi (by rfl) B.isi (by decide +kernel) (pa_cons (pv 0) (pa_cons (pe_bltn (v := .ty "dict") (by rfl) B.dict (by decide +kernel) rfl) pa_nil)))) pss_never pss_nil)
    (pss_cons (ps_if (PW.pt (pw_or (pt_val (pe_callB call_isiT (by rfl) B.isi (by decide +kernel) (pa_cons (pv 1) (pa_cons (pe_tup (pa_cons (pe_bltn (v := .ty "list") (by rfl) B.list (by decide +kernel) rfl) (pa_cons (pe_bltn (v := .ty "tuple") (by rfl) B.tuple (by decide +kernel) rfl) (pa_cons (pe_bltn (v := .ty "dict") (by rfl) B.dict (by decide +kernel) rfl) pa_nil)))) pa_nil))))
        (pw_or1 (pt_cmpR op_ne (pe_cmpR op_isN (pv 0) pe_non (nomark _)) (pe_cmpR op_isN (pv 1) pe_non (nomark _)) (nomark _))))) pss_never pss_nil)
    (pss_cons (ps_set (i := 2) sc_exact.nd rfl (.inl rfl) (pe_and (pe_cmpR op_eq (pe_callB call_isi (by rfl) B.isi (by decide +kernel) (pa_cons (pv 0) (pa_cons (pe_bltn (v := .ty "int") (by rfl) B.int (by decide +kernel) rfl) pa_nil))) (pe_callB call_isi (by rfl) B.isi (by decide +kernel) (pa_cons (pv 1) (pa_cons (pe_bltn (v := .ty "int") (by rfl) B.int (by decide +kernel) rfl) pa_nil))) (nomark _))
        (pe_one (pe_cmpR op_eq (pe_callB call_isi (by rfl) B.isi (by decide +kernel) (pa_cons (pv 0) (pa_cons (pe_bltn (v := .ty "str") (by rfl) B.str (by decide +kernel) rfl) pa_nil))) (pe_callB call_isi (by rfl) B.isi (by decide +kernel) (pa_cons (pv 1) (pa_cons (pe_bltn (v := .ty "str") (by rfl) B.str (by decide +kernel) rfl) pa_nil))) (nomark _)))))
    (pss_one (ps_ret (pe_and (pv 2) (pe_and (pe_cmpR op_eq (pe_callB call_isi (by rfl) B.isi (by decide +kernel) (pa_cons (pv 0) (pa_cons (pe_bltn (v := .ty "bool") (by rfl) B.bool (by decide +kernel) rfl) pa_nil))) (pe_callB call_isi (by rfl) B.isi (by decide +kernel) (pa_cons (pv 1) (pa_cons (pe_bltn (v := .ty "bool") (by rfl) B.bool (by decide +kernel) rfl) pa_nil))) (nomark _))
        (pe_one (pe_cmpR op_eq (pv 0) (pv 1) (nomark _)))))))))), ?_⟩
  refine ⟨x, rfl, (by decide), fun p hp => ?_⟩
  refine ⟨x, p, _, _, _, false, rfl, upd_same, lcls _ _, hf.ty, kitAny_cons (hf.no (.inl rfl)) (fun _ => kitAny_cons (hf.no (.inr (.inl rfl))) (fun _ => kitAny_nil) (fun z => nomatch z)) (fun z => nomatch z), _, rfl, iteF ?_⟩
  refine ⟨x, rfl, x, _, _, _, false, rfl, .ty _, hf.ty, hf.no (.inr (.inr rfl)), _, rfl, iteF ?_⟩
  refine ⟨x, rfl, (by decide), fun p2 hp2 => ?_⟩
  refine ⟨x, p2, _, _, _, false, rfl, upd_same, lcls3 _ _ _, hf.ty, kitAny_cons (hf.no (.inl rfl)) (fun _ => kitAny_cons (hf.no (.inr (.inl rfl))) (fun _ => kitAny_cons (hf.no (.inr (.inr rfl))) (fun _ => kitAny_nil) (fun z => nomatch z)) (fun z => nomatch z)) (fun z => nomatch z), _, rfl, iteF ?_⟩
  refine ⟨x, rfl, rfl, x, rfl, rfl, rfl, _, rfl, ?_⟩
  rw [dec_self]
  refine iteF ?_
  refine ⟨x, rfl, x, _, _, _, isInt x, rfl, .ty _, hf.ty, hf.kInt, x, rfl, x, _, _, _, isInt x, rfl, .ty _, hf.ty, hf.kInt, rfl, _, rfl, ?_⟩
  rw [dec_self]
  refine iteT ?_
  refine ⟨x, rfl, x, _, _, _, isStr x, rfl, .ty _, hf.ty, hf.kStr, x, rfl, x, _, _, _, isStr x, rfl, .ty _, hf.ty, hf.kStr, rfl, ?_⟩
  rw [dec_self]
  refine ⟨_, rfl, _, rfl, iteT ?_⟩
  refine ⟨x, rfl, x, _, _, _, isBl x, rfl, .ty _, hf.ty, hf.kBl, x, rfl, x, _, _, _, isBl x, rfl, .ty _, hf.ty, hf.kBl, rfl, _, rfl, ?_⟩
  rw [dec_self]
  refine iteT ?_
  refine ⟨x, rfl, x, rfl, hf.scal, ?_⟩
  rw [dec_self]
  exact q _ ((same_upd hp).trans (same_upd hp2))
end
end K4
set_option Elab.async false
set_option linter.all false
set_option maxRecDepth 100000
set_option maxHeartbeats 4000000
namespace K4
open PySem PySem.Spec PyProof.Rows L2 K4M
theorem kit_ll {K : PySem.W.Frag} {a : String} (h : kitB a a = some true) : PySem.W.kitOne K (.type a) (.type a) = some true := kit_ty h
theorem Kept.seq {K : PySem.W.Frag} {H H' : Hp} {d a : Addr} {xs : List V} (e : Kept H H' d) (hne : a ≠ d) (h : SqL K H a xs) : SqL K H' a xs := by
  rcases h with (h | ⟨o, h⟩) | h
  · exact .inl (.inl (e _ _ hne h))
  · exact .inl (.inr ⟨o, e _ _ hne h⟩)
  · exact .inr h
theorem Same.dice {H H' : Hp} {d : Addr} {n : Nat} (e : Same H H') (h : Dice H d n) : Dice H' d n := by
  obtain ⟨a, b, c, x, hd, r⟩ := h
  exact ⟨a, b, c, x, e _ _ hd, r⟩
theorem Dice.more {H : Hp} {d : Addr} {n m : Nat} (h : Dice H d n) (hm : n ≤ m) : Dice H d m := by
  obtain ⟨a, b, c, x, hd, r, z⟩ := h
  exact ⟨a, b, c, x, hd, ⟨r.1, by omega⟩, z⟩
theorem Dice.some {H : Hp} {d : Addr} {n : Nat} (h : Dice H d n) : ∃ o, H d = some o := by
  obtain ⟨a, b, c, x, hd, _⟩ := h
  exact ⟨_, hd⟩
theorem cutV_map {α : Type} (f : α → V) (ns : List α) (lo hi : Option Int) : ∃ ms : List α, cutV (ns.map f) lo hi = ms.map f := by
  unfold cutV
  rw [← List.map_drop, ← List.map_take]
  exact ⟨_, rfl⟩
section
variable {P : Program} {w : World} {K : PySem.W.Frag} {mg : Str → Option Value} {base : Heap}
theorem ok_exact (B : Bi mg) (D : Df K mg "_law_exact" st__law_exact ["mine", "theirs"]) : ∀ n : Nat, FnOk P w K mg base CX0 (n + 1) D.f D.fd ["mine", "theirs"] (spExact K n)
  | 0 => by
    refine D.F.ok sc_exact (fun vs H Q E h => ?_) (fun cdv A outer s H vs Q E hr h => ?_)
    · obtain ⟨x, y, rfl, _⟩ := h
      rfl
    · obtain ⟨x, y, rfl, ⟨rfl, hf⟩, q⟩ := h
      exact exact_flat B D (k := 0) hf q
  | n + 1 => by
    have C : Cal P w K mg base (n + 1) "_law_exact" ["mine", "theirs"] (spExact K n) := D.cal (ok_exact B D n)
    refine D.F.ok sc_exact (fun vs H Q E h => ?_) (fun cdv A outer s H vs Q E hr h => ?_)
    · obtain ⟨x, y, rfl, _⟩ := h
      rfl
    · obtain ⟨x, y, rfl, h, q⟩ := h
      rcases h with ⟨rfl, hf⟩ | ⟨a, b, xs, ys, rfl, rfl, h1, h2, h3, h4⟩
      · exact exact_flat B D (k := n + 1) hf q
      · refine ⟨_, pss_cons (ps_if (pt_val (pe_callB call_isiT (by rfl) B.isi (by decide +kernel) (pa_cons (pv 0) (pa_cons (pe_tup (pa_cons (pe_bltn (v := .ty "list") (by rfl) B.list (by decide +kernel) rfl) (pa_cons (pe_bltn (v := .ty "tuple") (by rfl) B.tuple (by decide +kernel) rfl) pa_nil))) pa_nil))))
            (pss_cons (ps_set (i := 2) sc_exact.nd rfl (.inl rfl) (pe_and (pe_cmpR op_eq (pe_callB call_isi (by rfl) B.isi (by decide +kernel) (pa_cons (pv 1) (pa_cons (pe_bltn (v := .ty "list") (by rfl) B.list (by decide +kernel) rfl) pa_nil))) (pe_callB call_isi (by rfl) B.isi (by decide +kernel) (pa_cons (pv 0) (pa_cons (pe_bltn (v := .ty "list") (by rfl) B.list (by decide +kernel) rfl) pa_nil))) (nomark _))
              (pe_one (pe_cmpR op_eq (pe_callB call_isi (by rfl) B.isi (by decide +kernel) (pa_cons (pv 1) (pa_cons (pe_bltn (v := .ty "tuple") (by rfl) B.tuple (by decide +kernel) rfl) pa_nil))) (pe_callB call_isi (by rfl) B.isi (by decide +kernel) (pa_cons (pv 0) (pa_cons (pe_bltn (v := .ty "tuple") (by rfl) B.tuple (by decide +kernel) rfl) pa_nil))) (nomark _)))))
            (pss_one (ps_ret (pe_and (pv 2) (pe_and (pe_cmpR op_eq (pe_callB call_len_seq (by rfl) B.len PySem.boot_len (pa_cons (pv 0) pa_nil)) (pe_callB call_len_seq (by rfl) B.len PySem.boot_len (pa_cons (pv 1) pa_nil)) (nomark _))
              (pe_one (pe_callB (cr_all rfl) (by rfl) B.all (by decide +kernel) (pa_cons (pe_lc (own := [("a", 3), ("b", 4)]) (g := gTup K 2 (gCons (gName 3) (gCons (gName 4) gNil))) (tt := tYes) (by rfl) sc_exact.nd
                (RZ.pi_zipA (by rfl) B.zip (pa_cons (pv 0) (pa_cons (pv 1) pa_nil))) (blkOk_by (N := ["mine", "theirs", "is_like", "a", "b", "key"]) (sc := defScope st__law_exact) (by decide +kernel))
                (fun _ _ _ _ _ => pg_tup rfl (pgs_cons (pg_name (i := 3) sc_exact.nd rfl (.inl rfl)) (pgs_cons (pg_name (i := 4) sc_exact.nd rfl (.inl rfl)) pgs_nil)))
                (fun _ _ _ _ _ => pts_nil)
                (fun _ _ _ _ _ => pcall C hr (by rfl) (pa_cons (pv 3) (pa_cons (pv 4) pa_nil)))) pa_nil)))))))) pss_nil)
          pss_never, ?_⟩
        have eb : ∃ bL bT : Bool, ∃ T : Value, ∀ H', Same H H' → TyX K H' (.ref a) T ∧ TyX K H' (.ref b) T ∧ PySem.W.kitOne K T (.type "list") = some bL ∧ PySem.W.kitOne K T (.type "tuple") = some bT ∧ PySem.W.kitAny K T [.type "list", .type "tuple"] = some true := by
          rcases h3 with ⟨q1, q2⟩ | ⟨q1, q2⟩
          · refine ⟨true, false, .type "list", fun H' sm => ⟨sql_ty (sm.seq q1), sql_ty (sm.seq q2), kit_ty (by decide +kernel), kit_ty (by decide +kernel), kitAny_cons (b := true) (kit_ty (by decide +kernel)) (fun z => nomatch z) (fun _ => rfl)⟩⟩
          · refine ⟨false, true, .type "tuple", fun H' sm => ⟨sqt_ty (Same.sqt sm q1), sqt_ty (Same.sqt sm q2), kit_ty (by decide +kernel), kit_ty (by decide +kernel), kitAny_cons (b := false) (kit_ty (by decide +kernel)) (fun _ => kitAny_cons (b := true) (kit_ty (by decide +kernel)) (fun z => nomatch z) (fun _ => rfl)) (fun z => nomatch z)⟩⟩
        obtain ⟨bL, bT, T, hT⟩ := eb
        refine ⟨.ref a, rfl, (by decide), fun p hp => ?_⟩
        have s1 : Same H (upd H p (.tup [.ty "list", .ty "tuple"])) := same_upd hp
        obtain ⟨ta, tb, kL, kT, kA⟩ := hT _ s1
        refine ⟨.ref a, p, _, T, _, true, rfl, upd_same, lcls _ _, ta, kA, _, rfl, iteT ?_⟩
        refine ⟨.ref b, rfl, .ref b, _, T, _, bL, rfl, .ty _, tb, kL, .ref a, rfl, .ref a, _, T, _, bL, rfl, .ty _, ta, kL, rfl, _, rfl, ?_⟩
        rw [dec_self]
        refine iteT ?_
        refine ⟨.ref b, rfl, .ref b, _, T, _, bT, rfl, .ty _, tb, kT, .ref a, rfl, .ref a, _, T, _, bT, rfl, .ty _, ta, kT, rfl, ?_⟩
        rw [dec_self]
        refine ⟨_, rfl, _, rfl, iteT ?_⟩
        have hq : ∀ H', Same H H' → (SqL K H' a xs ∨ SqT K H' a xs) ∧ (SqL K H' b ys ∨ SqT K H' b ys) := fun H' sm => by
          rcases h3 with ⟨q1, q2⟩ | ⟨q1, q2⟩
          · exact ⟨.inl (sm.seq q1), .inl (sm.seq q2)⟩
          · exact ⟨.inr (Same.sqt sm q1), .inr (Same.sqt sm q2)⟩
        refine ⟨.ref a, rfl, a, xs, rfl, (hq _ s1).1, .ref b, rfl, b, ys, rfl, (hq _ s1).2, rfl, _, rfl, ?_⟩
        rw [← h2, dec_self]
        refine iteT ?_
        have key : ∀ {H2 : Hp} {DD : Addr}, Same H H2 → H2 DD = some (.lst ((List.replicate xs.length true).map V.bl)) → rAll K [.ref DD] H2 fun v H3 => Q v H3 := fun {H2 DD} sm hD => by
          refine ⟨DD, _, rfl, .inl (.inl hD), ?_⟩
          rw [show (List.replicate xs.length true).all id = true by simp]
          exact q _ sm
        have turn : ∀ (DD : Addr) (i : Nat) (u v : V) (T : Addr) (H3 : Hp) , H DD = none → xs[i]? = some u → ys[i]? = some v → (Same H H3 ∧ H3 DD = some (.lst ((List.replicate i true).map V.bl))) → H3 T = none →
            spExact K n [u, v] (upd H3 T (.tup [u, v])) (fun y H4 => ∃ acc, H4 DD = some (.lst acc) ∧ acc.length < sizeLine ∧ (Same H (upd H4 DD (.lst (acc ++ [y]))) ∧ (upd H4 DD (.lst (acc ++ [y]))) DD = some (.lst ((List.replicate (i + 1) true).map V.bl)))) E0 := fun DD i u v T H3 hDn hu hv ⟨sm, hD⟩ hTn => by
          have sT : Same H3 (upd H3 T (.tup [u, v])) := same_upd hTn
          refine ⟨u, v, rfl, (h4 i u v hu hv).same (sm.trans sT), fun H4 s4 => ?_⟩
          have hi : i < xs.length := (List.getElem?_eq_some_iff.mp hu).1
          refine ⟨_, s4 _ _ (sT _ _ hD), ?_, fun c o e => ?_, ?_⟩
          · rw [List.length_map, List.length_replicate]
            have e : sizeLine = 16777216 := by decide
            omega
          · have hc : c ≠ DD := ne_of_none e hDn
            rw [upd_ne hc]
            exact s4 _ _ (sT _ _ (sm _ _ e))
          · rw [upd_same, List.replicate_succ', List.map_append]
            rfl
        refine ⟨.ref a, rfl, .ref b, rfl, a, b, xs, ys, rfl, ?_⟩
        rcases h3 with ⟨q1, q2⟩ | ⟨q1, q2⟩
        · refine .inl ⟨s1.seq q1, s1.seq q2, fun DD hD => ?_⟩
          have hDn : H DD = none := s1.free hD
          refine lc_zipL h2 (fun i H3 => Same H H3 ∧ H3 DD = some (.lst ((List.replicate i true).map V.bl))) ⟨s1.trans (same_upd hD), upd_same⟩ (fun i H3 z => ⟨z.1.seq q1, z.1.seq q2⟩) (fun i u v T H3 hu hv z hTn => ?_) (fun H3 z => key z.1 z.2)
          refine ⟨T, [u, v], rfl, .inl (.inl upd_same), rfl, u, [v], rfl, v, [], rfl, rfl, rfl, ?_⟩
          exact ⟨u, rfl, v, rfl, turn DD i u v T H3 hDn hu hv z hTn⟩
        · refine .inr ⟨Same.sqt s1 q1, Same.sqt s1 q2, fun DD hD => ?_⟩
          have hDn : H DD = none := s1.free hD
          refine lc_zipT h2 (fun i H3 => Same H H3 ∧ H3 DD = some (.lst ((List.replicate i true).map V.bl))) ⟨s1.trans (same_upd hD), upd_same⟩ (fun i H3 z => ⟨Same.sqt z.1 q1, Same.sqt z.1 q2⟩) (fun i u v T H3 hu hv z hTn => ?_) (fun H3 z => key z.1 z.2)
          refine ⟨T, [u, v], rfl, .inl (.inl upd_same), rfl, u, [v], rfl, v, [], rfl, rfl, rfl, ?_⟩
          exact ⟨u, rfl, v, rfl, turn DD i u v T H3 hDn hu hv z hTn⟩
/-! ### one of some -/
theorem sc_one_of : FnScope ["dice", "some"] ["dice", "some"] (defScope st__law_one_of) := ⟨rfl, rfl, rfl, by decide +kernel, rfl, by decide +kernel, by decide +kernel⟩
def spOne (K : PySem.W.Frag) : Sp := fun vs H Q _ => ∃ (d l : Addr) (n : Nat) (xs : List V), vs = [.ref d, .ref l] ∧ Dice H d n ∧ n < 2 ^ 59 ∧ l ≠ d ∧ SqL K H l xs ∧ 0 < xs.length ∧ xs.length < 100000 ∧ ∀ (i : Nat) (x : V) (H' : Hp), xs[i]? = some x → Dice H' d (n + 1) → Kept H H' d → Q x H'
theorem ok_one_of (B : Bi mg) (D : Df K mg "_law_one_of" st__law_one_of ["dice", "some"]) (CD : Cal P w K mg base 2 "_law_draw" ["dice", "many"] spDraw) : FnOk P w K mg base CX0 3 D.f D.fd ["dice", "some"] (spOne K) := by
  refine D.F.ok sc_one_of (fun vs H Q E h => ?_) (fun cdv A outer s H vs Q E hr h => ?_)
  · obtain ⟨d, l, n, xs, rfl, _⟩ := h
    rfl
  · obtain ⟨d, l, n, xs, rfl, hd, hn, hne, hl, h0, h1, q⟩ := h
    refine ⟨_, pss_one (ps_ret (pe_ix ix_list (pv 1) (pcall CD hr (by rfl) (pa_cons (pv 0) (pa_cons (pe_callB call_len_seq (by rfl) B.len PySem.boot_len (pa_cons (pv 1) pa_nil)) pa_nil))) (fun _ _ => rfl))), ?_⟩
    refine ⟨_, rfl, _, rfl, _, rfl, l, xs, rfl, .inl hl, d, _, n, rfl, hd, hn, by omega, by omega, fun r H' r0 r1 hD hk => ?_⟩
    have hi : r.toNat < xs.length := by omega
    have er : (r : Int) = ((r.toNat : Nat) : Int) := by omega
    refine ⟨l, xs, r, xs[r.toNat], rfl, rfl, hk.seq hne hl, ?_, ?_⟩
    · have z := atI_nat (List.getElem?_eq_getElem hi)
      rw [← er] at z
      exact z
    · exact q r.toNat _ _ (List.getElem?_eq_getElem hi) hD hk
/-! ### a dice -/
theorem sc_dice : FnScope ["script", "at", "seed"] ["script", "at"] (defScope st__law_dice) := ⟨rfl, rfl, rfl, by decide +kernel, rfl, by decide +kernel, by decide +kernel⟩
def spDice (K : PySem.W.Frag) : Sp := fun vs H Q _ => ∃ (a : Addr) (ns : List Int) (e : Int), vs = [.ref a, .int e] ∧ SqL K H a (ns.map V.int) ∧ 0 ≤ e ∧ e < 1000 ∧ ∀ (p : Addr) (H' : Hp), H p = none → Same H H' → Dice H' p 0 → Q (.ref p) H'
theorem ok_dice (B : Bi mg) (D : Df K mg "_law_dice" st__law_dice ["script", "at"]) : FnOk P w K mg base CX0 1 D.f D.fd ["script", "at"] (spDice K) := by
  refine D.F.ok sc_dice (fun vs H Q E h => ?_) (fun cdv A outer s H vs Q E hr h => ?_)
  · obtain ⟨a, ns, e, rfl, _⟩ := h
    rfl
  · obtain ⟨a, ns, e, rfl, hS, he0, he1, q⟩ := h
    refine ⟨_, pss_cons (ps_set (i := 2) sc_dice.nd rfl (.inl rfl) (pe_callB (cr_sum rfl) (by rfl) B.sum (by decide +kernel) (pa_cons (pe_slice sl_list (pv 0) (po_some (pv 1)) (po_some (pe_op op_add (pv 1) pe_int))) pa_nil)))
      (pss_one (ps_ret (pe_lst (pa_cons (pe_op op_mod (pe_callTy call_int1 (by rfl) B.int (by decide +kernel) (pa_cons (pe_callB (call_max2 rfl) (by rfl) B.max (by decide +kernel) (pa_cons (pe_op op_sub (pv 2) (pe_op op_pow pe_int pe_int)) (pa_cons pe_int pa_nil))) pa_nil)) (pe_op op_powW (pe_op op_pow pe_int pe_int) pe_int))
        (pa_cons (pe_op op_mod (pe_callTy call_int1 (by rfl) B.int (by decide +kernel) (pa_cons (pv 2) pa_nil)) pe_int) (pa_cons pe_int (pa_cons (pv 1) pa_nil))))))), ?_⟩
    refine ⟨_, rfl, _, rfl, _, rfl, _, rfl, _, _, rfl, rfl, _, rfl, a, _, rfl, hS, fun p hp => ?_⟩
    obtain ⟨ms, em⟩ := cutV_map V.int ns (some e) (some (e + 1))
    refine ⟨p, ms, rfl, .inl (.inl ?_), ?_⟩
    · rw [upd_same, ← em]
    refine ⟨_, rfl, _, _, rfl, rfl, ⟨by decide, by decide, by decide⟩, _, _, rfl, rfl, _, _, rfl, .inl ⟨_, rfl, _, _, rfl, rfl, ⟨by decide, by decide, by decide⟩, _, _, rfl, rfl, ⟨by decide, by decide +kernel⟩, _, _, rfl, rfl, (by show (0 : Int) < ((10 : Int) ^ (60 : Int).toNat) ^ (8 : Int).toNat; decide +kernel), ?_⟩⟩
    refine ⟨_, rfl, .inl ⟨_, rfl, _, _, rfl, rfl, (by show (0 : Int) < 2147483629; decide), _, rfl, (by show 4 ≤ sizeLine; decide), fun p2 hp2 => ?_⟩⟩
    have s1 : Same H (upd H p (.lst (cutV (ns.map V.int) (some e) (some (e + 1))))) := same_upd hp
    exact q p2 _ (s1.free hp2) (s1.trans (same_upd hp2)) ⟨_, _, _, _, upd_same, ⟨Int.le_refl _, Int.le_refl _⟩, by omega⟩
end
end K4
set_option Elab.async false
set_option linter.all false
set_option maxRecDepth 100000
set_option maxHeartbeats 4000000
namespace K4
open PySem PySem.Spec PyProof.Rows L2 K4M
section
variable {P : Program} {w : World} {K : PySem.W.Frag} {mg : Str → Option Value} {base : Heap}
theorem sc_dices : FnScope ["script", "few", "at"] ["script", "few"] (defScope st__law_dices) := ⟨rfl, rfl, rfl, by decide +kernel, rfl, by decide +kernel, by decide +kernel⟩
def spDices (K : PySem.W.Frag) : Sp := fun vs H Q _ => ∃ (a : Addr) (ns : List Int) (few : Int), vs = [.ref a, .int few] ∧ SqL K H a (ns.map V.int) ∧ few ≤ 10 ∧
  ∀ (L : Addr) (ds : List Addr) (H' : Hp), H L = none → Same H H' → H' L = some (.lst (ds.map V.ref)) → ds.length ≤ 10 → (∀ d ∈ ds, Dice H' d 0 ∧ H d = none) → ds.Nodup → Q (.ref L) H'
theorem ok_dices (B : Bi mg) (D : Df K mg "_law_dices" st__law_dices ["script", "few"]) (CD : Cal P w K mg base 1 "_law_dice" ["script", "at"] (spDice K)) : FnOk P w K mg base CX0 2 D.f D.fd ["script", "few"] (spDices K) := by
  refine D.F.ok sc_dices (fun vs H Q E h => ?_) (fun cdv A outer s H vs Q E hr h => ?_)
  · obtain ⟨a, ns, few, rfl, _⟩ := h
    rfl
  · obtain ⟨a, ns, few, rfl, hS, hf, q⟩ := h
    refine ⟨_, pss_one (ps_ret (pe_lc (own := [("at", 2)]) (g := gName 2) (tt := tYes) rfl sc_dices.nd
      (pi_range1 rfl B.range (pa_cons (pe_callB (call_max2 rfl) (by rfl) B.max (by decide +kernel) (pa_cons pe_int (pa_cons (pe_callB (call_min2 rfl) (by rfl) B.min (by decide +kernel) (pa_cons (pv 1) (pa_cons (pe_callB call_len_seq (by rfl) B.len PySem.boot_len (pa_cons (pv 0) pa_nil)) pa_nil))) pa_nil))) pa_nil))
      (blkOk_by (N := ["script", "few", "at"]) (sc := defScope st__law_dices) (by decide +kernel))
      (fun _ _ _ _ _ => pg_name (i := 2) sc_dices.nd rfl (.inl rfl))
      (fun _ _ _ _ _ => pts_nil)
      (fun _ _ _ _ _ => pcall CD hr (by rfl) (pa_cons (pv 0) (pa_cons (pv 2) pa_nil))))), ?_⟩
    refine ⟨_, rfl, .ref a, rfl, a, _, rfl, .inl hS, _, _, rfl, _, _, rfl, _, rfl, by split <;> (try split) <;> omega, by split <;> (try split) <;> omega, fun DD hD => ?_⟩
    have hc : ∀ c : Int, c ≤ 10 → c.toNat ≤ 10 := fun c h => by omega
    refine lc_range (lo := 0) (fun i H3 => ∃ ds : List Addr, ds.length = i ∧ Same H H3 ∧ H3 DD = some (.lst (ds.map V.ref)) ∧ (∀ d ∈ ds, Dice H3 d 0 ∧ H d = none) ∧ ds.Nodup)
      ⟨[], rfl, same_upd hD, upd_same, (fun _ h => by cases h), List.nodup_nil⟩ ?_ ?_
    · rintro i H3 hi ⟨ds, hl, sm, hDD, hds, nd⟩
      have hi10 : i < 10 := Nat.lt_of_lt_of_le hi (hc _ (by split <;> (try split) <;> omega))
      refine ⟨rfl, .ref a, rfl, .int (0 + i), rfl, a, ns, _, rfl, sm.seq hS, by omega, by omega, fun p H4 hp s4 hdi => ?_⟩
      have e16 : sizeLine = 16777216 := by decide
      have hpD : p ≠ DD := fun z => by
        rw [z, hDD] at hp
        cases hp
      refine ⟨ds.map V.ref, s4 _ _ hDD, by rw [List.length_map]; omega, ds ++ [p], by rw [List.length_append, hl]; rfl, fun c o e => ?_, ?_, fun d hd => ?_, ?_⟩
      · rw [upd_ne (ne_of_none e hD)]
        exact s4 _ _ (sm _ _ e)
      · rw [upd_same, List.map_append]
        rfl
      · rcases List.mem_append.mp hd with hd | hd
        · obtain ⟨x1, x2⟩ := hds d hd
          obtain ⟨a1, a2, a3, a4, e1, r⟩ := x1
          refine ⟨⟨a1, a2, a3, a4, ?_, r⟩, x2⟩
          rw [upd_ne]
          · exact s4 _ _ e1
          · intro z
            rw [z, hDD] at e1
            injection e1 with e1
            injection e1 with e1
            cases ds with
            | nil => cases hd
            | cons _ _ => simp at e1
        · rw [List.mem_singleton.mp hd]
          obtain ⟨a1, a2, a3, a4, e1, r⟩ := hdi
          refine ⟨⟨a1, a2, a3, a4, ?_, r⟩, sm.free hp⟩
          rw [upd_ne hpD]
          exact e1
      · rw [List.nodup_append]
        refine ⟨nd, List.nodup_cons.mpr ⟨List.not_mem_nil, List.nodup_nil⟩, fun x hx y hy => ?_⟩
        rw [List.mem_singleton.mp hy]
        intro z
        rw [z] at hx
        obtain ⟨o, ho⟩ := (hds p hx).1.some
        rw [hp] at ho
        cases ho
    · rintro H3 ⟨ds, hl, sm, hDD, hds, nd⟩
      refine q DD ds H3 hD sm hDD (by rw [hl]; exact hc _ (by split <;> (try split) <;> omega)) hds nd
/-! ### the checks -/
theorem sc_whole : FnScope ["value"] ["value"] (defScope st_is_whole_number) := ⟨rfl, rfl, rfl, by decide +kernel, rfl, by decide +kernel, by decide +kernel⟩
def spWhole : Sp := fun vs H Q _ => ∃ i : Int, vs = [.int i] ∧ Q (.bl true) H
theorem ok_whole (B : Bi mg) (D : Df K mg "is_whole_number" st_is_whole_number ["value"]) : FnOk P w K mg base CX0 1 D.f D.fd ["value"] spWhole := by
  refine D.F.ok sc_whole (fun vs H Q E h => ?_) (fun cdv A outer s H vs Q E hr h => ?_)
  · obtain ⟨i, rfl, _⟩ := h
    rfl
  · obtain ⟨i, rfl, q⟩ := h
    refine ⟨_, pss_one (ps_ret (pe_and (pe_callB call_isi (by rfl) B.isi (by decide +kernel) (pa_cons (pv 0) (pa_cons (pe_bltn (v := .ty "int") (by rfl) B.int (by decide +kernel) rfl) pa_nil)))
      (pe_one (pe_not (pe_callB call_isi (by rfl) B.isi (by decide +kernel) (pa_cons (pv 0) (pa_cons (pe_bltn (v := .ty "bool") (by rfl) B.bool (by decide +kernel) rfl) pa_nil))))))), ?_⟩
    have f : Flat (.int i) := True.intro
    refine ⟨_, rfl, .int i, _, _, _, true, rfl, .ty _, f.ty, f.kInt, _, rfl, iteT ?_⟩
    exact ⟨_, rfl, .int i, _, _, _, false, rfl, .ty _, f.ty, f.kBl, _, rfl, q⟩
theorem sc_count : FnScope ["value"] ["value"] (defScope st_is_count) := ⟨rfl, rfl, rfl, by decide +kernel, rfl, by decide +kernel, by decide +kernel⟩
def spCount : Sp := fun vs H Q _ => ∃ i : Int, vs = [.int i] ∧ 0 ≤ i ∧ Q (.bl true) H
theorem ok_count (B : Bi mg) (D : Df K mg "is_count" st_is_count ["value"]) (C : Cal P w K mg base 1 "is_whole_number" ["value"] spWhole) : FnOk P w K mg base CX0 2 D.f D.fd ["value"] spCount := by
  refine D.F.ok sc_count (fun vs H Q E h => ?_) (fun cdv A outer s H vs Q E hr h => ?_)
  · obtain ⟨i, rfl, _⟩ := h
    rfl
  · obtain ⟨i, rfl, h0, q⟩ := h
    refine ⟨_, pss_one (ps_ret (pe_and (pcall C hr (by rfl) (pa_cons (pv 0) pa_nil)) (pe_one (pe_cmpR op_ge (pv 0) pe_int (nomark _))))), ?_⟩
    refine ⟨_, rfl, i, rfl, _, rfl, iteT ?_⟩
    refine ⟨_, rfl, _, _, rfl, rfl, ?_⟩
    have e : decide ((0 : Int) ≤ i) = true := decide_eq_true h0
    exact (congrArg (fun b => Q (.bl b) H) e).mpr q
def spMade : Sp := fun vs H Q _ => ∃ (u : List Nat) (y : Str), vs = [.str (S u), .str y] ∧ u.length ≤ 100000 ∧ (∀ c ∈ u, y.cps.contains c = true) ∧ Q (.bl true) H
end
end K4
set_option Elab.async false
set_option linter.all false
set_option maxRecDepth 100000
set_option maxHeartbeats 4000000
namespace K4
open PySem PySem.Spec PyProof.Rows L2 K4M
abbrev LET : Str := Str.ofString "abcdefghijklmnopqrstuvwxyz"
def Low (u : List Nat) : Prop := ∀ c ∈ u, 97 ≤ c ∧ c ≤ 122
theorem low_has {c : Nat} (h1 : 97 ≤ c) (h2 : c ≤ 122) : LET.cps.contains c = true := by
  have all : ∀ k : Fin 26, LET.cps.contains (97 + k.val) = true := by decide +kernel
  have := all ⟨c - 97, by omega⟩
  rw [show 97 + (⟨c - 97, by omega⟩ : Fin 26).val = c by show 97 + (c - 97) = c; omega] at this
  exact this
theorem lp_unique {u : List Nat} (h : u ≠ []) {d : Nat} (h1 : 1 ≤ d) (h2 : d ≤ u.length) (h3 : ∀ j, 0 < j → j < d → had u j = false) (h4 : d < u.length → had u d = true) : lp u = d := by
  obtain ⟨a1, a2, a3, a4⟩ := lp_spec u h
  rcases Nat.lt_trichotomy (lp u) d with z | z | z
  · have x1 := a4 (by omega)
    rw [h3 _ (by omega) z] at x1
    cases x1
  · exact z
  · have x1 := h4 (by omega)
    rw [a1 _ (by omega) z] at x1
    cases x1
theorem bl_q {Q : VK} {H : Hp} {a b : Bool} (e : a = b) (q : Q (.bl b) H) : Q (.bl a) H := e ▸ q
theorem int_q {Q : VK} {H : Hp} {a b : Int} (e : a = b) (q : Q (.int b) H) : Q (.int a) H := e ▸ q
theorem pow_abs {s : Int} (h : s.natAbs < 2 ^ 100) : ∀ i : Nat, (s ^ i).natAbs < 2 ^ (100 * i + 1)
  | 0 => by simp
  | i + 1 => by
    rw [Int.pow_succ, Int.natAbs_mul, show 100 * (i + 1) + 1 = (100 * i + 1) + 100 by omega, Nat.pow_add]
    exact Nat.mul_lt_mul'' (pow_abs h i) h
section
variable {P : Program} {w : World} {K : PySem.W.Frag} {mg : Str → Option Value} {base : Heap}
def spText : Sp := fun vs H Q _ => ∃ u : List Nat, vs = [.str (S u)] ∧ u.length ≤ 100000 ∧ Low u ∧ Q (.bl true) H
def spWord : Sp := fun vs H Q _ => ∃ u : List Nat, vs = [.str (S u)] ∧ u.length ≤ 100000 ∧ Low u ∧ u ≠ [] ∧ Q (.bl true) H
def spCword : Sp := fun vs H Q _ => ∃ u : List Nat, vs = [.str (S u)] ∧ u.length ≤ 100000 ∧ Low u ∧ u ≠ [] ∧ Q .non H
theorem sc_cnum : FnScope ["value", "least"] ["value", "least"] (defScope st_check_number) := ⟨rfl, rfl, rfl, by decide +kernel, rfl, by decide +kernel, by decide +kernel⟩
def spCnum : Sp := fun vs H Q _ => ∃ i l : Int, vs = [.int i, .int l] ∧ 0 ≤ i ∧ l ≤ i ∧ Q .non H
theorem ok_cnum (D : Df K mg "check_number" st_check_number ["value", "least"]) (C : Cal P w K mg base 2 "is_count" ["value"] spCount) : FnOk P w K mg base CX0 3 D.f D.fd ["value", "least"] spCnum := by
  refine D.F.ok sc_cnum (fun vs H Q E h => ?_) (fun cdv A outer s H vs Q E hr h => ?_)
  · obtain ⟨i, l, rfl, _⟩ := h
    rfl
  · obtain ⟨i, l, rfl, h0, h1, q⟩ := h
    refine ⟨_, pss_one (ps_if (PW.pt (pw_or (pt_not (pt_val (pcall C hr (by rfl) (pa_cons (pv 0) pa_nil)))) (pw_or1 (pt_cmpR op_lt (pv 0) (pv 1) (nomark _))))) pss_never pss_nil), ?_⟩
    refine ⟨_, rfl, i, rfl, h0, _, rfl, iteF ?_⟩
    refine ⟨_, rfl, _, rfl, _, _, rfl, rfl, _, rfl, ?_⟩
    rw [decide_eq_false (show ¬ i < l by omega)]
    exact iteF q
/-! ### periods -/
def spHad : Sp := fun vs H Q _ => ∃ (u : List Nat) (p : Nat), vs = [.str (S u), .int (p : Int)] ∧ u.length ≤ 100000 ∧ Q (.bl (had u p)) H
def spLp : Sp := fun vs H Q _ => ∃ u : List Nat, vs = [.str (S u)] ∧ u.length ≤ 100000 ∧ Low u ∧ u ≠ [] ∧ Q (.int (lp u : Int)) H
def rootV (r : List Nat × Nat) : List V := [.str (S r.1), .int (r.2 : Int)]
def spRoot : Sp := fun vs H Q _ => ∃ u : List Nat, vs = [.str (S u)] ∧ u.length ≤ 100000 ∧ Low u ∧ u ≠ [] ∧ ∀ (p : Addr) (H' : Hp), H p = none → Same H H' → H' p = some (.tup (rootV (rootP u))) → Q (.ref p) H'
/-! ### powers -/
def spPow : Sp := fun vs H Q _ => ∃ (s : Int) (n : Nat), vs = [.int s, .int (n : Int)] ∧ s.natAbs < 2 ^ 100 ∧ n ≤ 1000 ∧ Q (.int (s ^ n)) H
end
end K4
set_option Elab.async false
set_option linter.all false
set_option maxRecDepth 100000
set_option maxHeartbeats 4000000
namespace K4
open PySem PySem.Spec PyProof.Rows L2 K4M
/-! ### the ways to choose half -/
def sums : List Int → List Int
  | a :: b :: r => (a + b) :: sums (b :: r)
  | _ => []
theorem sums_len : ∀ r : List Int, (sums r).length = r.length - 1
  | [] => rfl
  | [_] => rfl
  | a :: b :: r => by
    show (sums (b :: r)).length + 1 = _
    rw [sums_len (b :: r)]
    rfl
theorem sums_at : ∀ (r : List Int) (i : Nat) (a b : Int), r[i]? = some a → r[i + 1]? = some b → (sums r)[i]? = some (a + b)
  | [], i, a, b, h, _ => by cases i <;> cases h
  | [c], i, a, b, h, h2 => by cases i <;> cases h2
  | c :: d :: r, 0, a, b, h, h2 => by
    cases h
    cases h2
    rfl
  | c :: d :: r, i + 1, a, b, h, h2 => sums_at (d :: r) i a b h h2
def nxRow (r : List Int) : List Int := [1] ++ sums r ++ [1]
def prow : Nat → List Int
  | 0 => [1]
  | n + 1 => nxRow (prow n)
theorem prow_len : ∀ n, (prow n).length = n + 1
  | 0 => rfl
  | n + 1 => by
    show ([1] ++ sums (prow n) ++ [1]).length = _
    rw [List.length_append, List.length_append, sums_len, prow_len n]
    show 1 + (n + 1 - 1) + 1 = _
    omega
def hsF : Nat → List Int → Nat → List Int
  | 0, _, _ => []
  | n + 1, r, k => (nxRow r).getD (k / 2) 0 :: hsF n (nxRow r) (k + 1)
def halL (n : Nat) : List Int := (List.range' 1 n).map fun k => (prow k).getD (k / 2) 0
theorem hsF_eq : ∀ (n k : Nat), hsF n (prow k) (k + 1) = (List.range' (k + 1) n).map fun j => (prow j).getD (j / 2) 0
  | 0, _ => rfl
  | n + 1, k => by
    rw [List.range'_succ, List.map_cons, ← hsF_eq n (k + 1)]
    rfl
def Hn (n : Nat) : Int := PySem.W.mcComb (n : Int) ((n / 2 : Nat) : Int)
theorem hal_Hn : halL 106 = (List.range' 1 106).map Hn := by
  have h : hsF 106 [1] 1 = (List.range' 1 106).map Hn := by decide +kernel
  rw [← h]
  exact (hsF_eq 106 0).symm
theorem Hn_up : ∀ n, n ≤ 105 → Hn n ≤ Hn (n + 1) := by
  have h : ∀ n : Fin 106, Hn n.val ≤ Hn (n.val + 1) := by decide +kernel
  exact fun n hn => h ⟨n, by omega⟩
theorem Hn_top : ∀ n, 1 ≤ n → n ≤ 103 → 1 ≤ Hn n ∧ Hn n + 1 ≤ Hn 106 := by
  have h : ∀ n : Fin 104, 1 ≤ n.val → 1 ≤ Hn n.val ∧ Hn n.val + 1 ≤ Hn 106 := by decide +kernel
  exact fun n h1 hn => h ⟨n, by omega⟩ h1
theorem Hn_big : (10 : Int) ^ 30 ≤ Hn 106 := by decide +kernel
theorem Hn_one : Hn 1 = 1 := by decide +kernel
/-- the least number of rounds -/
def lr (m : Int) : Nat := ((List.range' 1 106).filter fun n => decide (m ≤ Hn n)).headD 0
theorem lr_of {m : Int} {n : Nat} (h1 : 1 ≤ n) (h2 : n ≤ 106) (h3 : m ≤ Hn n) (h4 : ∀ j, 1 ≤ j → j < n → Hn j < m) : lr m = n := by
  unfold lr
  have e : List.range' 1 106 = List.range' 1 (n - 1) ++ n :: List.range' (n + 1) (106 - n) := by
    rw [show (106 : Nat) = (n - 1) + (1 + (106 - n)) by omega, ← List.range'_append_1, ← List.range'_append_1]
    congr 1
    rw [show 1 + (n - 1) = n by omega, show n - 1 + (1 + (106 - n)) - n = 106 - n by omega]
    rfl
  rw [e, List.filter_append, List.filter_eq_nil_iff.mpr, List.nil_append, List.filter_cons_of_pos (by exact decide_eq_true h3)]
  · rfl
  · intro j hj
    rw [List.mem_range'_1] at hj
    have := h4 j hj.1 (by omega)
    rw [decide_eq_true_eq]
    omega
theorem lr_hal {m : Int} (h2 : m ≤ Hn 106) : ∃ r, (List.range' 1 106).filter (fun n => decide (m ≤ Hn n)) = lr m :: r := by
  unfold lr
  cases e : (List.range' 1 106).filter fun n => decide (m ≤ Hn n) with
  | nil =>
    have := List.filter_eq_nil_iff.mp e 106 (List.mem_range'_1.mpr ⟨by decide, by decide⟩)
    rw [decide_eq_true_eq] at this
    exact absurd h2 this
  | cons a r => exact ⟨r, rfl⟩
section
variable {X : Cx}
theorem cr_comb : CallR X (.builtin "math.comb") (fun vs H Q => ∃ a b : Nat, vs = [.int (a : Int), .int (b : Int)] ∧ a ≤ 18000 ∧ Q (.int (PySem.W.mcComb (a : Int) (b : Int))) H) := by
  intro pins s σ H vs us Q I r h
  obtain ⟨a, b, rfl, ha, q⟩ := h
  obtain ⟨t, u, rfl⟩ := Vals.int2 r
  exact PySem.W.mc_comb_v (by omega) (by omega) (by omega) (.inr (by omega)) rfl ⟨.int _, H, I.tok _, ⟨_, rfl⟩, q⟩
end
/-- dice that are drawn of great numbers, too -/
theorem bits_wide {m : Int} (h1 : 1 ≤ m) (h2 : m < 2 ^ 200) : ∃ n : Nat, (1 + (Builtin.Int.intBits m : Int) / 28) = ((n : Nat) : Int) ∧ n ≤ 9 := by
  have : Builtin.Int.intBits m ≤ 200 := by
    unfold Builtin.Int.intBits
    split
    · omega
    · have : m.natAbs.log2 < 200 := PySem.Flt.log2_lt_of (by decide) (by omega)
      omega
  exact ⟨1 + Builtin.Int.intBits m / 28, by omega, by omega⟩
section
variable {P : Program} {w : World} {K : PySem.W.Frag} {mg : Str → Option Value} {base : Heap}
def spDrawW : Sp := fun vs H Q _ => ∃ (d : Addr) (m : Int) (n : Nat), vs = [.ref d, .int m] ∧ Dice H d n ∧ n < 2 ^ 58 ∧ 1 ≤ m ∧ m < 2 ^ 200 ∧ ∀ (r : Int) (H' : Hp), 0 ≤ r → r < m → Dice H' d (n + 9) → Kept H H' d → Q (.int r) H'
theorem ok_drawW (B : Bi mg) (D : Df K mg "_law_draw" st__law_draw ["dice", "many"]) (CM : Cal P w K mg base 1 "_law_mixed" ["seed", "spin", "at"] spMixed) : FnOk P w K mg base CX0 2 D.f D.fd ["dice", "many"] spDrawW := by
  refine D.F.ok sc_draw (fun vs H Q E h => ?_) (fun cdv A outer s H vs Q E hr h => ?_)
  · obtain ⟨d, m, n, rfl, _⟩ := h
    rfl
  · obtain ⟨d, m, n, rfl, ⟨a, b, c, e, hd, hc, he⟩, hn, hm1, hm2, q⟩ := h
    refine ⟨_, pss_cons (ps_if (pt_cmpR op_gt (pe_ix ix_list (pv 0) pe_int (fun _ _ => rfl)) pe_int (nomark _))
        (pss_cons (ps_set (i := 2) sc_draw.nd rfl (.inl rfl) (pe_op op_mod (pe_callTy call_int1 (by rfl) B.int (by decide +kernel) (pa_cons (pe_ix ix_list (pv 0) pe_int (fun _ _ => rfl)) pa_nil)) (pv 1)))
        (pss_cons (ps_asg (pe_op op_fdivW (pe_ix ix_list (pv 0) pe_int (fun _ _ => rfl)) (pv 1)) (pg_sub (pv 0) pe_int set_list))
        (pss_one (ps_ret (pv 2))))) pss_nil)
      (pss_cons (ps_set (i := 3) sc_draw.nd rfl (.inl rfl) pe_int)
      (pss_cons (ps_for PassesOwn.never rfl (pi_range1 rfl B.range (pa_cons (pe_op op_add pe_int (pe_op op_fdiv (pe_bits (pv 1)) pe_int)) pa_nil)) (pg_name (i := 4) sc_draw.nd rfl (.inl rfl))
        (pss_cons (ps_asg (pe_op op_add (pe_ix ix_list (pv 0) pe_int (fun _ _ => rfl)) pe_int) (pg_sub (pv 0) pe_int set_list))
        (pss_one (ps_set (i := 3) sc_draw.nd rfl (.inl rfl) (pe_op op_add (pe_op op_mul (pv 3) pe_int) (pcall CM hr (by rfl) (pa_cons (pe_ix ix_list (pv 0) pe_int (fun _ _ => rfl)) (pa_cons (pe_ix ix_list (pv 0) pe_int (fun _ _ => rfl)) (pa_cons (pe_ix ix_list (pv 0) pe_int (fun _ _ => rfl)) pa_nil)))))))))
      (pss_one (ps_ret (pe_op op_mod (pe_callTy call_int1 (by rfl) B.int (by decide +kernel) (pa_cons (pv 3) pa_nil)) (pv 1)))))), ?_⟩
    have hS : SqL K H d [.int a, .int b, .int c, .int e] := .inl (.inl hd)
    obtain ⟨np, enp, hnp⟩ := bits_wide hm1 hm2
    refine ⟨_, rfl, d, _, 0, _, rfl, rfl, hS, atI_nat (j := 0) rfl, _, _, rfl, rfl, _, rfl, ite2 (fun _ => ?_) (fun _ => ?_)⟩
    · refine ⟨_, rfl, d, _, 0, _, rfl, rfl, hS, atI_nat (j := 0) rfl, .inl ⟨_, rfl, _, rfl, _, _, rfl, rfl, (by show 0 < m; omega), ?_⟩⟩
      refine ⟨_, rfl, d, _, 0, _, rfl, rfl, hS, atI_nat (j := 0) rfl, _, rfl, _, _, rfl, rfl, wide_div (b := 200) (by omega) (by omega) (by decide) (by decide), _, rfl, d, _, 0, 0, rfl, rfl, hd, rfl, _, rfl, ?_⟩
      refine q _ _ (Int.emod_nonneg _ (by omega)) (Int.emod_lt_of_pos _ (by omega)) ⟨_, _, _, _, upd_same, ⟨hc.1, by omega⟩, he⟩ Kept.upd
    · refine ⟨_, rfl, _, rfl, _, _, rfl, rfl, ⟨by decide, by decide⟩, _, _, rfl, rfl, ?_⟩
      refine ⟨(np : Int), congrArg (fun z => [V.int z]) enp, by omega, by omega, for_range (lo := 0) (n := (np : Int).toNat) (fun i σ H2 => ∃ (f c' : Int) (y : Option V), σ = [some (.ref d), some (.int m), none, some (.int f), y] ∧ (0 ≤ c' ∧ c' ≤ n + i) ∧ H2 d = some (.lst [.int a, .int b, .int c', .int e]) ∧ Kept H H2 d)
        ⟨0, c, none, rfl, ⟨hc.1, by omega⟩, hd, fun _ _ _ z => z⟩ ?_ ?_⟩
      · rintro i σ H2 hi ⟨f, c', y, rfl, hc', hd2, hk⟩
        have hS2 : SqL K H2 d [.int a, .int b, .int c', .int e] := .inl (.inl hd2)
        refine ⟨_, rfl, d, _, 2, _, rfl, rfl, hS2, atI_nat (j := 2) rfl, _, _, rfl, rfl, _, rfl, d, _, 2, 2, rfl, rfl, hd2, rfl, ?_⟩
        have hS3 : SqL K (upd H2 d (.lst [.int a, .int b, .int (c' + 1), .int e])) d [.int a, .int b, .int (c' + 1), .int e] := .inl (.inl upd_same)
        refine ⟨_, rfl, _, _, rfl, rfl, .inr ⟨by decide, by decide⟩, _, rfl, d, _, 1, _, rfl, rfl, hS3, atI_nat (j := 1) rfl, _, rfl, d, _, 2, _, rfl, rfl, hS3, atI_nat (j := 2) rfl, _, rfl, d, _, 3, _, rfl, rfl, hS3, atI_nat (j := 3) rfl, ?_⟩
        refine ⟨_, _, _, rfl, ⟨by omega, by omega⟩, he, fun r h1 h2 => ⟨_, _, rfl, rfl, ?_⟩⟩
        exact ⟨_, _, _, rfl, ⟨by omega, by omega⟩, upd_same, hk.trans Kept.upd⟩
      · rintro σ H2 ⟨f, c', y, rfl, hc', hd2, hk⟩
        refine ⟨_, rfl, .inl ⟨_, rfl, _, rfl, _, _, rfl, rfl, (by show 0 < m; omega), ?_⟩⟩
        exact q _ _ (Int.emod_nonneg _ (by omega)) (Int.emod_lt_of_pos _ (by omega)) ⟨_, _, _, _, hd2, ⟨hc'.1, by omega⟩, he⟩ hk
theorem sc_halves : FnScope ["most", "row", "found", "number", "at"] ["most"] (defScope st__law_halves) := ⟨rfl, rfl, rfl, by decide +kernel, rfl, by decide +kernel, by decide +kernel⟩
def spHalves : Sp := fun vs H Q _ => vs = [.int 106] ∧ ∀ (L : Addr) (H' : Hp), H L = none → Same H H' → H' L = some (.lst (((List.range' 1 106).map Hn).map V.int)) → Q (.ref L) H'
theorem ok_halves (B : Bi mg) (D : Df K mg "_law_halves" st__law_halves ["most"]) : FnOk P w K mg base CX0 1 D.f D.fd ["most"] spHalves := by
  refine D.F.ok sc_halves (fun vs H Q E h => ?_) (fun cdv A outer s H vs Q E hr h => ?_)
  · obtain ⟨rfl, _⟩ := h
    rfl
  · obtain ⟨rfl, q⟩ := h
    refine ⟨_, (pss_cons (ps_asg (pe_tup (pa_cons (pe_lst (pa_cons pe_int pa_nil)) (pa_cons (pe_lst pa_nil) pa_nil))) (pg_tup rfl (pgs_cons (pg_name (i := 1) sc_halves.nd rfl (.inr rfl)) (pgs_cons (pg_name (i := 2) sc_halves.nd rfl (.inl rfl)) pgs_nil)))) (pss_cons (ps_for PassesOwn.never rfl (pi_range2 (by rfl) B.range (pa_cons pe_int (pa_cons (pe_op op_add (pv 0) pe_int) pa_nil))) (pg_name (i := 3) sc_halves.nd rfl (.inl rfl)) (pss_cons (ps_set (i := 1) sc_halves.nd rfl (.inr rfl) (pe_op op_cat (pe_op op_cat (pe_lst (pa_cons pe_int pa_nil)) (pe_lc (own := [("at", 4)]) (g := (gName 4)) (tt := tYes) rfl sc_halves.nd (pi_range2 (by rfl) B.range (pa_cons pe_int (pa_cons (pe_callB call_len_seq (by rfl) B.len PySem.boot_len (pa_cons (pv 1) pa_nil)) pa_nil))) (blkOk_by (N := ["most", "row", "found", "number", "at"]) (sc := defScope st__law_halves) (by decide +kernel)) (fun _ _ _ _ _ => (pg_name (i := 4) sc_halves.nd rfl (.inl rfl))) (fun _ _ _ _ _ => pts_nil) (fun _ _ _ _ _ => (pe_op op_add (pe_ix (r := rIxL K) ix_list (pv 1) (pe_op op_sub (pv 4) pe_int) (fun _ _ => rfl)) (pe_ix (r := rIxL K) ix_list (pv 1) (pv 4) (fun _ _ => rfl)))))) (pe_lst (pa_cons pe_int pa_nil)))) (pss_one (ps_expr (pe_bm PySem.F.plainAttrs_list PySem.F.slot_list_append PySem.F.type_list_append mt_append (pv 2) (pa_cons (pe_ix (r := rIxL K) ix_list (pv 1) (pe_op op_fdiv (pv 3) pe_int) (fun _ _ => rfl)) pa_nil)))))) (pss_one (ps_ret (pv 2))))), ?_⟩
    have e16 : sizeLine = 16777216 := by decide
    refine ⟨by show 1 ≤ sizeLine; omega, fun l1 hl1 => ⟨by show 0 ≤ sizeLine; omega, fun l2 hl2 => ⟨by show 2 ≤ sizeLine; omega, fun t ht => ⟨t, [.ref l1, .ref l2], rfl, .inl (.inl upd_same), rfl, _, [.ref l2], rfl, _, [], rfl, rfl, ?_⟩⟩⟩⟩
    refine ⟨_, rfl, _, _, rfl, rfl, 1, 107, rfl, ⟨by decide, by decide, by decide, by decide⟩, ?_⟩
    have sA := ((same_upd (o := .lst [V.int 1]) hl1).trans (same_upd (o := .lst []) hl2)).trans (same_upd (o := .tup [.ref l1, .ref l2]) ht)
    have n12 : l1 ≠ l2 := fun z => by rw [← z, upd_same] at hl2; cases hl2
    have hl2' : H l2 = none := (same_upd (o := .lst [V.int 1]) hl1).free hl2
    have e1 := ((same_upd (o := .lst []) hl2).trans (same_upd (o := .tup [.ref l1, .ref l2]) ht)) _ _ (upd_same (H := H) (a := l1) (o := .lst [V.int 1]))
    have e2 := (same_upd (o := .tup [.ref l1, .ref l2]) ht) _ _ (upd_same (H := upd H l1 (.lst [V.int 1])) (a := l2) (o := .lst []))
    refine for_range (lo := 1) (n := 106) (fun i σ H2 => ∃ (R : Addr) (y : Option V), σ = [some (.int 106), some (.ref R), some (.ref l2), y, none] ∧ Same H H2 ∧ R ≠ l2 ∧ H2 R = some (.lst ((prow i).map V.int)) ∧ H2 l2 = some (.lst ((halL i).map V.int)))
      ⟨l1, none, rfl, sA, n12, e1, e2⟩ ?_ ?_
    · rintro i σ H2 hi ⟨R, y, rfl, sm, nR, eR, eF⟩
      have pl := prow_len i
      refine ⟨by show 1 ≤ sizeLine; omega, fun a ha => ?_⟩
      have s1 := same_upd (o := .lst [V.int 1]) ha
      have ea := upd_same (H := H2) (a := a) (o := .lst [V.int 1])
      revert s1 ea
      generalize upd H2 a (.lst [V.int 1]) = H3
      intro s1 ea
      have eR3 := s1 _ _ eR
      refine ⟨_, rfl, R, _, rfl, .inl (.inl (.inl eR3)), 1, _, rfl, ⟨by decide, by decide, by rw [List.length_map, pl]; omega, by rw [List.length_map, pl]; omega⟩, fun DD hD => ?_⟩
      refine lc_range (lo := 1) (n := ((((prow i).map V.int).length : Int) - 1).toNat) (fun j H4 => Same H3 H4 ∧ H4 DD = some (.lst (((sums (prow i)).take j).map V.int))) ⟨same_upd hD, upd_same⟩ ?_ ?_
      · rintro j H4 hj ⟨sm4, eD⟩
        rw [List.length_map, pl] at hj
        have eR4 := sm4 _ _ eR3
        have hj1 : j + 1 < (prow i).length := by omega
        have a1 : ((prow i).map V.int)[j]? = some (V.int (prow i)[j]) := by rw [List.getElem?_map, List.getElem?_eq_getElem (by omega)]; rfl
        have a2 : ((prow i).map V.int)[j + 1]? = some (V.int (prow i)[j + 1]) := by rw [List.getElem?_map, List.getElem?_eq_getElem hj1]; rfl
        have i1 : (1 + (j : Int)) - 1 = ((j : Nat) : Int) := by omega
        have i2 : (1 + (j : Int)) = ((j + 1 : Nat) : Int) := by omega
        refine ⟨rfl, ?_⟩
        refine ⟨_, rfl, _, rfl, _, _, rfl, rfl, R, _, _, _, rfl, rfl, .inl (.inl eR4), by rw [i1]; exact atI_nat a1, ?_⟩
        refine ⟨_, rfl, _, rfl, R, _, _, _, rfl, rfl, .inl (.inl eR4), by rw [i2]; exact atI_nat a2, _, _, rfl, rfl, ?_⟩
        refine ⟨_, eD, ?_, fun c o e => ?_, ?_⟩
        · rw [List.length_map, List.length_take, sums_len]
          omega
        · rw [upd_ne (ne_of_none e hD)]
          exact sm4 c o e
        · rw [upd_same, List.take_add_one, sums_at (prow i) j _ _ (List.getElem?_eq_getElem (by omega)) (List.getElem?_eq_getElem hj1), List.map_append]
          rfl
      · rintro H4 ⟨sm4, eD⟩
        rw [List.length_map, pl, show ((((i + 1 : Nat) : Int) - 1).toNat) = i by omega, List.take_of_length_le (by rw [sums_len, pl]; omega)] at eD
        refine ⟨a, DD, _, _, rfl, rfl, sm4 _ _ ea, eD, ?_, fun p hp => ?_⟩
        · rw [List.length_map, sums_len, pl]
          show 1 + (i + 1 - 1) ≤ sizeLine
          omega
        have s2 := same_upd (o := .lst ([V.int 1] ++ (sums (prow i)).map V.int)) hp
        have ep := upd_same (H := H4) (a := p) (o := .lst ([V.int 1] ++ (sums (prow i)).map V.int))
        revert s2 ep
        generalize upd H4 p (.lst ([V.int 1] ++ (sums (prow i)).map V.int)) = H5
        intro s2 ep
        refine ⟨by show 1 ≤ sizeLine; omega, fun b hb => ?_⟩
        have s3 := same_upd (o := .lst [V.int 1]) hb
        refine ⟨p, b, _, _, rfl, rfl, s3 _ _ ep, upd_same, ?_, fun p2 hp2 => ?_⟩
        · rw [List.length_append, List.length_map, sums_len, pl]
          show 1 + (i + 1 - 1) + 1 ≤ sizeLine
          omega
        have erow : ([V.int 1] ++ (sums (prow i)).map V.int ++ [V.int 1]) = (prow (i + 1)).map V.int := by
          show _ = ([1] ++ sums (prow i) ++ [1]).map V.int
          rw [List.map_append, List.map_append]
          rfl
        rw [erow]
        have s4 := same_upd (o := .lst ((prow (i + 1)).map V.int)) hp2
        have sAll := s1.trans (sm4.trans (s2.trans (s3.trans s4)))
        have ep2 := upd_same (H := upd H5 b (.lst [V.int 1])) (a := p2) (o := .lst ((prow (i + 1)).map V.int))
        revert sAll ep2
        generalize upd (upd H5 b (.lst [V.int 1])) p2 (.lst ((prow (i + 1)).map V.int)) = H6
        intro sAll ep2
        have eF6 := sAll _ _ eF
        have n2 : p2 ≠ l2 := by
          intro z
          have h5 : H2 l2 = none := by
            rw [z] at hp2
            exact (s1.trans (sm4.trans (s2.trans s3))).free hp2
          rw [h5] at eF
          cases eF
        have pl2 := prow_len (i + 1)
        have hi2 : (1 + i) / 2 < (prow (i + 1)).length := by omega
        have idx : (1 + (i : Int)) / 2 = (((1 + i) / 2 : Nat) : Int) := by omega
        have a3 : ((prow (i + 1)).map V.int)[(1 + i) / 2]? = some (V.int ((prow (i + 1))[(1 + i) / 2])) := by rw [List.getElem?_map, List.getElem?_eq_getElem hi2]; rfl
        refine ⟨_, rfl, .inl ⟨rfl, _, .inl (.inl eF6)⟩, _, rfl, _, rfl, _, _, rfl, rfl, ⟨by decide, by decide⟩, p2, _, _, _, rfl, rfl, .inl (.inl ep2), by rw [idx]; exact atI_nat a3, l2, _, _, rfl, rfl, eF6, ?_, ?_⟩
        · unfold halL
          rw [List.length_map, List.length_map, List.length_range']
          omega
        · refine ⟨p2, _, rfl, fun c o e => ?_, n2, ?_, ?_⟩
          · rw [upd_ne (ne_of_none e hl2')]
            exact sAll _ _ (sm _ _ e)
          · rw [upd_ne n2]
            exact ep2
          · rw [upd_same]
            unfold halL
            rw [range_snoc', List.map_append, List.map_append]
            show _ = some (HO.lst (_ ++ [V.int ((prow (i + 1)).getD ((i + 1) / 2) 0)]))
            rw [show (i + 1) / 2 = (1 + i) / 2 by omega, List.getD_eq_getElem?_getD, List.getElem?_eq_getElem hi2]
            rfl
    · rintro σ H2 ⟨R, y, rfl, sm, nR, eR, eF⟩
      rw [hal_Hn] at eF
      exact ⟨_, rfl, q l2 H2 hl2' sm eF⟩
theorem sc_sf : FnScope ["number"] ["number"] (defScope st_signs_for) := ⟨rfl, rfl, rfl, by decide +kernel, rfl, by decide +kernel, by decide +kernel⟩
def spSf : Sp := fun vs H Q _ => ∃ n : Nat, vs = [.int (n : Int)] ∧ 1 ≤ n ∧ n ≤ 18000 ∧ Q (.int (Hn n)) H
theorem ok_sf (hcb : mg "comb" = some (.builtin "math.comb")) (D : Df K mg "signs_for" st_signs_for ["number"]) (CN : Cal P w K mg base 3 "check_number" ["value", "least"] spCnum) : FnOk P w K mg base CX0 4 D.f D.fd ["number"] spSf := by
  refine D.F.ok sc_sf (fun vs H Q E h => ?_) (fun cdv A outer s H vs Q E hr h => ?_)
  · obtain ⟨n, rfl, _⟩ := h
    rfl
  · obtain ⟨n, rfl, h1, h2, q⟩ := h
    refine ⟨_, (pss_cons (ps_expr (pcall CN hr (by rfl) (pa_cons (pv 0) (pa_cons pe_int pa_nil)))) (pss_one (ps_ret (pe_callBfun cr_comb (by rfl) hcb (pa_cons (pv 0) (pa_cons (pe_op op_fdiv (pv 0) pe_int) pa_nil)))))), ?_⟩
    refine ⟨_, rfl, _, _, rfl, by omega, by omega, ?_⟩
    exact ⟨_, rfl, _, rfl, _, _, rfl, rfl, ⟨by decide, by decide⟩, n, n / 2, rfl, h2, q⟩
theorem sc_rf : FnScope ["many", "number"] ["many"] (defScope st_rounds_for) := ⟨rfl, rfl, rfl, by decide +kernel, rfl, by decide +kernel, by decide +kernel⟩
def spRf : Sp := fun vs H Q _ => ∃ m : Int, vs = [.int m] ∧ 2 ≤ m ∧ m ≤ Hn 106 ∧ Q (.int (lr m : Int)) H
theorem ok_rf (D : Df K mg "rounds_for" st_rounds_for ["many"]) (CN : Cal P w K mg base 3 "check_number" ["value", "least"] spCnum) (CS : Cal P w K mg base 4 "signs_for" ["number"] spSf) : FnOk P w K mg base CX0 5 D.f D.fd ["many"] spRf := by
  refine D.F.ok sc_rf (fun vs H Q E h => ?_) (fun cdv A outer s H vs Q E hr h => ?_)
  · obtain ⟨n, rfl, _⟩ := h
    rfl
  · obtain ⟨m, rfl, h1, h2, q⟩ := h
    have r1 : Room 3 _ := hr.mono (by decide)
    refine ⟨_, (pss_cons (ps_expr (pcall CN r1 (by rfl) (pa_cons (pv 0) (pa_cons pe_int pa_nil)))) (pss_cons (ps_set (i := 1) sc_rf.nd rfl (.inl rfl) pe_int) (pss_cons (ps_while PassesOwn.never (pt_cmpR op_lt (pcall CS hr (by rfl) (pa_cons (pv 1) pa_nil)) (pv 0) (nomark _)) (pss_one (ps_aug (i := 1) sc_rf.nd rfl (.inl rfl) pe_int ip_add))) (pss_one (ps_ret (pv 1)))))), ?_⟩
    refine ⟨_, rfl, _, _, rfl, by omega, by omega, ?_⟩
    refine while_by (fun σ H2 => H2 = H ∧ ∃ n : Nat, 1 ≤ n ∧ n ≤ 106 ∧ σ = [some (.int m), some (.int (n : Int))] ∧ ∀ j, 1 ≤ j → j < n → Hn j < m) (fun σ H2 => match σ with | [_, some (.int n)] => (106 - n).toNat | _ => 0) ⟨rfl, 1, by decide, by decide, rfl, fun j a b => by omega⟩ ?_ ?_
    · rintro σ H2 ⟨rfl, n, n1, n2, rfl, hj⟩
      refine ⟨_, rfl, n, rfl, n1, by omega, _, rfl, _, _, rfl, rfl, _, rfl, ?_⟩
      by_cases hlt : Hn n < m
      · have n3 : n < 106 := by
          rcases Nat.lt_or_ge n 106 with z | z
          · exact z
          · have : n = 106 := by omega
            subst this
            omega
        rw [decide_eq_true hlt]
        refine iteT ⟨_, rfl, _, _, rfl, rfl, ⟨rfl, n + 1, by omega, by omega, rfl, fun j a b => ?_⟩, ?_⟩
        · by_cases e : j = n
          · subst e
            exact hlt
          · exact hj j a (by omega)
        · show (106 - ((n : Int) + 1)).toNat < (106 - (n : Int)).toNat
          omega
      · rw [decide_eq_false hlt]
        refine iteF ⟨_, rfl, ?_⟩
        rw [lr_of n1 n2 (by omega) hj] at q
        exact q
    · intro σ H Q Q' hq h
      obtain ⟨x, hx, n, hn, a, b, y, hy, i, j, ei, ej, k, ek, h⟩ := h
      exact ⟨x, hx, n, hn, a, b, y, hy, i, j, ei, ej, k, ek, hq _ _ h⟩
end
end K4
set_option Elab.async false
set_option linter.all false
set_option maxRecDepth 100000
set_option maxHeartbeats 8000000
namespace K4
open PySem PySem.Spec PyProof.Rows L2 K4M
/-- behind the turn of one dice the others stand as they stood -/
theorem dices_after {ds : List Addr} {L d : Addr} {i : Nat} {H2 H9 : Hp} (hdi : ds[i]? = some d) (hnd : ds.Nodup) (neL : L ≠ d) (hL2 : H2 L = some (.lst (ds.map V.ref))) (hd2 : ∀ j d, i ≤ j → ds[j]? = some d → Dice H2 d 0) (kp : Kept H2 H9 d) :
    H9 L = some (.lst (ds.map V.ref)) ∧ ∀ j d', i + 1 ≤ j → ds[j]? = some d' → Dice H9 d' 0 := by
  refine ⟨kp _ _ neL hL2, fun j d' hj hjd => ?_⟩
  obtain ⟨b1, b2, b3, b4, e1, r⟩ := hd2 j d' (by omega) hjd
  refine ⟨b1, b2, b3, b4, kp _ _ (fun z => ?_) e1, r⟩
  have hj2 : j < ds.length := (List.getElem?_eq_some_iff.mp hjd).1
  have hi2 : i < ds.length := (List.getElem?_eq_some_iff.mp hdi).1
  have := (List.getElem?_inj hi2 hnd).mp (hdi.trans (hjd.trans (congrArg some z)).symm)
  omega
theorem dices_ne {ds : List Addr} {L : Addr} {H1 : Hp} (hLs : H1 L = some (.lst (ds.map V.ref))) {d : Addr} (hd : d ∈ ds) {n : Nat} (h : Dice H1 d n) : L ≠ d := fun z => by
  obtain ⟨b1, b2, b3, b4, e, _⟩ := h
  rw [← z, hLs] at e
  cases ds with
  | nil => cases hd
  | cons _ _ => simp at e
def spLaw (K : PySem.W.Frag) : Sp := fun vs H Q _ => ∃ (a : Addr) (ns : List Int), vs = [.ref a] ∧ SqL K H a (ns.map V.int) ∧ ns.length ≤ 63 ∧ ∀ H', Q (.bl true) H'
theorem atI_eq {α : Type} {xs : List α} {i : Int} {k : Nat} {v : α} (e : i = (k : Int)) (h : xs[k]? = some v) : atI xs i = some v := by
  rw [e]
  exact atI_nat h
theorem nats_at {ns : List Nat} {i : Nat} {x : V} (h : (natsV ns)[i]? = some x) : ∃ m, ns[i]? = some m ∧ x = V.int (m : Int) := by
  unfold natsV at h
  rw [List.getElem?_map] at h
  cases e : ns[i]? with
  | none => rw [e] at h; cases h
  | some m => rw [e] at h; exact ⟨m, rfl, (Option.some.inj h).symm⟩
theorem nats_len (l : List Nat) : (natsV l).length = l.length := List.length_map _
theorem nats_app (a b : List Nat) : natsV (a ++ b) = natsV a ++ natsV b := List.map_append
theorem refs_at {ds : List Addr} {i : Nat} {x : V} (hx : (ds.map V.ref)[i]? = some x) : ∃ d, ds[i]? = some d ∧ x = V.ref d := by
  rw [List.getElem?_map] at hx
  cases e : ds[i]? with
  | none => rw [e] at hx; cases hx
  | some d => rw [e] at hx; exact ⟨d, rfl, (Option.some.inj hx).symm⟩
theorem Dice.upd {H : Hp} {d p : Addr} {n : Nat} {o : HO} (h : Dice H d n) (hp : p ≠ d) : Dice (upd H p o) d n := by
  obtain ⟨a, b, c, e, e1, r⟩ := h
  refine ⟨a, b, c, e, ?_, r⟩
  rw [upd_ne (fun z => hp z.symm)]
  exact e1
theorem Dice.ne' {H : Hp} {d p : Addr} {n : Nat} (h : Dice H d n) (hp : H p = none) : p ≠ d := fun z => by
  obtain ⟨a, b, c, e, e1, r⟩ := h
  rw [z, e1] at hp
  cases hp
end K4
set_option Elab.async false
set_option linter.all false
set_option maxRecDepth 100000
set_option maxHeartbeats 8000000
namespace K4
open PySem PySem.Spec PyProof.Rows L2 K4M
theorem rng_at {j : Nat} (h : j < 106) : (((List.range' 1 106).map Hn).map V.int)[j]? = some (V.int (Hn (j + 1))) := by
  rw [List.getElem?_map, List.getElem?_map, List.getElem?_range' h]
  show some (V.int (Hn (1 + 1 * j))) = _
  rw [show 1 + 1 * j = j + 1 by omega]
section
variable {P : Program} {w : World} {K : PySem.W.Frag} {mg : Str → Option Value} {base : Heap}
theorem sc_law : FnScope ["script", "dice", "halves", "some", "number", "bound", "many", "spin", "at", "late"] ["script"] (defScope st_law) := ⟨rfl, rfl, rfl, by decide +kernel, rfl, by decide +kernel, by decide +kernel⟩
theorem ok_law (B : Bi mg) (D : Df K mg "law" st_law ["script"]) (CDs : Cal P w K mg base 2 "_law_dices" ["script", "few"] (spDices K)) (CD : Cal P w K mg base 2 "_law_draw" ["dice", "many"] spDrawW) (CO : Cal P w K mg base 3 "_law_one_of" ["dice", "some"] (spOne K))
    (CHv : Cal P w K mg base 1 "_law_halves" ["most"] spHalves) (CE : Cal P w K mg base 2 "_law_exact" ["mine", "theirs"] (spExact K 1)) (CS : Cal P w K mg base 4 "signs_for" ["number"] spSf) (CR : Cal P w K mg base 5 "rounds_for" ["many"] spRf) :
    FnOk P w K mg base CX0 6 D.f D.fd ["script"] (spLaw K) := by
  refine D.F.ok sc_law (fun vs H Q E h => ?_) (fun cdv A outer s' H vs Q E hr h => ?_)
  · obtain ⟨a, ns, rfl, _⟩ := h
    rfl
  · obtain ⟨a, ns, rfl, hS, hlen, q⟩ := h
    have r1 : Room 1 _ := hr.mono (by decide)
    have r2 : Room 2 _ := hr.mono (by decide)
    have r3 : Room 3 _ := hr.mono (by decide)
    have r4 : Room 4 _ := hr.mono (by decide)
    refine ⟨_, (pss_cons (ps_for PassesOwn.never rfl (pi_list (pcall CDs r2 (by rfl) (pa_cons (pv 0) (pa_cons pe_int pa_nil)))) (pg_name (i := 1) sc_law.nd rfl (.inr rfl)) (pss_cons (ps_set (i := 2) sc_law.nd rfl (.inr rfl) (pcall CHv r1 (by rfl) (pa_cons pe_int pa_nil))) (pss_cons (ps_set (i := 3) sc_law.nd rfl (.inl rfl) (pe_op op_cat (pe_lc (own := [("spin", 7)]) (g := (gName 7)) (tt := tYes) rfl sc_law.nd (pi_range1 (by rfl) B.range (pa_cons pe_int pa_nil)) (blkOk_by (N := ["script", "dice", "halves", "some", "number", "bound", "many", "spin", "at", "late"]) (sc := defScope st_law) (by decide +kernel)) (fun _ _ _ _ _ => (pg_name (i := 7) sc_law.nd rfl (.inl rfl))) (fun _ _ _ _ _ => pts_nil) (fun _ _ _ _ _ => (pe_op op_add pe_int (pcall CD r2 (by rfl) (pa_cons (pv 1) (pa_cons pe_int pa_nil)))))) (pe_lst (pa_cons pe_int (pa_cons pe_int (pa_cons pe_int (pa_cons pe_int pa_nil))))))) (pss_cons (ps_if (pt_not (pt_val (pcall CE r2 (by rfl) (pa_cons (pe_lc (own := [("number", 4)]) (g := (gName 4)) (tt := tYes) rfl sc_law.nd (pi_list (pv 3)) (blkOk_by (N := ["script", "dice", "halves", "some", "number", "bound", "many", "spin", "at", "late"]) (sc := defScope st_law) (by decide +kernel)) (fun _ _ _ _ _ => (pg_name (i := 4) sc_law.nd rfl (.inl rfl))) (fun _ _ _ _ _ => pts_nil) (fun _ _ _ _ _ => (pcall CS r4 (by rfl) (pa_cons (pv 4) pa_nil)))) (pa_cons (pe_lc (own := [("number", 4)]) (g := (gName 4)) (tt := tYes) rfl sc_law.nd (pi_list (pv 3)) (blkOk_by (N := ["script", "dice", "halves", "some", "number", "bound", "many", "spin", "at", "late"]) (sc := defScope st_law) (by decide +kernel)) (fun _ _ _ _ _ => (pg_name (i := 4) sc_law.nd rfl (.inl rfl))) (fun _ _ _ _ _ => pts_nil) (fun _ _ _ _ _ => (pe_ix (r := rIxL K) ix_list (pv 2) (pe_op op_sub (pv 4) pe_int) (fun _ _ => rfl)))) pa_nil))))) pss_never pss_nil) (pss_cons (ps_for PassesOwn.never rfl (pi_list (pe_op op_cat (pe_lc (own := [("spin", 7)]) (g := (gName 7)) (tt := tYes) rfl sc_law.nd (pi_range1 (by rfl) B.range (pa_cons pe_int pa_nil)) (blkOk_by (N := ["script", "dice", "halves", "some", "number", "bound", "many", "spin", "at", "late"]) (sc := defScope st_law) (by decide +kernel)) (fun _ _ _ _ _ => (pg_name (i := 7) sc_law.nd rfl (.inl rfl))) (fun _ _ _ _ _ => pts_nil) (fun _ _ _ _ _ => (pe_op op_add pe_int (pcall CD r2 (by rfl) (pa_cons (pv 1) (pa_cons pe_int pa_nil)))))) (pe_lst (pa_cons pe_int (pa_cons pe_int pa_nil))))) (pg_name (i := 4) sc_law.nd rfl (.inl rfl)) (pss_cons (ps_set (i := 5) sc_law.nd rfl (.inl rfl) (pe_ix (r := rIxL K) ix_list (pv 2) (pe_op op_sub (pv 4) pe_int) (fun _ _ => rfl))) (pss_one (ps_for PassesOwn.never rfl (pi_list (pe_lst (pa_cons (pe_op op_sub (pv 5) pe_int) (pa_cons (pv 5) (pa_cons (pe_op op_add (pv 5) pe_int) pa_nil))))) (pg_name (i := 6) sc_law.nd rfl (.inr rfl)) (pss_one (ps_if (PW.pt (pw_and (pt_cmpR op_gt (pv 6) pe_int (nomark _)) (pw_and1 (pt_not (pt_val (pcall CE r2 (by rfl) (pa_cons (pcall CR hr (by rfl) (pa_cons (pv 6) pa_nil)) (pa_cons (pe_ix (r := rIxL K) ix_list (pe_lc (own := [("at", 8), ("late", 9)]) (g := (gTup K 2 (gCons (gName 8) (gCons (gName 9) gNil)))) rfl sc_law.nd (pi_enum (by rfl) B.enum (pa_cons (pv 2) pa_nil)) (blkOk_by (N := ["script", "dice", "halves", "some", "number", "bound", "many", "spin", "at", "late"]) (sc := defScope st_law) (by decide +kernel)) (fun _ _ _ _ _ => (pg_tup rfl (pgs_cons (pg_name (i := 8) sc_law.nd rfl (.inl rfl)) (pgs_cons (pg_name (i := 9) sc_law.nd rfl (.inl rfl)) pgs_nil)))) (fun _ _ _ _ _ => (pts_one (pt_cmpR op_ge (pv 9) (pv 6) (nomark _)))) (fun _ _ _ _ _ => (pe_op op_add (pv 8) pe_int))) pe_int (fun _ _ => rfl)) pa_nil)))))))) pss_never pss_nil)))))) (pss_cons (ps_set (i := 6) sc_law.nd rfl (.inr rfl) (pe_op op_add pe_int (pcall CD r2 (by rfl) (pa_cons (pv 1) (pa_cons (pcall CO r3 (by rfl) (pa_cons (pv 1) (pa_cons (pe_lst (pa_cons pe_int (pa_cons pe_int (pa_cons pe_int (pa_cons (pe_op op_pow pe_int pe_int) (pa_cons (pe_op op_sub (pe_op op_pow pe_int pe_int) pe_int) pa_nil)))))) pa_nil))) pa_nil))))) (pss_one (ps_if (pt_not (pt_val (pcall CE r2 (by rfl) (pa_cons (pcall CR hr (by rfl) (pa_cons (pv 6) pa_nil)) (pa_cons (pe_ix (r := rIxL K) ix_list (pe_lc (own := [("at", 8), ("late", 9)]) (g := (gTup K 2 (gCons (gName 8) (gCons (gName 9) gNil)))) rfl sc_law.nd (pi_enum (by rfl) B.enum (pa_cons (pv 2) pa_nil)) (blkOk_by (N := ["script", "dice", "halves", "some", "number", "bound", "many", "spin", "at", "late"]) (sc := defScope st_law) (by decide +kernel)) (fun _ _ _ _ _ => (pg_tup rfl (pgs_cons (pg_name (i := 8) sc_law.nd rfl (.inl rfl)) (pgs_cons (pg_name (i := 9) sc_law.nd rfl (.inl rfl)) pgs_nil)))) (fun _ _ _ _ _ => (pts_one (pt_cmpR op_ge (pv 9) (pv 6) (nomark _)))) (fun _ _ _ _ _ => (pe_op op_add (pv 8) pe_int))) pe_int (fun _ _ => rfl)) pa_nil))))) pss_never pss_nil)))))))) (pss_one (ps_ret (pcall CE r2 (by rfl) (pa_cons (pe_lc (own := [("many", 6)]) (g := (gName 6)) (tt := tYes) rfl sc_law.nd (pi_tup (pe_tup (pa_cons pe_int (pa_cons pe_int (pa_cons pe_int (pa_cons pe_int (pa_cons pe_int (pa_cons pe_int (pa_cons pe_int (pa_cons pe_int (pa_cons pe_int (pa_cons pe_int pa_nil)))))))))))) (blkOk_by (N := ["script", "dice", "halves", "some", "number", "bound", "many", "spin", "at", "late"]) (sc := defScope st_law) (by decide +kernel)) (fun _ _ _ _ _ => (pg_name (i := 6) sc_law.nd rfl (.inl rfl))) (fun _ _ _ _ _ => pts_nil) (fun _ _ _ _ _ => (pcall CR hr (by rfl) (pa_cons (pv 6) pa_nil)))) (pa_cons (pe_lst (pa_cons pe_int (pa_cons pe_int (pa_cons pe_int (pa_cons pe_int (pa_cons pe_int (pa_cons pe_int (pa_cons pe_int (pa_cons pe_int (pa_cons pe_int (pa_cons pe_int pa_nil))))))))))) pa_nil)))))), ?_⟩
    have e16 : sizeLine = 16777216 := by decide
    refine ⟨_, rfl, a, ns, 1, rfl, hS, by decide, fun L ds H1 hL sm1 hLs hdl hds hnd => ?_⟩
    refine ⟨L, rfl, ⟨_, .inl (.inl hLs)⟩, ?_⟩
    refine for_list (K := K) (a := L) (xs := ds.map V.ref) (fun i σ H2 => ∃ y1 y2 y3 y4 y5 y6 : Option V, σ = [some (.ref a), y1, y2, y3, y4, y5, y6, none, none, none] ∧ H2 L = some (.lst (ds.map V.ref)) ∧ ∀ j d, i ≤ j → ds[j]? = some d → Dice H2 d 0)
      ⟨none, none, none, none, none, none, rfl, hLs, fun j d _ hj => (hds d (List.mem_of_getElem? hj)).1⟩ (fun i σ H2 _ ⟨_, _, _, _, _, _, _, z, _⟩ => .inl (.inl z)) ?_ ?_
    · rintro i x σ H2 hx ⟨y1, y2, y3, y4, y5, y6, rfl, hL2, hd2⟩
      obtain ⟨d, hdi, rfl⟩ := refs_at hx
      have hdm := List.mem_of_getElem? hdi
      have neL : L ≠ d := dices_ne hLs hdm (hds d hdm).1
      have hD0 := hd2 i d (Nat.le_refl _) hdi
      -- halves
      refine ⟨rfl, fun LH H3 hLH s3 eLH => ?_⟩
      have hD3 := Same.dice s3 hD0
      have nLH : LH ≠ d := hD0.ne' hLH
      -- some
      refine ⟨6, rfl, by decide, by decide, fun DD hD => ?_⟩
      have nDD : DD ≠ d := hD3.ne' hD
      refine lc_range (lo := 0) (n := (6 : Int).toNat) (fun j H4 => ∃ ms : List Nat, ms.length = j ∧ (∀ x ∈ ms, 1 ≤ x ∧ x ≤ 100) ∧ Kept H3 H4 d ∧ Dice H4 d (9 * j) ∧ H4 DD = some (.lst (natsV ms)))
        ⟨[], rfl, (fun _ h => by cases h), Kept.of (same_upd hD), hD3.upd nDD, upd_same⟩ ?_ ?_
      · rintro j H4 hj ⟨ms, hml, hms, k4, hD4, eDD⟩
        refine ⟨rfl, _, rfl, d, 100, 9 * j, rfl, hD4, by have : j < 6 := hj; omega, by decide, by decide, fun r H5 r0 r1 hD5 k5 => ⟨_, _, rfl, rfl, ?_⟩⟩
        refine ⟨_, k5 _ _ nDD eDD, by rw [nats_len, hml]; have : j < 6 := hj; omega, ms ++ [(1 + r).toNat], by rw [List.length_append, hml]; rfl, fun x hx => ?_, fun c o hc e => ?_, by rw [show 9 * (j + 1) = 9 * j + 9 by omega]; exact hD5.upd nDD, ?_⟩
        · rcases List.mem_append.mp hx with hx | hx
          · exact hms x hx
          · rw [List.mem_singleton.mp hx]
            omega
        · rw [upd_ne (ne_of_none e hD)]
          exact k5 _ _ hc (k4 c o hc e)
        · rw [upd_same, nats_app]
          show some (HO.lst (natsV ms ++ [V.int (1 + r)])) = some (HO.lst (natsV ms ++ [V.int ((1 + r).toNat : Int)]))
          rw [show (((1 + r).toNat : Nat) : Int) = 1 + r by omega]
      rintro H4 ⟨ms, hml, hms, k4, hD4, eDD⟩
      have hml6 : ms.length = 6 := hml
      refine ⟨by show 4 ≤ sizeLine; omega, fun l2 hl2 => ?_⟩
      have s5 := same_upd (o := .lst [V.int 1, V.int 2, V.int 99, V.int 100]) hl2
      refine ⟨DD, l2, _, _, rfl, rfl, s5 _ _ eDD, upd_same, by rw [nats_len, hml6]; show 6 + 4 ≤ sizeLine; omega, fun p hp => ?_⟩
      have s6 := same_upd (o := .lst (natsV ms ++ [V.int 1, V.int 2, V.int 99, V.int 100])) hp
      have ep := upd_same (H := upd H4 l2 (.lst [V.int 1, V.int 2, V.int 99, V.int 100])) (a := p) (o := .lst (natsV ms ++ [V.int 1, V.int 2, V.int 99, V.int 100]))
      have k6 : Kept H2 _ d := (Kept.of s3).trans (k4.trans (Kept.of (s5.trans s6)))
      have hD6 := Same.dice (s5.trans s6) hD4
      have eLH6 := (s5.trans s6) _ _ (k4 _ _ nLH eLH)
      have epp : natsV ms ++ [V.int 1, V.int 2, V.int 99, V.int 100] = natsV (ms ++ [1, 2, 99, 100]) := by rw [nats_app]; rfl
      rw [epp] at ep
      have hms2 : ∀ x ∈ ms ++ [1, 2, 99, 100], 1 ≤ x ∧ x ≤ 100 := fun x hx => by
        rcases List.mem_append.mp hx with hx | hx
        · exact hms x hx
        · have all : ∀ x ∈ [1, 2, 99, 100], 1 ≤ x ∧ x ≤ 100 := by decide
          exact all x hx
      have hml2 : (ms ++ [1, 2, 99, 100]).length = 10 := by rw [List.length_append, hml6]; rfl
      revert k6 hD6 eLH6 ep
      rw [epp]
      generalize upd (upd H4 l2 (.lst [V.int 1, V.int 2, V.int 99, V.int 100])) p (.lst (natsV (ms ++ [1, 2, 99, 100]))) = H7
      generalize ms ++ [1, 2, 99, 100] = ks at hms2 hml2
      intro ep k6 hD6 eLH7
      -- signs_for
      refine ⟨_, rfl, p, rfl, ⟨_, .inl (.inl ep)⟩, fun D1 hD1 => ?_⟩
      refine lc_list (K := K) (a := p) (xs := natsV ks) (fun j H8 => Same H7 H8 ∧ H8 D1 = some (.lst ((ks.take j).map fun m => V.int (Hn m)))) ⟨same_upd hD1, upd_same⟩ (fun j H8 _ z => .inl (.inl (z.1 _ _ ep))) ?_ ?_
      · rintro j x H8 hx ⟨sm8, eD⟩
        obtain ⟨m, hm, rfl⟩ := nats_at hx
        have hb := hms2 m (List.mem_of_getElem? hm)
        refine ⟨rfl, _, rfl, m, rfl, hb.1, by omega, _, eD, by rw [List.length_map, List.length_take]; omega, fun c o e => ?_, ?_⟩
        · rw [upd_ne (ne_of_none e hD1)]
          exact sm8 c o e
        · rw [upd_same, List.take_add_one, hm, List.map_append]
          rfl
      rintro H8 ⟨sm8, eD1⟩
      rw [nats_len, List.take_length] at eD1
      refine ⟨_, rfl, p, rfl, ⟨_, .inl (.inl (sm8 _ _ ep))⟩, fun D2 hD2 => ?_⟩
      refine lc_list (K := K) (a := p) (xs := natsV ks) (fun j H9 => Same H8 H9 ∧ H9 D2 = some (.lst ((ks.take j).map fun m => V.int (Hn m)))) ⟨same_upd hD2, upd_same⟩ (fun j H9 _ z => .inl (.inl (z.1 _ _ (sm8 _ _ ep)))) ?_ ?_
      · rintro j x H9 hx ⟨sm9, eD⟩
        obtain ⟨m, hm, rfl⟩ := nats_at hx
        have hb := hms2 m (List.mem_of_getElem? hm)
        refine ⟨rfl, _, rfl, _, rfl, _, _, rfl, rfl, LH, _, _, _, rfl, rfl, .inl (.inl (sm9 _ _ (sm8 _ _ eLH7))), atI_eq (k := m - 1) (by omega) (rng_at (by omega)), _, eD, by rw [List.length_map, List.length_take]; omega, fun c o e => ?_, ?_⟩
        · rw [upd_ne (ne_of_none e hD2)]
          exact sm9 c o e
        · rw [upd_same, List.take_add_one, hm, List.map_append, show m - 1 + 1 = m by omega]
          rfl
      rintro H9 ⟨sm9, eD2⟩
      rw [nats_len, List.take_length] at eD2
      refine ⟨_, _, rfl, Eqv.list (.inl (.inl (sm9 _ _ eD1))) (.inl (.inl eD2)) (by rw [List.length_map]; omega) (fun x hx => ?_), fun H10 s10 => ⟨_, rfl, iteF ?_⟩⟩
      · obtain ⟨m, _, rfl⟩ := List.mem_map.mp hx
        exact True.intro
      have k10 : Kept H2 H10 d := k6.trans (Kept.of (sm8.trans (sm9.trans s10)))
      have hD10 := Same.dice (sm8.trans (sm9.trans s10)) hD6
      have eLH10 := (sm8.trans (sm9.trans s10)) _ _ eLH7
      clear eD1 eD2 ep eLH7
      -- numbers
      refine ⟨4, rfl, by decide, by decide, fun D4 hD4n => ?_⟩
      have nD4 : D4 ≠ d := hD10.ne' hD4n
      refine lc_range (lo := 0) (n := (4 : Int).toNat) (fun j H4 => ∃ ms : List Nat, ms.length = j ∧ (∀ x ∈ ms, 2 ≤ x ∧ x ≤ 103) ∧ Kept H10 H4 d ∧ Dice H4 d (100 + 9 * j) ∧ H4 D4 = some (.lst (natsV ms)))
        ⟨[], rfl, (fun _ h => by cases h), Kept.of (same_upd hD4n), (hD10.upd nD4).more (by decide), upd_same⟩ ?_ ?_
      · rintro j H4 hj ⟨ms, hml, hms, k4, hD4, eDD⟩
        have hj4 : j < 4 := hj
        refine ⟨rfl, _, rfl, d, 102, 100 + 9 * j, rfl, hD4, by omega, by decide, by decide, fun r H5 r0 r1 hD5 k5 => ⟨_, _, rfl, rfl, ?_⟩⟩
        refine ⟨_, k5 _ _ nD4 eDD, by rw [nats_len, hml]; omega, ms ++ [(2 + r).toNat], by rw [List.length_append, hml]; rfl, fun x hx => ?_, fun c o hc e => ?_, by rw [show 100 + 9 * (j + 1) = 100 + 9 * j + 9 by omega]; exact hD5.upd nD4, ?_⟩
        · rcases List.mem_append.mp hx with hx | hx
          · exact hms x hx
          · rw [List.mem_singleton.mp hx]
            omega
        · rw [upd_ne (ne_of_none e hD4n)]
          exact k5 _ _ hc (k4 c o hc e)
        · rw [upd_same, nats_app]
          show some (HO.lst (natsV ms ++ [V.int (2 + r)])) = some (HO.lst (natsV ms ++ [V.int ((2 + r).toNat : Int)]))
          rw [show (((2 + r).toNat : Nat) : Int) = 2 + r by omega]
      rintro H11 ⟨ms4, hml4, hms4, k11, hD11, eD4⟩
      refine ⟨by show 2 ≤ sizeLine; omega, fun l3 hl3 => ?_⟩
      have s12 := same_upd (o := .lst [V.int 2, V.int 4]) hl3
      have hml44 : ms4.length = 4 := hml4
      refine ⟨D4, l3, _, _, rfl, rfl, s12 _ _ eD4, upd_same, by rw [nats_len, hml44]; show 4 + 2 ≤ sizeLine; omega, fun p3 hp3 => ?_⟩
      have s13 := same_upd (o := .lst (natsV ms4 ++ [V.int 2, V.int 4])) hp3
      have ep3 := upd_same (H := upd H11 l3 (.lst [V.int 2, V.int 4])) (a := p3) (o := .lst (natsV ms4 ++ [V.int 2, V.int 4]))
      have k14 : Kept H2 _ d := k10.trans (k11.trans (Kept.of (s12.trans s13)))
      have hD14 := Same.dice (s12.trans s13) hD11
      have eLH14 := (s12.trans s13) _ _ (k11 _ _ nLH eLH10)
      have epp3 : natsV ms4 ++ [V.int 2, V.int 4] = natsV (ms4 ++ [2, 4]) := by rw [nats_app]; rfl
      rw [epp3] at ep3
      have hms5 : ∀ x ∈ ms4 ++ [2, 4], 2 ≤ x ∧ x ≤ 103 := fun x hx => by
        rcases List.mem_append.mp hx with hx | hx
        · exact hms4 x hx
        · have all : ∀ x ∈ [2, 4], 2 ≤ x ∧ x ≤ 103 := by decide
          exact all x hx
      revert ep3 k14 hD14 eLH14
      rw [epp3]
      generalize upd (upd H11 l3 (.lst [V.int 2, V.int 4])) p3 (.lst (natsV (ms4 ++ [2, 4]))) = H15
      generalize ms4 ++ [2, 4] = ks5 at hms5
      intro ep3 k15 hD15 eLH15
      refine ⟨p3, rfl, ⟨_, .inl (.inl ep3)⟩, ?_⟩
      refine for_list (K := K) (a := p3) (xs := natsV ks5) (fun j σ H3 => ∃ y4 y5 y6 : Option V, σ = [some (.ref a), some (.ref d), some (.ref LH), some (.ref p), y4, y5, y6, none, none, none] ∧ Same H15 H3)
        ⟨_, _, _, rfl, Same.refl _⟩ (fun j σ H3 _ ⟨_, _, _, _, z⟩ => .inl (.inl (z _ _ ep3))) ?_ ?_
      · rintro j x σ H3 hx ⟨y4, y5, y6, rfl, sm3⟩
        obtain ⟨m, hm, rfl⟩ := nats_at hx
        have hb := hms5 m (List.mem_of_getElem? hm)
        obtain ⟨hb1, hb2⟩ := Hn_top m (by omega) hb.2
        refine ⟨_, rfl, _, rfl, _, _, rfl, rfl, LH, _, _, V.int (Hn m), rfl, rfl, .inl (.inl (sm3 _ _ eLH15)), atI_eq (k := m - 1) (by omega) (by rw [rng_at (by omega), show m - 1 + 1 = m by omega]), ?_⟩
        refine ⟨_, rfl, _, _, rfl, rfl, _, rfl, _, rfl, _, _, rfl, rfl, by show 3 ≤ sizeLine; omega, fun l4 hl4 => ?_⟩
        have s16 := same_upd (o := .lst [V.int (Hn m - 1), V.int (Hn m), V.int (Hn m + 1)]) hl4
        have el4 := upd_same (H := H3) (a := l4) (o := .lst [V.int (Hn m - 1), V.int (Hn m), V.int (Hn m + 1)])
        revert s16 el4
        generalize upd H3 l4 (.lst [V.int (Hn m - 1), V.int (Hn m), V.int (Hn m + 1)]) = H16
        intro s16 el4
        refine ⟨l4, rfl, ⟨_, .inl (.inl el4)⟩, ?_⟩
        refine for_list (K := K) (a := l4) (xs := [V.int (Hn m - 1), V.int (Hn m), V.int (Hn m + 1)]) (fun j σ H4 => ∃ y6 : Option V, σ = [some (.ref a), some (.ref d), some (.ref LH), some (.ref p), some (.int m), some (.int (Hn m)), y6, none, none, none] ∧ Same H16 H4)
          ⟨_, rfl, Same.refl _⟩ (fun j σ H4 _ ⟨_, _, z⟩ => .inl (.inl (z _ _ el4))) ?_ ?_
        · rintro j2 x2 σ Hx hx2 ⟨y6, rfl, smx⟩
          obtain ⟨xb, rfl, hxb⟩ : ∃ xb : Int, x2 = V.int xb ∧ xb ≤ Hn 106 := by
            have hm2 := List.mem_of_getElem? hx2
            rcases List.mem_cons.mp hm2 with rfl | hm2
            · exact ⟨_, rfl, by omega⟩
            rcases List.mem_cons.mp hm2 with rfl | hm2
            · exact ⟨_, rfl, by omega⟩
            · rw [List.mem_singleton.mp hm2]
              exact ⟨_, rfl, by omega⟩
          have eLHx := smx _ _ (s16 _ _ (sm3 _ _ eLH15))
          refine ⟨_, rfl, _, _, rfl, rfl, _, rfl, ?_⟩
          by_cases h1x : 1 < xb
          case neg =>
            rw [decide_eq_false h1x]
            exact iteF (iteF ⟨_, rfl, smx⟩)
          rw [decide_eq_true h1x]
          refine iteT ?_
          refine ⟨_, rfl, xb, rfl, by omega, hxb, ?_⟩
          refine ⟨_, rfl, LH, _, rfl, .inl (.inl eLHx), fun D3 hD3' => ?_⟩
          refine lc_it walk_enum (fun j H13 => Same Hx H13 ∧ H13 D3 = some (.lst (natsV (((List.range' 1 106).take j).filter fun n => decide (xb ≤ Hn n))))) ⟨same_upd hD3', upd_same⟩ (fun j H13 _ z => .inl (.inl (z.1 _ _ eLHx))) ?_ ?_
          · rintro j v H13 H14 hj ⟨sm13, eD3⟩ ⟨T, v1, v2, rfl, hT, rfl, e1, e2⟩
            have hj6 : j < 106 := hj
            cases e1
            have e2 : (((List.range' 1 106).map Hn).map V.int)[j]? = some v2 := e2
            rw [rng_at hj6] at e2
            cases e2
            have sT := same_upd (o := .tup [V.int (j : Nat), V.int (Hn (j + 1))]) hT
            have ej : (List.range' 1 106)[j]? = some (j + 1) := by rw [List.getElem?_range' hj6]; congr 1; omega
            refine ⟨T, [V.int (j : Nat), V.int (Hn (j + 1))], rfl, .inl (.inl upd_same), rfl, _, [V.int (Hn (j + 1))], rfl, _, [], rfl, rfl, rfl, _, rfl, _, rfl, _, _, rfl, rfl, _, rfl, ?_⟩
            have lf := List.length_filter_le (fun n => decide (xb ≤ Hn n)) ((List.range' 1 106).take j)
            rw [List.length_take] at lf
            cases hb : decide (xb ≤ Hn (j + 1)) with
            | true =>
              refine iteT ⟨_, rfl, _, _, rfl, rfl, _, sT _ _ eD3, by rw [nats_len]; omega, fun c o e => ?_, ?_⟩
              · rw [upd_ne (ne_of_none e hD3')]
                exact sT _ _ (sm13 c o e)
              · rw [upd_same, filter_take ej, if_pos hb, nats_app]
                rfl
            | false =>
              refine iteF ⟨sm13.trans sT, ?_⟩
              rw [sT _ _ eD3, filter_take ej, if_neg (by rw [hb]; exact Bool.false_ne_true), List.append_nil]
          rintro H13 ⟨sm13, eD3⟩
          rw [List.length_map, List.length_map, List.length_range', List.take_of_length_le (by rw [List.length_range']; decide)] at eD3
          obtain ⟨rr, err⟩ := lr_hal (m := xb) hxb
          rw [err] at eD3
          refine ⟨D3, _, 0, .int (lr xb : Int), rfl, rfl, .inl (.inl eD3), atI_nat (j := 0) rfl, ?_⟩
          exact ⟨_, _, rfl, Eqv.flat True.intro, fun H17 s17 => ⟨_, rfl, iteF ⟨_, rfl, smx.trans (sm13.trans s17)⟩⟩⟩
        · rintro σ H4 ⟨y6, rfl, smx⟩
          exact ⟨_, _, _, rfl, sm3.trans (s16.trans smx)⟩
      rintro σ H3 ⟨y4, y5, y6, rfl, sm3⟩
      have k16 := k15.trans (Kept.of sm3)
      have hD16 := Same.dice sm3 hD15
      have eLH16 := sm3 _ _ eLH15
      -- a great number
      refine ⟨_, rfl, _, rfl, _, _, rfl, rfl, ⟨by decide, by decide, by decide⟩, _, _, rfl, rfl, ⟨by decide, by decide, by decide⟩, _, _, rfl, rfl, by show 5 ≤ sizeLine; omega, fun l5 hl5 => ?_⟩
      have s17 := same_upd (o := .lst [V.int 10, V.int 100, V.int 1000, V.int ((10 : Int) ^ (10 : Int).toNat), V.int ((10 : Int) ^ (30 : Int).toNat - 2)]) hl5
      have el5 := upd_same (H := H3) (a := l5) (o := .lst [V.int 10, V.int 100, V.int 1000, V.int ((10 : Int) ^ (10 : Int).toNat), V.int ((10 : Int) ^ (30 : Int).toNat - 2)])
      have hD17 := (Same.dice s17 hD16).more (m := 200) (by decide)
      refine ⟨d, l5, 200, _, rfl, hD17, by decide, hD16.ne' hl5, .inl (.inl el5), by show 0 < 5; decide, by show 5 < 100000; decide, fun i5 x5 H18 hx5 hD18 k18 => ?_⟩
      obtain ⟨m5, rfl, hm5, hm6⟩ : ∃ m5 : Int, x5 = V.int m5 ∧ 1 ≤ m5 ∧ m5 ≤ 10 ^ 30 - 2 := by
        have hm2 := List.mem_of_getElem? hx5
        rcases List.mem_cons.mp hm2 with rfl | hm2
        · exact ⟨_, rfl, by decide, by decide⟩
        rcases List.mem_cons.mp hm2 with rfl | hm2
        · exact ⟨_, rfl, by decide, by decide⟩
        rcases List.mem_cons.mp hm2 with rfl | hm2
        · exact ⟨_, rfl, by decide, by decide⟩
        rcases List.mem_cons.mp hm2 with rfl | hm2
        · exact ⟨_, rfl, by decide +kernel, by decide +kernel⟩
        · rw [List.mem_singleton.mp hm2]
          exact ⟨_, rfl, by decide +kernel, by decide +kernel⟩
      refine ⟨d, m5, 201, rfl, hD18, by decide, hm5, Int.lt_of_le_of_lt hm6 (by decide), fun r5 H20 r50 r51 hD20 k20 => ⟨_, _, rfl, rfl, ?_⟩⟩
      have hxb : 2 + r5 ≤ Hn 106 := by
        have := Hn_big
        omega
      have h2x : 2 ≤ 2 + r5 := by omega
      have eLH20 := k20 _ _ nLH (k18 _ _ nLH (s17 _ _ eLH16))
      have k21 := k16.trans ((Kept.of s17).trans (k18.trans k20))
      refine ⟨_, rfl, 2 + r5, rfl, h2x, hxb, ?_⟩
      refine ⟨_, rfl, LH, _, rfl, .inl (.inl eLH20), fun D3 hD3' => ?_⟩
      refine lc_it walk_enum (fun j H13 => Same H20 H13 ∧ H13 D3 = some (.lst (natsV (((List.range' 1 106).take j).filter fun n => decide ((2 + r5) ≤ Hn n))))) ⟨same_upd hD3', upd_same⟩ (fun j H13 _ z => .inl (.inl (z.1 _ _ eLH20))) ?_ ?_
      · rintro j v H13 H14 hj ⟨sm13, eD3⟩ ⟨T, v1, v2, rfl, hT, rfl, e1, e2⟩
        have hj6 : j < 106 := hj
        cases e1
        have e2 : (((List.range' 1 106).map Hn).map V.int)[j]? = some v2 := e2
        rw [rng_at hj6] at e2
        cases e2
        have sT := same_upd (o := .tup [V.int (j : Nat), V.int (Hn (j + 1))]) hT
        have ej : (List.range' 1 106)[j]? = some (j + 1) := by rw [List.getElem?_range' hj6]; congr 1; omega
        refine ⟨T, [V.int (j : Nat), V.int (Hn (j + 1))], rfl, .inl (.inl upd_same), rfl, _, [V.int (Hn (j + 1))], rfl, _, [], rfl, rfl, rfl, _, rfl, _, rfl, _, _, rfl, rfl, _, rfl, ?_⟩
        have lf := List.length_filter_le (fun n => decide ((2 + r5) ≤ Hn n)) ((List.range' 1 106).take j)
        rw [List.length_take] at lf
        cases hb : decide ((2 + r5) ≤ Hn (j + 1)) with
        | true =>
          refine iteT ⟨_, rfl, _, _, rfl, rfl, _, sT _ _ eD3, by rw [nats_len]; omega, fun c o e => ?_, ?_⟩
          · rw [upd_ne (ne_of_none e hD3')]
            exact sT _ _ (sm13 c o e)
          · rw [upd_same, filter_take ej, if_pos hb, nats_app]
            rfl
        | false =>
          refine iteF ⟨sm13.trans sT, ?_⟩
          rw [sT _ _ eD3, filter_take ej, if_neg (by rw [hb]; exact Bool.false_ne_true), List.append_nil]
      rintro H13 ⟨sm13, eD3⟩
      rw [List.length_map, List.length_map, List.length_range', List.take_of_length_le (by rw [List.length_range']; decide)] at eD3
      obtain ⟨rr, err⟩ := lr_hal (m := 2 + r5) hxb
      rw [err] at eD3
      refine ⟨D3, _, 0, .int (lr (2 + r5) : Int), rfl, rfl, .inl (.inl eD3), atI_nat (j := 0) rfl, ?_⟩
      exact ⟨_, _, rfl, Eqv.flat True.intro, fun H22 s22 => ⟨_, rfl, iteF ⟨_, _, _, _, _, _, rfl, dices_after hdi hnd neL hL2 hd2 (k21.trans (Kept.of (sm13.trans s22)))⟩⟩⟩
    · rintro σ H2 ⟨y1, y2, y3, y4, y5, y6, rfl, hL2, hd2⟩
      refine ⟨by show 10 ≤ sizeLine; omega, fun T hT => ?_⟩
      have eT := upd_same (H := H2) (a := T) (o := .tup [V.int 2, V.int 3, V.int 4, V.int 6, V.int 7, V.int 20, V.int 21, V.int 252, V.int 253, V.int 256])
      generalize upd H2 T (.tup [V.int 2, V.int 3, V.int 4, V.int 6, V.int 7, V.int 20, V.int 21, V.int 252, V.int 253, V.int 256]) = H3 at eT
      refine ⟨T, rfl, ⟨_, .inl (.inl eT)⟩, fun D1 hD1 => ?_⟩
      have hall : ∀ m : Nat, m ∈ [2, 3, 4, 6, 7, 20, 21, 252, 253, 256] → 2 ≤ m ∧ (m : Int) ≤ Hn 106 := by decide +kernel
      refine lc_it (walk_tup (K := K) (a := T) (xs := natsV [2, 3, 4, 6, 7, 20, 21, 252, 253, 256])) (fun j H13 => Same H3 H13 ∧ H13 D1 = some (.lst (natsV (([2, 3, 4, 6, 7, 20, 21, 252, 253, 256].take j).map fun (m : Nat) => lr (m : Int))))) ⟨same_upd hD1, upd_same⟩ (fun j H13 _ z => .inl (.inl (z.1 _ _ eT))) ?_ ?_
      · rintro j v H13 H14 hj ⟨sm13, eD3⟩ ⟨rfl, hv⟩
        obtain ⟨m, hm, rfl⟩ := nats_at hv
        obtain ⟨h1, h2⟩ := hall m (List.mem_of_getElem? hm)
        refine ⟨rfl, _, rfl, (m : Int), rfl, by omega, h2, _, eD3, ?_, fun c o e => ?_, ?_⟩
        · rw [nats_len, List.length_map, List.length_take]
          show min j 10 < sizeLine
          omega
        · rw [upd_ne (ne_of_none e hD1)]
          exact sm13 c o e
        · rw [upd_same, List.take_add_one, hm, List.map_append, nats_app]
          rfl
      rintro H13 ⟨sm13, eD1⟩
      rw [nats_len, List.take_length] at eD1
      refine ⟨by show 10 ≤ sizeLine; omega, fun D2 hD2 => ?_⟩
      have elr : natsV ([2, 3, 4, 6, 7, 20, 21, 252, 253, 256].map fun (m : Nat) => lr (m : Int)) = [V.int 2, V.int 3, V.int 4, V.int 4, V.int 5, V.int 6, V.int 7, V.int 10, V.int 11, V.int 11] := by
        have h : ([2, 3, 4, 6, 7, 20, 21, 252, 253, 256].map fun (m : Nat) => lr (m : Int)) = [2, 3, 4, 4, 5, 6, 7, 10, 11, 11] := by decide +kernel
        rw [h]
        rfl
      rw [elr] at eD1
      refine ⟨_, _, rfl, Eqv.list (.inl (.inl (same_upd hD2 _ _ eD1))) (.inl (.inl upd_same)) (by show 10 ≤ 100000; decide) (fun x hx => ?_), fun H' s' => q H'⟩
      have hx2 : x ∈ natsV [2, 3, 4, 4, 5, 6, 7, 10, 11, 11] := hx
      obtain ⟨m, _, rfl⟩ := List.mem_map.mp hx2
      exact True.intro
end
end K4
set_option Elab.async false
set_option linter.all false
set_option maxRecDepth 100000
set_option maxHeartbeats 4000000
namespace K4
open PySem PySem.Spec PyProof.Rows L2 K4M
/-- a def as the top has left it -/
def df_mk {K : PySem.W.Frag} {h : Heap} {mg : Str → Option Value} (X : K.In h) (G : h.Ns mainGlobals mg) {x : Str} {st : Stmt} {ps : List Str} {f : Addr} {oc : Value} {od an : Option Addr} {sl : Array (Option Value)} {kV dc pm cd ct : Value}
    (a : PySem.W.nsIn K mainGlobals x = some (some (.ref f))) (l : K.lookup f = some ⟨oc, od, .func (PySem.W.fnOf x x (defArgs st) (defBody st) (defScope st) .none kV dc pm an cd ct), sl⟩) (c : PySem.W.codeIn K cd x = true) (k : PySem.W.keepIn K (.ref f) = true)
    (b : ∀ (kV doc pm : Value) (an : Option Addr) (cdv ct : Value) (us : List Value), us.length = ps.length → bindArgs (PySem.W.fnOf x x (defArgs st) (defBody st) (defScope st) .none kV doc pm an cdv ct) ⟨us, []⟩ = pure (ps.zip us)) : Df K mg x st ps :=
  ⟨f, _, fun_mk (st := st) l c k, (fun_mk (st := st) l c k).binds b, PySem.W.mg_of X G a⟩
theorem all_mk {l : PySem.W.OpenLaw} {w : World} {K : PySem.W.Frag} {h : Heap} {mg : Str → Option Value} {fa f1 : Addr} (X : K.In h) (G : h.Ns mainGlobals mg) (hfa : mg "law" = some (.ref fa))
    {od1 an1 : Option Addr} {sl1 : Array (Option Value)} {oc1 kV1 dc1 pm1 cd1 ct1 : Value}
    (a1 : PySem.W.nsIn K mainGlobals "law" = some (some (.ref f1))) (l1 : K.lookup f1 = some ⟨oc1, od1, .func (PySem.W.fnOf "law" "law" (defArgs st_law) (defBody st_law) (defScope st_law) .none kV1 dc1 pm1 an1 cd1 ct1), sl1⟩) (c1 : PySem.W.codeIn K cd1 "law" = true) (k1 : PySem.W.keepIn K (.ref f1) = true)
    (B : Bi mg) (cb : PySem.W.nsIn K mainGlobals "comb" = some (some (.builtin "math.comb")))
    (d__law_dice : Df K mg "_law_dice" st__law_dice ["script", "at"])
    (d__law_dices : Df K mg "_law_dices" st__law_dices ["script", "few"])
    (d__law_mixed : Df K mg "_law_mixed" st__law_mixed ["seed", "spin", "at"])
    (d__law_draw : Df K mg "_law_draw" st__law_draw ["dice", "many"])
    (d__law_one_of : Df K mg "_law_one_of" st__law_one_of ["dice", "some"])
    (d__law_halves : Df K mg "_law_halves" st__law_halves ["most"])
    (d_is_whole_number : Df K mg "is_whole_number" st_is_whole_number ["value"])
    (d_is_count : Df K mg "is_count" st_is_count ["value"])
    (d_check_number : Df K mg "check_number" st_check_number ["value", "least"])
    (d_signs_for : Df K mg "signs_for" st_signs_for ["number"])
    (d_rounds_for : Df K mg "rounds_for" st_rounds_for ["many"])
    (d__law_exact : Df K mg "_law_exact" st__law_exact ["mine", "theirs"])
    : ∃ fd : FuncData, (∀ (s : Shared) (v : Value), BindsTo s fd ⟨[v], []⟩ [("script", v)]) ∧ ∀ base : Heap, K.In base → base.Ns mainGlobals mg → FnOk l.prog w K mg base CX0 6 fa fd ["script"] (spLaw K) := by
  have e := hfa.symm.trans (PySem.W.mg_of X G a1)
  cases e
  have F1 := fun_mk (st := st_law) l1 c1 k1
  have b1 := F1.binds (ps := ["script"]) fun _ _ _ _ _ _ us hl => match us, hl with | [_], _ => rfl
  refine ⟨PySem.W.fnOf "law" "law" (defArgs st_law) (defBody st_law) (defScope st_law) .none kV1 dc1 pm1 an1 cd1 ct1, fun s v => .of_eq rfl, fun base _ _ => ?_⟩
  have c_exact1 := d__law_exact.cal (P := l.prog) (w := w) (base := base) (ok_exact B d__law_exact 1)
  have c__law_dice := d__law_dice.cal (P := l.prog) (w := w) (base := base) (ok_dice B d__law_dice)
  have c__law_dices := d__law_dices.cal (P := l.prog) (w := w) (base := base) (ok_dices B d__law_dices c__law_dice)
  have c__law_mixed := d__law_mixed.cal (P := l.prog) (w := w) (base := base) (ok_mixed B d__law_mixed)
  have c__law_draw_W := d__law_draw.cal (P := l.prog) (w := w) (base := base) (ok_drawW B d__law_draw c__law_mixed)
  have c__law_draw := d__law_draw.cal (P := l.prog) (w := w) (base := base) (ok_draw B d__law_draw c__law_mixed)
  have c__law_one_of := d__law_one_of.cal (P := l.prog) (w := w) (base := base) (ok_one_of B d__law_one_of c__law_draw)
  have c__law_halves := d__law_halves.cal (P := l.prog) (w := w) (base := base) (ok_halves B d__law_halves)
  have c_is_whole_number := d_is_whole_number.cal (P := l.prog) (w := w) (base := base) (ok_whole B d_is_whole_number)
  have c_is_count := d_is_count.cal (P := l.prog) (w := w) (base := base) (ok_count B d_is_count c_is_whole_number)
  have c_check_number := d_check_number.cal (P := l.prog) (w := w) (base := base) (ok_cnum d_check_number c_is_count)
  have c_signs_for := d_signs_for.cal (P := l.prog) (w := w) (base := base) (ok_sf (PySem.W.mg_of X G cb) d_signs_for c_check_number)
  have c_rounds_for := d_rounds_for.cal (P := l.prog) (w := w) (base := base) (ok_rf d_rounds_for c_check_number c_signs_for)
  exact ok_law B ⟨_, _, F1, b1, PySem.W.mg_of X G a1⟩ c__law_dices c__law_draw_W c__law_one_of c__law_halves c_exact1 c_signs_for c_rounds_for
end K4
open PySem PySem.W PyProof.Rows
set_option maxRecDepth 100000 in
set_option maxHeartbeats 0 in
theorem PySem.Challenge.cw_owncuts_k20_whole_numbers_of_signs_and_r_holds : PySem.Challenge.rw_owncuts_k20_whole_numbers_of_signs_and_r.Holds := by
  w_on; o_law; k_head; (case hw => w_witness2)
  k_fill
  refine L2.walk_of (l := PySem.Challenge.rw_owncuts_k20_whole_numbers_of_signs_and_r) (n := 63) (k := 6) (x := "script") (CX := fun _ => L2.CX0) (sp := fun w => K4.spLaw _) rfl (by decide) rfl ⟨rfl, by decide, by decide⟩ (fun w h Y => PySem.W.kIn_of Y) ?F (fun _ _ a ns hl _ hS => ⟨a, ns, rfl, hS, hl, fun _ => rfl⟩) (fun _ _ _ _ _ h => h)
  case F =>
    intro w mg fa h KX G hmg
    have z_len : mg "len" = none := PySem.W.mg_none_of KX G (by k_is)
    have z_range : mg "range" = none := PySem.W.mg_none_of KX G (by k_is)
    have z_sum : mg "sum" = none := PySem.W.mg_none_of KX G (by k_is)
    have z_max : mg "max" = none := PySem.W.mg_none_of KX G (by k_is)
    have z_min : mg "min" = none := PySem.W.mg_none_of KX G (by k_is)
    have z_int : mg "int" = none := PySem.W.mg_none_of KX G (by k_is)
    have z_isinstance : mg "isinstance" = none := PySem.W.mg_none_of KX G (by k_is)
    have z_list : mg "list" = none := PySem.W.mg_none_of KX G (by k_is)
    have z_any : mg "any" = none := PySem.W.mg_none_of KX G (by k_is)
    have z_all : mg "all" = none := PySem.W.mg_none_of KX G (by k_is)
    have z_zip : mg "zip" = none := PySem.W.mg_none_of KX G (by k_is)
    have z_bool : mg "bool" = none := PySem.W.mg_none_of KX G (by k_is)
    have z_str : mg "str" = none := PySem.W.mg_none_of KX G (by k_is)
    have z_tuple : mg "tuple" = none := PySem.W.mg_none_of KX G (by k_is)
    have z_dict : mg "dict" = none := PySem.W.mg_none_of KX G (by k_is)
    have z_sorted : mg "sorted" = none := PySem.W.mg_none_of KX G (by k_is)
    have z_set : mg "set" = none := PySem.W.mg_none_of KX G (by k_is)
    have z_repr : mg "repr" = none := PySem.W.mg_none_of KX G (by k_is)
    have z_abs : mg "abs" = none := PySem.W.mg_none_of KX G (by k_is)
    have z_enumerate : mg "enumerate" = none := PySem.W.mg_none_of KX G (by k_is)
    have d__law_dice := K4.df_mk (x := "_law_dice") (st := K4.st__law_dice) (ps := ["script", "at"]) KX G (by k_is) (by k_is) (by k_is) (by k_is) (fun _ _ _ _ _ _ us hl => match us, hl with | [_, _], _ => rfl)
    have d__law_dices := K4.df_mk (x := "_law_dices") (st := K4.st__law_dices) (ps := ["script", "few"]) KX G (by k_is) (by k_is) (by k_is) (by k_is) (fun _ _ _ _ _ _ us hl => match us, hl with | [_, _], _ => rfl)
    have d__law_mixed := K4.df_mk (x := "_law_mixed") (st := K4.st__law_mixed) (ps := ["seed", "spin", "at"]) KX G (by k_is) (by k_is) (by k_is) (by k_is) (fun _ _ _ _ _ _ us hl => match us, hl with | [_, _, _], _ => rfl)
    have d__law_draw := K4.df_mk (x := "_law_draw") (st := K4.st__law_draw) (ps := ["dice", "many"]) KX G (by k_is) (by k_is) (by k_is) (by k_is) (fun _ _ _ _ _ _ us hl => match us, hl with | [_, _], _ => rfl)
    have d__law_one_of := K4.df_mk (x := "_law_one_of") (st := K4.st__law_one_of) (ps := ["dice", "some"]) KX G (by k_is) (by k_is) (by k_is) (by k_is) (fun _ _ _ _ _ _ us hl => match us, hl with | [_, _], _ => rfl)
    have d__law_halves := K4.df_mk (x := "_law_halves") (st := K4.st__law_halves) (ps := ["most"]) KX G (by k_is) (by k_is) (by k_is) (by k_is) (fun _ _ _ _ _ _ us hl => match us, hl with | [_], _ => rfl)
    have d_is_whole_number := K4.df_mk (x := "is_whole_number") (st := K4.st_is_whole_number) (ps := ["value"]) KX G (by k_is) (by k_is) (by k_is) (by k_is) (fun _ _ _ _ _ _ us hl => match us, hl with | [_], _ => rfl)
    have d_is_count := K4.df_mk (x := "is_count") (st := K4.st_is_count) (ps := ["value"]) KX G (by k_is) (by k_is) (by k_is) (by k_is) (fun _ _ _ _ _ _ us hl => match us, hl with | [_], _ => rfl)
    have d_check_number := K4.df_mk (x := "check_number") (st := K4.st_check_number) (ps := ["value", "least"]) KX G (by k_is) (by k_is) (by k_is) (by k_is) (fun _ _ _ _ _ _ us hl => match us, hl with | [_, _], _ => rfl)
    have d_signs_for := K4.df_mk (x := "signs_for") (st := K4.st_signs_for) (ps := ["number"]) KX G (by k_is) (by k_is) (by k_is) (by k_is) (fun _ _ _ _ _ _ us hl => match us, hl with | [_], _ => rfl)
    have d_rounds_for := K4.df_mk (x := "rounds_for") (st := K4.st_rounds_for) (ps := ["many"]) KX G (by k_is) (by k_is) (by k_is) (by k_is) (fun _ _ _ _ _ _ us hl => match us, hl with | [_], _ => rfl)
    have d__law_exact := K4.df_mk (x := "_law_exact") (st := K4.st__law_exact) (ps := ["mine", "theirs"]) KX G (by k_is) (by k_is) (by k_is) (by k_is) (fun _ _ _ _ _ _ us hl => match us, hl with | [_, _], _ => rfl)
    refine' K4.all_mk KX G hmg ?a1 ?l1 ?c1 ?k1 ⟨z_len, z_range, z_sum, z_max, z_min, z_int, z_isinstance, z_list, z_any, z_all, z_zip, z_bool, z_str, z_tuple, z_dict, z_sorted, z_set, z_repr, z_abs, z_enumerate⟩ ?cb d__law_dice d__law_dices d__law_mixed d__law_draw d__law_one_of d__law_halves d_is_whole_number d_is_count d_check_number d_signs_for d_rounds_for d__law_exact
    (case a1 => k_is); (case l1 => k_is); (case c1 => k_is); (case k1 => k_is); (case cb => k_is)
