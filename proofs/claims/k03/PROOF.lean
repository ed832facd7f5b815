import PyProof.Rows.All
import Wide.All
import OpenK.AllK
import Wide.FinOn
import HandS.ForMost
import HandS.Wide
import HandS.WideBits
import HandS.IsInst
import HandS.StrMore
import HandS.Zip
import HandS.Flow
import HandS.Conv
import HandS.Style
import PySem.Challenge.RW_owncuts_k03_whole_periods_borders_and_ro
set_option Elab.async false
set_option maxRecDepth 100000
namespace K4M
/-! ### periods -/
def had (w : List Nat) (p : Nat) : Bool := (w.drop p).isPrefixOf w
def Per (w : List Nat) (p : Nat) : Prop := ∀ i, i + p < w.length → w[i]? = w[i + p]?
theorem prefix_get {u w : List Nat} : u.isPrefixOf w = true ↔ ∀ i, i < u.length → w[i]? = u[i]? := by
  rw [List.isPrefixOf_iff_prefix]
  constructor
  · rintro ⟨t, rfl⟩ i hi
    rw [List.getElem?_append_left hi]
  · intro h
    have hl : u.length ≤ w.length := by
      apply Nat.le_of_not_lt
      intro hlt
      have := h w.length hlt
      rw [List.getElem?_eq_none (Nat.le_refl _), List.getElem?_eq_getElem hlt] at this
      cases this
    have : w.take u.length = u := by
      apply List.ext_getElem?
      intro i
      by_cases hi : i < u.length
      · rw [List.getElem?_take_of_lt hi]
        exact h i hi
      · rw [List.getElem?_eq_none (by rw [List.length_take]; omega), List.getElem?_eq_none (by omega)]
    rw [← this]
    exact List.take_prefix _ _
theorem had_iff (w : List Nat) (p : Nat) : had w p = true ↔ Per w p := by
  unfold had
  rw [prefix_get]
  constructor
  · intro h i hi
    have := h i (by rw [List.length_drop]; omega)
    rw [List.getElem?_drop, Nat.add_comm p i] at this
    exact this
  · intro h i hi
    rw [List.length_drop] at hi
    rw [List.getElem?_drop, Nat.add_comm p i]
    exact h i (by omega)
/-- two periods, the greater less the lesser -/
theorem per_sub {w : List Nat} {p d : Nat} (hp : Per w p) (hd : Per w d) (hlt : p < d) (hn : p + d ≤ w.length) : Per w (d - p) := by
  intro i hi
  by_cases hip : p ≤ i
  · have h1 := hp (i - p) (by omega)
    have h2 := hd (i - p) (by omega)
    rw [show i - p + p = i by omega] at h1
    rw [show i - p + d = i + (d - p) by omega] at h2
    rw [← h1, h2]
  · have h1 := hd i (by omega)
    have h2 := hp (i + (d - p)) (by omega)
    rw [show i + (d - p) + p = i + d by omega] at h2
    rw [h1, h2]
theorem per_dvd {w : List Nat} {p : Nat} (h0 : 0 < p) (hp : Per w p) (hmin : ∀ q, 0 < q → q < p → ¬ Per w q) : ∀ (d : Nat), 0 < d → Per w d → p + d ≤ w.length → p ∣ d := by
  intro d
  induction d using Nat.strongRecOn with
  | _ d ih =>
    intro hd0 hd hn
    by_cases h1 : d < p
    · exact absurd hd (hmin d hd0 h1)
    by_cases h2 : d = p
    · subst h2
      exact Nat.dvd_refl _
    · have := ih (d - p) (by omega) (by omega) (per_sub hp hd (by omega) hn) (by omega)
      obtain ⟨k, hk⟩ := this
      exact ⟨k + 1, by rw [Nat.mul_add, Nat.mul_one]; omega⟩
/-! ### repeated words -/
def rep (u : List Nat) (k : Nat) : List Nat := (List.replicate k u).flatten
theorem rep_succ (u : List Nat) (k : Nat) : rep u (k + 1) = u ++ rep u k := by
  unfold rep
  rw [List.replicate_succ, List.flatten_cons]
theorem rep_len (u : List Nat) : ∀ k, (rep u k).length = k * u.length
  | 0 => by simp [rep]
  | k + 1 => by rw [rep_succ, List.length_append, rep_len u k, Nat.add_mul]; omega
theorem rep_per {u : List Nat} : ∀ k, Per (rep u k) u.length
  | 0 => fun i hi => by simp [rep] at hi
  | k + 1 => fun i hi => by
    rw [rep_succ] at hi ⊢
    rw [List.length_append] at hi
    by_cases h : i < u.length
    · rw [List.getElem?_append_left h, List.getElem?_append_right (by omega), show i + u.length - u.length = i by omega]
      cases k with
      | zero =>
        exfalso
        have : (rep u 0).length = 0 := by simp [rep]
        omega
      | succ k => rw [rep_succ, List.getElem?_append_left h]
    · rw [List.getElem?_append_right (by omega), List.getElem?_append_right (by omega)]
      have := rep_per (u := u) k (i - u.length) (by omega)
      rw [this, show i - u.length + u.length = i + u.length - u.length by omega]
theorem per_drop {w : List Nat} {s : Nat} (h : Per w s) (m : Nat) : Per (w.drop m) s := fun i hi => by
  rw [List.length_drop] at hi
  rw [List.getElem?_drop, List.getElem?_drop, show m + (i + s) = m + i + s by omega]
  exact h (m + i) (by omega)
theorem rep_of_per : ∀ (k : Nat) {w : List Nat} {s : Nat}, 0 < s → w.length = k * s → Per w s → rep (w.take s) k = w
  | 0, w, s, _, hl, _ => by
    have : w = [] := List.length_eq_zero_iff.mp (by omega)
    subst this
    simp [rep]
  | k + 1, w, s, h0, hl, hp => by
    rw [rep_succ]
    have hl' : w.length = k * s + s := by rw [hl, Nat.add_mul, Nat.one_mul]
    have hd : (w.drop s).length = k * s := by rw [List.length_drop]; omega
    have ih := rep_of_per k h0 hd (per_drop hp s)
    cases k with
    | zero =>
      have e : w.drop s = [] := List.length_eq_zero_iff.mp (by omega)
      rw [show rep (w.take s) 0 = [] by simp [rep], List.append_nil, List.take_of_length_le (by omega)]
    | succ k =>
      have e : (w.drop s).take s = w.take s := by
        apply List.ext_getElem?
        intro i
        by_cases hi : i < s
        · rw [List.getElem?_take_of_lt hi, List.getElem?_take_of_lt hi, List.getElem?_drop, Nat.add_comm s i]
          have : s ≤ (k + 1) * s := Nat.le_mul_of_pos_left s (by omega)
          exact (hp i (by omega)).symm
        · rw [List.getElem?_eq_none (by rw [List.length_take]; omega), List.getElem?_eq_none (by rw [List.length_take]; omega)]
      rw [e] at ih
      rw [ih, List.take_append_drop]
theorem rep_iff {w : List Nat} {s : Nat} (h0 : 0 < s) (hs : w.length % s = 0) (hle : s ≤ w.length) : rep (w.take s) (w.length / s) = w ↔ Per w s := by
  have hk : w.length = w.length / s * s := by
    have := Nat.div_add_mod w.length s
    rw [hs, Nat.add_zero, Nat.mul_comm] at this
    exact this.symm
  constructor
  · intro h
    have hl : (w.take s).length = s := by rw [List.length_take]; omega
    have := rep_per (u := w.take s) (w.length / s)
    rw [h, hl] at this
    exact this
  · exact rep_of_per _ h0 hk
/-! ### the least period, the root -/
def lpFrom (w : List Nat) (n i : Nat) : Nat → Nat
  | 0 => n
  | m + 1 => if had w i then i else lpFrom w n (i + 1) m
def lp (w : List Nat) : Nat := lpFrom w w.length 1 (w.length - 1)
theorem lpFrom_spec (w : List Nat) (n : Nat) : ∀ (m i : Nat), i + m = n → (∀ j, 0 < j → j < i → had w j = false) → (∀ j, 0 < j → j < lpFrom w n i m → had w j = false) ∧ i ≤ lpFrom w n i m ∧ lpFrom w n i m ≤ n ∧ (lpFrom w n i m < n → had w (lpFrom w n i m) = true)
  | 0, i, e, h => by
    unfold lpFrom
    have : i = n := by omega
    subst this
    exact ⟨h, Nat.le_refl _, Nat.le_refl _, fun z => absurd z (Nat.lt_irrefl _)⟩
  | m + 1, i, e, h => by
    unfold lpFrom
    by_cases hi : had w i = true
    · rw [if_pos hi]
      exact ⟨h, Nat.le_refl _, by omega, fun _ => hi⟩
    · rw [if_neg hi]
      have := lpFrom_spec w n m (i + 1) (by omega) fun j h0 hj => by
        by_cases e : j = i
        · subst e
          exact Bool.eq_false_iff.mpr hi
        · exact h j h0 (by omega)
      exact ⟨this.1, by omega, this.2.2⟩
theorem lp_spec (w : List Nat) (h : w ≠ []) : (∀ j, 0 < j → j < lp w → had w j = false) ∧ 1 ≤ lp w ∧ lp w ≤ w.length ∧ (lp w < w.length → had w (lp w) = true) := by
  have hl : 0 < w.length := List.length_pos_iff.mpr h
  exact lpFrom_spec w w.length (w.length - 1) 1 (by omega) fun j h0 hj => by omega
def rootP (w : List Nat) : List Nat × Nat := if w.length % lp w ≠ 0 then (w, 1) else (w.take (lp w), w.length / lp w)
def okSize (w : List Nat) (s : Nat) : Bool := w.length % s == 0 && rep (w.take s) (w.length / s) == w
def sizes (w : List Nat) : List Nat := (List.range' 1 w.length).filter (okSize w)
def rootL (w : List Nat) : List Nat × Nat := (w.take ((sizes w).headD 0), w.length / (sizes w).headD 0)
def isPrim (w : List Nat) : Bool := !(List.range' 1 (w.length - 1)).any (okSize w)
theorem headD_filter {f : Nat → Bool} {d : Nat} : ∀ (n a : Nat), a ≤ d → d < a + n → f d = true → (∀ j, a ≤ j → j < d → f j = false) → ((List.range' a n).filter f).headD 0 = d
  | 0, a, h1, h2, _, _ => by omega
  | n + 1, a, h1, h2, h3, h4 => by
    rw [List.range'_succ]
    by_cases e : a = d
    · subst e
      rw [List.filter_cons_of_pos h3]
      rfl
    · rw [List.filter_cons_of_neg (by rw [h4 a (Nat.le_refl _) (by omega)]; exact Bool.false_ne_true)]
      exact headD_filter n (a + 1) (by omega) (by omega) h3 fun j hj1 hj2 => h4 j (by omega) hj2
theorem okSize_iff {w : List Nat} {s : Nat} (h0 : 0 < s) (hle : s ≤ w.length) : okSize w s = true ↔ w.length % s = 0 ∧ Per w s := by
  unfold okSize
  rw [Bool.and_eq_true, beq_iff_eq, beq_iff_eq]
  constructor
  · rintro ⟨h1, h2⟩
    exact ⟨h1, (rep_iff h0 h1 hle).mp h2⟩
  · rintro ⟨h1, h2⟩
    exact ⟨h1, (rep_iff h0 h1 hle).mpr h2⟩
theorem per_all (w : List Nat) : Per w w.length := fun i hi => by omega
theorem sizes_head (w : List Nat) (h : w ≠ []) : (sizes w).headD 0 = if w.length % lp w ≠ 0 then w.length else lp w := by
  have hl : 0 < w.length := List.length_pos_iff.mpr h
  obtain ⟨a1, a2, a3, a4⟩ := lp_spec w h
  have hp : Per w (lp w) := by
    by_cases e : lp w < w.length
    · exact (had_iff _ _).mp (a4 e)
    · rw [show lp w = w.length by omega]
      exact per_all w
  have hmin : ∀ q, 0 < q → q < lp w → ¬ Per w q := fun q h0 hq hper => by
    have := a1 q h0 hq
    rw [(had_iff w q).mpr hper] at this
    cases this
  by_cases hm : w.length % lp w = 0
  · rw [if_neg (by omega)]
    refine headD_filter _ 1 a2 (by omega) ((okSize_iff a2 a3).mpr ⟨hm, hp⟩) fun j h1 h2 => ?_
    cases e : okSize w j with
    | false => rfl
    | true => exact absurd ((okSize_iff h1 (by omega)).mp e).2 (hmin j h1 h2)
  · rw [if_pos hm]
    refine headD_filter _ 1 hl (by omega) ((okSize_iff hl (Nat.le_refl _)).mpr ⟨Nat.mod_self _, per_all w⟩) fun j h1 h2 => ?_
    cases e : okSize w j with
    | false => rfl
    | true =>
      exfalso
      obtain ⟨e1, e2⟩ := (okSize_iff h1 (by omega)).mp e
      obtain ⟨k, hk⟩ := Nat.dvd_of_mod_eq_zero e1
      have hk2 : 2 ≤ k := by
        rcases k with _ | _ | k
        · omega
        · omega
        · omega
      have hj2 : j + j ≤ w.length := by
        have : j * 2 ≤ j * k := Nat.mul_le_mul_left j hk2
        omega
      have hpj : lp w ≤ j := by
        apply Nat.le_of_not_lt
        intro z
        exact hmin j h1 z e2
      have := per_dvd a2 hp hmin j h1 e2 (by omega)
      exact hm (Nat.mod_eq_zero_of_dvd (Nat.dvd_trans this ⟨k, hk⟩))
theorem root_eq (w : List Nat) (h : w ≠ []) : rootL w = rootP w := by
  have hl : 0 < w.length := List.length_pos_iff.mpr h
  unfold rootL rootP
  rw [sizes_head w h]
  by_cases hm : w.length % lp w ≠ 0
  · rw [if_pos hm, if_pos hm, List.take_length, Nat.div_self hl]
  · rw [if_neg hm, if_neg hm]
/-! ### how many primitive words -/
def divs (n i : Nat) : List Nat := (List.range' 1 i).filter (fun d => n % d == 0)
/-- the values at 1, 2, .. n -/
def allP (s : Int) : Nat → List Int
  | 0 => []
  | n + 1 => allP s n ++ [s ^ (n + 1) - ((divs (n + 1) n).map fun d => (allP s n).getD (d - 1) 0).sum]
def prims (s : Int) (n : Nat) : Int := (allP s n).getD (n - 1) 0
theorem allP_len (s : Int) : ∀ n, (allP s n).length = n
  | 0 => rfl
  | n + 1 => by
    show (allP s n ++ _).length = _
    rw [List.length_append, allP_len s n]
    rfl
theorem allP_get (s : Int) : ∀ (n d : Nat), 0 < d → d ≤ n → (allP s n).getD (d - 1) 0 = prims s d
  | 0, d, h1, h2 => by omega
  | n + 1, d, h1, h2 => by
    by_cases e : d = n + 1
    · subst e
      rfl
    · show (allP s n ++ _).getD (d - 1) 0 = _
      rw [List.getD_eq_getElem?_getD, List.getElem?_append_left (by rw [allP_len]; omega), ← List.getD_eq_getElem?_getD]
      exact allP_get s n d h1 (by omega)
theorem divs_mem {n i d : Nat} : d ∈ divs n i ↔ 0 < d ∧ d ≤ i ∧ n % d = 0 := by
  unfold divs
  rw [List.mem_filter, List.mem_range'_1, beq_iff_eq]
  constructor
  · rintro ⟨⟨h1, h2⟩, h3⟩
    exact ⟨h1, by omega, h3⟩
  · rintro ⟨h1, h2, h3⟩
    exact ⟨⟨h1, by omega⟩, h3⟩
theorem prims_eq (s : Int) (n : Nat) (h : 0 < n) : prims s n = s ^ n - ((divs n (n - 1)).map (prims s)).sum := by
  obtain ⟨m, rfl⟩ : ∃ m, n = m + 1 := ⟨n - 1, by omega⟩
  show (allP s m ++ [_]).getD m 0 = _
  rw [List.getD_eq_getElem?_getD, List.getElem?_append_right (by rw [allP_len]; omega), allP_len, Nat.sub_self]
  show s ^ (m + 1) - _ = s ^ (m + 1) - _
  congr 2
  apply List.map_congr_left
  intro d hd
  rw [divs_mem] at hd
  exact allP_get s m d hd.1 hd.2.1
theorem divs_succ_of {n i : Nat} (h : n % (i + 1) = 0) : divs n (i + 1) = divs n i ++ [i + 1] := by
  unfold divs
  rw [List.range'_1_concat, List.filter_append, Nat.add_comm 1 i, List.filter_cons_of_pos (by rw [h]; rfl)]
  rfl
theorem divs_succ_not {n i : Nat} (h : n % (i + 1) ≠ 0) : divs n (i + 1) = divs n i := by
  unfold divs
  rw [List.range'_1_concat, List.filter_append, Nat.add_comm 1 i, List.filter_cons_of_neg (by rw [beq_iff_eq]; exact h)]
  exact List.append_nil _
theorem divs_filter {n i : Nat} (h : n % (i + 1) = 0) : (divs n i).filter (fun d => (i + 1) % d == 0) = divs (i + 1) i := by
  unfold divs
  rw [List.filter_filter]
  apply List.filter_congr
  intro d hd
  rw [Bool.eq_iff_iff, Bool.and_eq_true, beq_iff_eq, beq_iff_eq]
  constructor
  · exact fun z => z.1
  · intro z
    exact ⟨z, Nat.mod_eq_zero_of_dvd (Nat.dvd_trans (Nat.dvd_of_mod_eq_zero z) (Nat.dvd_of_mod_eq_zero h))⟩
theorem prims_one (s : Int) : prims s 1 = s := by
  rw [prims_eq s 1 (by decide)]
  show s ^ 1 - (0 : Int) = s
  rw [Int.pow_succ, Int.pow_zero, Int.one_mul, Int.sub_zero]
theorem prims_prime (s : Int) {p : Nat} (h0 : 0 < p) (h : divs p (p - 1) = [1]) : prims s p = s ^ p - s := by
  rw [prims_eq s p h0, h]
  show s ^ p - (prims s 1 + 0) = _
  rw [prims_one, Int.add_zero]
theorem prims_square (s : Int) {p : Nat} (h0 : 0 < p) (h : divs p (p - 1) = [1]) (h2 : divs (p * p) (p * p - 1) = [1, p]) : prims s (p * p) = s ^ (p * p) - s ^ p := by
  rw [prims_eq s (p * p) (Nat.mul_pos h0 h0), h2]
  show s ^ (p * p) - (prims s 1 + (prims s p + 0)) = _
  rw [prims_one, prims_prime s h0 h, Int.add_zero]
  omega
/-! ### all words -/
def wordsOf (cs : List Nat) : Nat → List (List Nat)
  | 0 => [[]]
  | n + 1 => (wordsOf cs n).flatMap fun w => cs.map fun c => w ++ [c]
theorem wordsOf_mem {cs : List Nat} : ∀ {n : Nat} {w : List Nat}, w ∈ wordsOf cs n → w.length = n ∧ ∀ c ∈ w, c ∈ cs
  | 0, w, h => by
    have : w = [] := List.mem_singleton.mp h
    subst this
    exact ⟨rfl, fun _ h => nomatch h⟩
  | n + 1, w, h => by
    obtain ⟨u, hu, hw⟩ := List.mem_flatMap.mp h
    obtain ⟨c, hc, rfl⟩ := List.mem_map.mp hw
    obtain ⟨h1, h2⟩ := wordsOf_mem hu
    refine ⟨by rw [List.length_append, h1]; rfl, fun d hd => ?_⟩
    rcases List.mem_append.mp hd with hd | hd
    · exact h2 d hd
    · rw [List.mem_singleton.mp hd]
      exact hc
def countP (k n : Nat) : Nat := ((wordsOf ([97, 98, 99, 100].take k) n).filter isPrim).length
theorem count_small : (List.range' 1 3).all (fun k => (List.range' 1 6).all fun n => ((countP k n : Nat) : Int) == prims k n) = true := by decide +kernel
theorem count_four : (List.range' 1 4).all (fun n => ((countP 4 n : Nat) : Int) == prims 4 n) = true := by decide +kernel
theorem count_two : (List.range' 6 2).all (fun n => ((countP 2 n : Nat) : Int) == prims 2 n) = true := by decide +kernel
theorem prims_112 : prims 1 12 = 0 := by decide +kernel
theorem prims_24 : prims 2 4 = 12 := by decide +kernel
end K4M
set_option Elab.async false
set_option linter.all false
set_option maxRecDepth 100000
set_option maxHeartbeats 4000000
namespace K4
open PySem PySem.Spec PyProof.Rows L2 K4M
/-! ### texts as lists of signs -/
def S (w : List Nat) : Str := ⟨w.toArray⟩
theorem S_inj {u v : List Nat} (h : S u = S v) : u = v := by
  have := congrArg Str.cps h
  have := congrArg Array.toList this
  simpa [S] using this
theorem S_len (w : List Nat) : (S w).length = w.length := by
  show w.toArray.size = _
  rw [List.size_toArray]
theorem S_app (u v : List Nat) : S u ++ S v = S (u ++ v) := by
  show (⟨u.toArray ++ v.toArray⟩ : Str) = ⟨(u ++ v).toArray⟩
  rw [List.append_toArray]
theorem S_empty : (Str.empty) = S [] := rfl
theorem S_dec (u v : List Nat) : decide (S u = S v) = (u == v) := by
  by_cases h : u = v
  · subst h
    simp
  · rw [decide_eq_false fun z => h (S_inj z)]
    exact (beq_eq_false_iff_ne.mpr h).symm
theorem V_dec (u v : List Nat) : decide (V.str (S u) = V.str (S v)) = (u == v) := by
  by_cases h : u = v
  · subst h
    simp
  · rw [decide_eq_false fun z => h (S_inj (V.str.inj z))]
    exact (beq_eq_false_iff_ne.mpr h).symm
theorem cut_drop (w : List Nat) (p : Nat) : cutS (S w) (some (p : Int)) none = S (w.drop p) := by
  unfold cutS
  rw [HT.sIx_none, HT.sIx_nat, S_len]
  show (⟨((w.drop (min p w.length)).take (w.length - min p w.length)).toArray⟩ : Str) = ⟨(w.drop p).toArray⟩
  congr 2
  by_cases h : p ≤ w.length
  · rw [Nat.min_eq_left h, List.take_of_length_le (by rw [List.length_drop]; omega)]
  · rw [Nat.min_eq_right (by omega), Nat.sub_self, List.take_zero, List.drop_of_length_le (by omega)]
theorem cut_take (w : List Nat) (p : Nat) : cutS (S w) none (some (p : Int)) = S (w.take p) := by
  unfold cutS
  rw [HT.sIx_none, HT.sIx_nat, S_len]
  show (⟨((w.drop 0).take (min p w.length - 0)).toArray⟩ : Str) = ⟨(w.take p).toArray⟩
  rw [List.drop_zero, Nat.sub_zero]
  congr 2
  by_cases h : p ≤ w.length
  · rw [Nat.min_eq_left h]
  · rw [Nat.min_eq_right (by omega), List.take_length, List.take_of_length_le (by omega)]
theorem starts (w u : List Nat) : Txt.startswith (S w) (S u) = u.isPrefixOf w := by
  unfold Txt.startswith
  rw [PySem.StrLaws.subAt_eq, S_len, S_len, Nat.zero_add]
  show (decide (u.length ≤ w.length) && (((w.drop 0).take (S u).length) == u)) = _
  rw [List.drop_zero, S_len, Bool.eq_iff_iff, Bool.and_eq_true, decide_eq_true_eq, beq_iff_eq, List.isPrefixOf_iff_prefix]
  constructor
  · rintro ⟨_, h⟩
    rw [← h]
    exact List.take_prefix _ _
  · rintro ⟨t, rfl⟩
    exact ⟨by rw [List.length_append]; omega, by rw [List.take_left]⟩
theorem strip_all {w : List Nat} {y : Str} (h : ∀ c ∈ w, y.cps.contains c = true) : Txt.stripChars (S w) y = S [] := by
  have lo : (List.takeWhile y.cps.contains w) = w := by
    induction w with
    | nil => rfl
    | cons a r ih =>
      rw [List.takeWhile_cons, if_pos (h a (List.mem_cons_self ..)), ih fun c hc => h c (List.mem_cons_of_mem _ hc)]
  have e1 : stripLo y.cps.contains true (S w) = w.length := by
    show (List.takeWhile y.cps.contains w).length = _
    rw [lo]
  have e2 : stripHi y.cps.contains true (S w) w.length = w.length := by
    show (S w).length - ((w.drop w.length).reverse.takeWhile y.cps.contains).length = _
    rw [List.drop_length, S_len]
    rfl
  unfold Txt.stripChars Txt.stripBy
  by_cases h0 : w = []
  · subst h0
    split <;> rfl
  · have hl : 0 < w.length := List.length_pos_iff.mpr h0
    rw [if_neg]
    · unfold stripped
      rw [e1, e2]
      show (⟨w.toArray.extract w.length w.length⟩ : Str) = ⟨[].toArray⟩
      congr 1
      apply Array.toList_inj.mp
      simp
    · unfold stripSame
      rw [e1, Bool.and_eq_true, beq_iff_eq]
      omega
theorem foldl_rep (u : List Nat) : ∀ (k : Nat) (acc : List Nat), (List.replicate k u.toArray).foldl (· ++ ·) acc.toArray = (acc ++ rep u k).toArray
  | 0, acc => by simp [rep]
  | k + 1, acc => by
    rw [List.replicate_succ, List.foldl_cons, List.append_toArray, foldl_rep u k, rep_succ, List.append_assoc]
theorem S_mul (u : List Nat) (k : Nat) : Txt.mul (S u) (k : Int) = S (rep u k) := by
  unfold Txt.mul
  by_cases h1 : (k : Int) < 1
  · rw [if_pos h1]
    have : k = 0 := by omega
    subst this
    rfl
  · rw [if_neg h1]
    by_cases h2 : ((k : Int) == 1 || (S u).length == 0) = true
    · rw [if_pos h2]
      rw [Bool.or_eq_true, beq_iff_eq, beq_iff_eq, S_len] at h2
      rcases h2 with h2 | h2
      · have : k = 1 := by omega
        subst this
        congr 1
        simp [rep]
      · have : u = [] := List.length_eq_zero_iff.mp h2
        subst this
        congr 1
        simp [rep]
    · rw [if_neg h2, Int.toNat_natCast]
      have := foldl_rep u k []
      rw [List.nil_append] at this
      show (⟨(List.replicate k u.toArray).foldl (· ++ ·) (#[] : Array Nat)⟩ : Str) = _
      exact congrArg Str.mk this
/-! ### rules of my own -/
section
variable {X : Cx}
def CPowW (i j : Int) : Prop := 0 ≤ j ∧ (Builtin.Int.intBits i : Int) * j ≤ 2 ^ 27
theorem op_powW : OpR X (binaryOp .Pow) (rI CPowW fun i j => .int (i ^ j.toNat)) := opI fun _ _ _ _ _ _ _ hc q => pow_int hc.1 hc.2 q
/-- text * number -/
theorem op_mulS : OpR X (binaryOp .Mult) (fun x y H Q => ∃ (u : List Nat) (k : Nat), x = .str (S u) ∧ y = .int (k : Int) ∧ u.length * k ≤ 100000 ∧ k ≤ 100000 ∧ u.length ≤ 100000 ∧ Q (.str (S (rep u k))) H) := by
  intro pins s σ H x y v u Q I rx ry h
  obtain ⟨w, k, rfl, rfl, hz, hk, hw, q⟩ := h
  obtain ⟨t, rfl⟩ := rx
  obtain ⟨t', rfl⟩ := ry
  refine SB.mul ⟨?_, fun h1 h2 => ?_, fun h1 h2 => ?_⟩ fun t1 k1 => ?_
  · rw [Bool.or_eq_false_iff]
    exact ⟨decide_eq_false (by omega), decide_eq_false (by omega)⟩
  · rw [S_len]
    have h3 : (100000 : Int) ≤ (2 ^ 63 - 1) / (k : Int) := by
      apply Int.le_ediv_of_mul_le (by omega)
      omega
    omega
  · rw [S_len, Int.toNat_natCast]
    have e : sizeLine = 16777216 := by decide
    unfold Builtin.Str.tooLong
    exact decide_eq_false (by omega)
  · rw [S_mul]
    exact ⟨.str (S (rep w k)), H, I.tok _, ⟨_, rfl⟩, q⟩
def signsV (w : List Nat) : List V := w.map fun c => V.str (S [c])
theorem vals_signs {its : List Value} {w : List Nat} (hl : its.length = w.length) (h : ∀ (j : Nat) (v : Value), its[j]? = some v → ∃ c u, w[j]? = some c ∧ v = .str ⟨#[c]⟩ u) : Vals (signsV w) its := by
  induction w generalizing its with
  | nil =>
    have : its = [] := List.length_eq_zero_iff.mp hl
    subst this
    exact .nil
  | cons c r ih =>
    cases its with
    | nil => cases hl
    | cons v rest =>
      obtain ⟨c', u, e1, e2⟩ := h 0 v rfl
      cases e1
      refine .cons ⟨u, e2⟩ (ih (Nat.succ.inj hl) fun j v hv => h (j + 1) v hv)
/-- list(text) -/
theorem call_listS (hc : X.calm = true) : CallR X (.type "list") (fun xs H Q => ∃ w : List Nat, xs = [.str (S w)] ∧ w.length ≤ 1000 ∧ ∀ l, H l = none → Q (.ref l) (upd H l (.lst (signsV w)))) := by
  intro pins s σ H xs us Q I r h
  obtain ⟨w, rfl, hw, q⟩ := h
  obtain ⟨u, rfl, rx⟩ := vals1 r
  obtain ⟨t, rfl⟩ := rx
  have e : sizeLine = 16777216 := by decide
  have hn : (S w).cps.size ≤ sizeLine := by
    show w.toArray.size ≤ _
    rw [List.size_toArray]
    omega
  refine call_list_str (I.ok.hd hc) (S w) t (hn := hn) fun h' tk acc' c' kp e' hi => ?_
  have hv : Vals (signsV w) acc'.toList := by
    refine vals_signs ?_ fun j v hv => ?_
    · rw [Array.length_toList, hi.1]
      exact List.size_toArray ..
    · obtain ⟨c, u, h1, h2⟩ := hi.2 j v (by simpa using hv)
      exact ⟨c, u, by simpa [S] using h1, h2⟩
  refine ⟨.ref s.heap.objs.size, _, I.laid (t' := tk) kp (Nat.le_refl _) (show ObjOk X.prog X.w _ h' _ (.lst (signsV w)) from ⟨?_, acc'.toList, c', hv, e'⟩), rfl, q _ (I.hok.fresh (Nat.le_refl _))⟩
  unfold signsV
  rw [List.length_map]
  omega
end
theorem filter_take {α : Type} {f : α → Bool} {l : List α} {j : Nat} {x : α} (h : l[j]? = some x) : (l.take (j + 1)).filter f = (l.take j).filter f ++ (if f x = true then [x] else []) := by
  rw [List.take_add_one, h, List.filter_append]
  congr 1
  show List.filter f [x] = _
  cases e : f x with
  | true => rw [List.filter_cons_of_pos e]; rfl
  | false => rw [List.filter_cons_of_neg (by rw [e]; exact Bool.false_ne_true)]; rfl
theorem range_snoc' (i : Nat) : List.range' 1 (i + 1) = List.range' 1 i ++ [i + 1] := by
  rw [List.range'_1_concat, Nat.add_comm 1 i]
def natsV (l : List Nat) : List V := l.map fun (d : Nat) => V.int (d : Int)
theorem int_mod_beq (a b : Nat) : ((a : Int) % (b : Int) == 0) = (a % b == 0) := by
  rw [Bool.eq_iff_iff, beq_iff_eq, beq_iff_eq]
  omega
theorem take_mul_le (u : List Nat) (s : Nat) : (u.take s).length * (u.length / s) ≤ u.length := by
  have h1 : (u.take s).length ≤ s := by rw [List.length_take]; omega
  exact Nat.le_trans (Nat.mul_le_mul_right _ h1) (Nat.mul_div_le _ _)
theorem sizes_cons {u : List Nat} (h : u ≠ []) : ∃ r, sizes u = (sizes u).headD 0 :: r ∧ 0 < (sizes u).headD 0 ∧ (sizes u).headD 0 ≤ u.length := by
  have hl : 0 < u.length := List.length_pos_iff.mpr h
  obtain ⟨_, a2, a3, _⟩ := lp_spec u h
  have e := sizes_head u h
  have hb : 0 < (sizes u).headD 0 ∧ (sizes u).headD 0 ≤ u.length := by
    rw [e]
    split <;> omega
  cases hs : sizes u with
  | nil =>
    rw [hs] at hb
    exact absurd hb.1 (by decide)
  | cons a r =>
    rw [hs] at hb
    exact ⟨r, rfl, hb⟩
theorem same_upd {H : Hp} {p : Addr} {o : HO} (h : H p = none) : Same H (upd H p o) := fun b x e => by
  rw [upd_ne (ne_of_none e h)]
  exact e
end K4
set_option maxRecDepth 100000
namespace K4
open PySem L2
def topS (i : Nat) : Stmt := PySem.Challenge.pw_owncuts_k03_whole_periods_borders_and_ro.main.body.getD i (.Pass ⟨0, 0, 0, 0⟩)
abbrev st_is_whole_number : Stmt := topS 7
abbrev st_is_count : Stmt := topS 8
abbrev st_is_made_of : Stmt := topS 9
abbrev st_is_text : Stmt := topS 10
abbrev st_is_word : Stmt := topS 11
abbrev st_check_text : Stmt := topS 12
abbrev st_check_word : Stmt := topS 13
abbrev st_check_number : Stmt := topS 14
abbrev st__is_had : Stmt := topS 16
abbrev st_periods : Stmt := topS 17
abbrev st_has_period : Stmt := topS 18
abbrev st_least_period : Stmt := topS 19
abbrev st_borders : Stmt := topS 20
abbrev st_root : Stmt := topS 21
abbrev st__law_dice : Stmt := topS 23
abbrev st__law_mixed : Stmt := topS 24
abbrev st__law_draw : Stmt := topS 25
abbrev st__law_one_of : Stmt := topS 26
abbrev st__law_exact : Stmt := topS 27
abbrev st__law_dices : Stmt := topS 28
abbrev st__law_letters : Stmt := topS 29
abbrev st__law_ground : Stmt := topS 30
abbrev st__law_text : Stmt := topS 31
abbrev st__law_text_right : Stmt := topS 32
abbrev st_law : Stmt := topS 33
abbrev cl_CutError : Stmt := topS 1
abbrev st_CutError___init__ : Stmt := inClass (topS 1) 0
abbrev cl_InvalidText : Stmt := topS 2
abbrev st_InvalidText___init__ : Stmt := inClass (topS 2) 0
abbrev cl_InvalidWord : Stmt := topS 3
abbrev st_InvalidWord___init__ : Stmt := inClass (topS 3) 0
abbrev cl_InvalidNumber : Stmt := topS 4
abbrev st_InvalidNumber___init__ : Stmt := inClass (topS 4) 0
end K4
set_option Elab.async false
set_option linter.all false
set_option maxRecDepth 100000
set_option maxHeartbeats 4000000
namespace K4
open PySem PySem.Spec PyProof.Rows L2 K4M
/-- a def of the top that may be called: where it stands, and its promise -/
structure Cal (P : Program) (w : World) (K : PySem.W.Frag) (mg : Str → Option Value) (base : Heap) (k : Nat) (x : Str) (ps : List Str) (sp : Sp) where
  f : Addr
  fd : FuncData
  ok : FnOk P w K mg base CX0 k f fd ps sp
  g : mg x = some (.ref f)
  kp : PySem.W.keepIn K (.ref f) = true
  b : Binds K fd ps []
structure Df (K : PySem.W.Frag) (mg : Str → Option Value) (x : Str) (st : Stmt) (ps : List Str) where
  f : Addr
  fd : FuncData
  F : Fun K x x st f fd
  b : Binds K fd ps []
  g : mg x = some (.ref f)
theorem pcall {X : Cx} {k : Nat} {x : Str} {ps : List Str} {sp : Sp} {e : Expr} {es : List Expr} {t : TA} {p pos : Pos} (C : Cal X.prog X.w X.K X.mg X.base k x ps sp) (hr : Room k X.A) (hg : Gl X x) (ha : PA X (e :: es) t)
    (hdb : (x == ("__debug__" : Str)) = false := by decide) (he : starEach (e :: es) X.env = (false, eval e X.env) :: starEach es X.env := by rfl) (hpl : (backTo pos (starEach es X.env)).any (·.1) = false := by rfl) :
    PE X (.Call (.Name x p) (e :: es) [] pos) (tCall sp [] E0 t) := pe_call C.ok hr hg C.g C.kp C.b .nil pass0 ha hdb he hpl
/-- the built-ins that the text leaves as they are -/
structure Bi (mg : Str → Option Value) : Prop where
  len : mg "len" = none
  range : mg "range" = none
  sum : mg "sum" = none
  max : mg "max" = none
  min : mg "min" = none
  int : mg "int" = none
  isi : mg "isinstance" = none
  list : mg "list" = none
  any : mg "any" = none
  all : mg "all" = none
  zip : mg "zip" = none
  bool : mg "bool" = none
  str : mg "str" = none
  tuple : mg "tuple" = none
  dict : mg "dict" = none
  sorted : mg "sorted" = none
  set : mg "set" = none
  repr : mg "repr" = none
  abs : mg "abs" = none
section
variable {P : Program} {w : World} {K : PySem.W.Frag} {mg : Str → Option Value} {base : Heap}
def Df.cal {x : Str} {st : Stmt} {ps : List Str} {k : Nat} {sp : Sp} (D : Df K mg x st ps) (h : FnOk P w K mg base CX0 k D.f D.fd ps sp) : Cal P w K mg base k x ps sp := ⟨D.f, D.fd, h, D.g, D.F.kp, D.b⟩
/-! ### the draws -/
theorem sc_mixed : FnScope ["seed", "spin", "at", "mixed"] ["seed", "spin", "at"] (defScope st__law_mixed) := ⟨rfl, rfl, rfl, by decide +kernel, rfl, by decide +kernel, by decide +kernel⟩
def spMixed : Sp := fun vs H Q _ => ∃ a b c : Int, vs = [.int a, .int b, .int c] ∧ (-(2 ^ 60) < b ∧ b < 2 ^ 60) ∧ (-(2 ^ 60) < c ∧ c < 2 ^ 60) ∧ ∀ m : Int, 0 ≤ m → m < 2147483587 → Q (.int m) H
theorem ok_mixed (B : Bi mg) (D : Df K mg "_law_mixed" st__law_mixed ["seed", "spin", "at"]) : FnOk P w K mg base CX0 1 D.f D.fd ["seed", "spin", "at"] spMixed := by
  refine D.F.ok sc_mixed (fun vs H Q E h => ?_) (fun cdv A outer s H vs Q E hr h => ?_)
  · obtain ⟨a, b, c, rfl, _⟩ := h
    rfl
  · obtain ⟨a, b, c, rfl, hb, hc, q⟩ := h
    refine ⟨_, pss_cons (ps_set (i := 3) sc_mixed.nd rfl (.inl rfl) (pe_op op_add (pe_op op_mul (pv 0) pe_int) (pe_op op_mul (pe_op op_mul pe_int (pv 1)) (pv 1))))
      (pss_cons (ps_set (i := 3) sc_mixed.nd rfl (.inl rfl) (pe_op op_mod (pe_callTy call_int1 (by rfl) B.int (by decide +kernel) (pa_cons (pe_op op_add (pe_op op_add (pv 3) (pe_op op_mul pe_int (pv 2))) (pv 1)) pa_nil)) pe_int))
      (pss_cons (ps_set (i := 3) sc_mixed.nd rfl (.inl rfl) (pe_op op_mod (pe_callTy call_int1 (by rfl) B.int (by decide +kernel) (pa_cons (pe_op op_add (pe_op op_mul (pv 3) (pv 3)) pe_int) pa_nil)) pe_int))
      (pss_one (ps_ret (pe_op op_mod (pe_callTy call_int1 (by rfl) B.int (by decide +kernel) (pa_cons (pe_op op_mul (pv 3) pe_int) pa_nil)) pe_int))))), ?_⟩
    refine ⟨_, rfl, _, _, rfl, rfl, .inr ⟨by decide, by decide⟩, _, rfl, _, _, rfl, rfl, .inl ⟨by decide, by decide⟩, _, rfl, _, _, rfl, rfl, .inr ⟨by omega, by omega⟩, _, _, rfl, rfl, ?_⟩
    refine ⟨_, rfl, _, rfl, _, _, rfl, rfl, .inl ⟨by decide, by decide⟩, _, _, rfl, rfl, _, rfl, _, _, rfl, rfl, .inl ⟨_, rfl, _, _, rfl, rfl, (by show (0 : Int) < 2147483647; decide), ?_⟩⟩
    generalize (a * 69069 + 104729 * b * b + 7919 * c + b) = z
    have h1 : 0 ≤ z % 2147483647 := Int.emod_nonneg _ (by decide)
    have h2 : z % 2147483647 < 2147483647 := Int.emod_lt_of_pos _ (by decide)
    refine ⟨_, rfl, _, rfl, _, _, rfl, rfl, .inr ⟨by omega, by omega⟩, _, _, rfl, rfl, .inl ⟨_, rfl, _, _, rfl, rfl, (by show (0 : Int) < 2147483629; decide), ?_⟩⟩
    generalize (z % 2147483647 * (z % 2147483647) + 40503) = y
    refine ⟨_, rfl, _, _, rfl, rfl, .inr ⟨by decide, by decide⟩, .inl ⟨_, rfl, _, _, rfl, rfl, (by show (0 : Int) < 2147483587; decide), ?_⟩⟩
    exact q _ (Int.emod_nonneg _ (by decide)) (Int.emod_lt_of_pos _ (by decide))
/-- all but what stands at d is as it was -/
def Kept (H H' : Hp) (d : Addr) : Prop := ∀ b o, b ≠ d → H b = some o → H' b = some o
theorem Kept.trans {H H1 H2 : Hp} {d : Addr} (a : Kept H H1 d) (b : Kept H1 H2 d) : Kept H H2 d := fun c o hc e => b c o hc (a c o hc e)
theorem Kept.of {H H1 : Hp} {d : Addr} (a : Same H H1) : Kept H H1 d := fun c o _ e => a c o e
theorem Kept.upd {H : Hp} {d : Addr} {o : HO} : Kept H (upd H d o) d := fun c u hc e => by
  rw [upd_ne hc]
  exact e
/-- the dice at d; at most n were drawn of its second source -/
def Dice (H : Hp) (d : Addr) (n : Nat) : Prop := ∃ a b c e : Int, H d = some (.lst [.int a, .int b, .int c, .int e]) ∧ (0 ≤ c ∧ c ≤ n) ∧ (-(2 ^ 60) < e ∧ e < 2 ^ 60)
theorem bits_small {m : Int} (h1 : 1 ≤ m) (h2 : m < 134217728) : (1 + (Builtin.Int.intBits m : Int) / 28) = 1 := by
  have : Builtin.Int.intBits m ≤ 27 := by
    unfold Builtin.Int.intBits
    split
    · omega
    · have : m.natAbs.log2 < 27 := PySem.Flt.log2_lt_of (by decide) (by omega)
      omega
  omega
theorem sc_draw : FnScope ["dice", "many", "drawn", "found", "piece"] ["dice", "many"] (defScope st__law_draw) := ⟨rfl, rfl, rfl, by decide +kernel, rfl, by decide +kernel, by decide +kernel⟩
def spDraw : Sp := fun vs H Q _ => ∃ (d : Addr) (m : Int) (n : Nat), vs = [.ref d, .int m] ∧ Dice H d n ∧ n < 2 ^ 59 ∧ 1 ≤ m ∧ m < 134217728 ∧ ∀ (r : Int) (H' : Hp), 0 ≤ r → r < m → Dice H' d (n + 1) → Kept H H' d → Q (.int r) H'
theorem ok_draw (B : Bi mg) (D : Df K mg "_law_draw" st__law_draw ["dice", "many"]) (CM : Cal P w K mg base 1 "_law_mixed" ["seed", "spin", "at"] spMixed) : FnOk P w K mg base CX0 2 D.f D.fd ["dice", "many"] spDraw := by
  refine D.F.ok sc_draw (fun vs H Q E h => ?_) (fun cdv A outer s H vs Q E hr h => ?_)
  · obtain ⟨d, m, n, rfl, _⟩ := h
    rfl
  · obtain ⟨d, m, n, rfl, ⟨a, b, c, e, hd, hc, he⟩, hn, hm1, hm2, q⟩ := h
    refine ⟨_, pss_cons (ps_if (pt_cmpR op_gt (pe_ix ix_list (pv 0) pe_int (fun _ _ => rfl)) pe_int (nomark _))
        (pss_cons (ps_set (i := 2) sc_draw.nd rfl (.inl rfl) (pe_op op_mod (pe_callTy call_int1 (by rfl) B.int (by decide +kernel) (pa_cons (pe_ix ix_list (pv 0) pe_int (fun _ _ => rfl)) pa_nil)) (pv 1)))
        (pss_cons (ps_asg (pe_op op_fdiv (pe_ix ix_list (pv 0) pe_int (fun _ _ => rfl)) (pv 1)) (pg_sub (pv 0) pe_int set_list))
        (pss_one (ps_ret (pv 2))))) pss_nil)
      (pss_cons (ps_set (i := 3) sc_draw.nd rfl (.inl rfl) pe_int)
      (pss_cons (ps_for PassesOwn.never rfl (pi_range1 rfl B.range (pa_cons (pe_op op_add pe_int (pe_op op_fdiv (pe_bits (pv 1)) pe_int)) pa_nil)) (pg_name (i := 4) sc_draw.nd rfl (.inl rfl))
        (pss_cons (ps_asg (pe_op op_add (pe_ix ix_list (pv 0) pe_int (fun _ _ => rfl)) pe_int) (pg_sub (pv 0) pe_int set_list))
        (pss_one (ps_set (i := 3) sc_draw.nd rfl (.inl rfl) (pe_op op_add (pe_op op_mul (pv 3) pe_int) (pcall CM hr (by rfl) (pa_cons (pe_ix ix_list (pv 0) pe_int (fun _ _ => rfl)) (pa_cons (pe_ix ix_list (pv 0) pe_int (fun _ _ => rfl)) (pa_cons (pe_ix ix_list (pv 0) pe_int (fun _ _ => rfl)) pa_nil)))))))))
      (pss_one (ps_ret (pe_op op_mod (pe_callTy call_int1 (by rfl) B.int (by decide +kernel) (pa_cons (pv 3) pa_nil)) (pv 1)))))), ?_⟩
    have hS : SqL K H d [.int a, .int b, .int c, .int e] := .inl (.inl hd)
    refine ⟨_, rfl, d, _, 0, _, rfl, rfl, hS, atI_nat (j := 0) rfl, _, _, rfl, rfl, _, rfl, ite2 (fun _ => ?_) (fun _ => ?_)⟩
    · refine ⟨_, rfl, d, _, 0, _, rfl, rfl, hS, atI_nat (j := 0) rfl, .inl ⟨_, rfl, _, rfl, _, _, rfl, rfl, (by show 0 < m; omega), ?_⟩⟩
      refine ⟨_, rfl, d, _, 0, _, rfl, rfl, hS, atI_nat (j := 0) rfl, _, rfl, _, _, rfl, rfl, ⟨by omega, by omega⟩, _, rfl, d, _, 0, 0, rfl, rfl, hd, rfl, _, rfl, ?_⟩
      refine q _ _ (Int.emod_nonneg _ (by omega)) (Int.emod_lt_of_pos _ (by omega)) ⟨_, _, _, _, upd_same, ⟨hc.1, by omega⟩, he⟩ Kept.upd
    · refine ⟨_, rfl, _, rfl, _, _, rfl, rfl, ⟨by decide, by decide⟩, _, _, rfl, rfl, ?_⟩
      refine ⟨(1 : Int), congrArg (fun z => [V.int z]) (bits_small hm1 hm2), by decide, by decide, for_range (lo := 0) (n := 1) (fun i σ H2 => ∃ (f c' : Int) (y : Option V), σ = [some (.ref d), some (.int m), none, some (.int f), y] ∧ (0 ≤ c' ∧ c' ≤ n + i) ∧ H2 d = some (.lst [.int a, .int b, .int c', .int e]) ∧ Kept H H2 d)
        ⟨0, c, none, rfl, ⟨hc.1, by omega⟩, hd, fun _ _ _ z => z⟩ ?_ ?_⟩
      · rintro i σ H2 hi ⟨f, c', y, rfl, hc', hd2, hk⟩
        have hS2 : SqL K H2 d [.int a, .int b, .int c', .int e] := .inl (.inl hd2)
        refine ⟨_, rfl, d, _, 2, _, rfl, rfl, hS2, atI_nat (j := 2) rfl, _, _, rfl, rfl, _, rfl, d, _, 2, 2, rfl, rfl, hd2, rfl, ?_⟩
        have hS3 : SqL K (upd H2 d (.lst [.int a, .int b, .int (c' + 1), .int e])) d [.int a, .int b, .int (c' + 1), .int e] := .inl (.inl upd_same)
        refine ⟨_, rfl, _, _, rfl, rfl, .inr ⟨by decide, by decide⟩, _, rfl, d, _, 1, _, rfl, rfl, hS3, atI_nat (j := 1) rfl, _, rfl, d, _, 2, _, rfl, rfl, hS3, atI_nat (j := 2) rfl, _, rfl, d, _, 3, _, rfl, rfl, hS3, atI_nat (j := 3) rfl, ?_⟩
        refine ⟨_, _, _, rfl, ⟨by omega, by omega⟩, he, fun r h1 h2 => ⟨_, _, rfl, rfl, ?_⟩⟩
        exact ⟨_, _, _, rfl, ⟨by omega, by omega⟩, upd_same, hk.trans Kept.upd⟩
      · rintro σ H2 ⟨f, c', y, rfl, hc', hd2, hk⟩
        refine ⟨_, rfl, .inl ⟨_, rfl, _, rfl, _, _, rfl, rfl, (by show 0 < m; omega), ?_⟩⟩
        exact q _ _ (Int.emod_nonneg _ (by omega)) (Int.emod_lt_of_pos _ (by omega)) ⟨_, _, _, _, hd2, ⟨hc'.1, by omega⟩, he⟩ hk
end
end K4
set_option Elab.async false
set_option linter.all false
set_option maxRecDepth 100000
set_option maxHeartbeats 4000000
namespace K4
open PySem PySem.Spec PyProof.Rows L2 K4M
/-! ### values that are compared deeply -/
def Flat : V → Prop
  | .non => True
  | .bl _ => True
  | .int _ => True
  | .str _ => True
  | _ => False
def tn : V → String
  | .non => "NoneType"
  | .bl _ => "bool"
  | .int _ => "int"
  | _ => "str"
def isInt : V → Bool
  | .int _ => true
  | .bl _ => true
  | _ => false
def isBl : V → Bool
  | .bl _ => true
  | _ => false
def isStr : V → Bool
  | .str _ => true
  | _ => false
section
variable {K : PySem.W.Frag} {H : Hp} {x : V}
theorem Flat.ty (h : Flat x) : TyX K H x (.type (tn x)) := by
  cases x with
  | non => exact .base .non
  | bl b => exact .base (.bl b)
  | int i => exact .base (.int i)
  | str y => exact .base (.str y)
  | _ => exact h.elim
theorem Flat.no (h : Flat x) {c : String} (hc : c = "list" ∨ c = "tuple" ∨ c = "dict") : PySem.W.kitOne K (.type (tn x)) (.type c) = some false := by
  cases x with
  | non => rcases hc with rfl | rfl | rfl <;> exact kit_ty (a := "NoneType") (r := false) (by decide +kernel)
  | bl b => rcases hc with rfl | rfl | rfl <;> exact kit_ty (a := "bool") (r := false) (by decide +kernel)
  | int i => rcases hc with rfl | rfl | rfl <;> exact kit_ty (a := "int") (r := false) (by decide +kernel)
  | str y => rcases hc with rfl | rfl | rfl <;> exact kit_ty (a := "str") (r := false) (by decide +kernel)
  | _ => exact h.elim
theorem Flat.kInt (h : Flat x) : PySem.W.kitOne K (.type (tn x)) (.type "int") = some (isInt x) := by
  cases x with
  | non => exact kit_ty (a := "NoneType") (r := false) (by decide +kernel)
  | bl b => exact kit_ty (a := "bool") (r := true) (by decide +kernel)
  | int i => exact kit_ty (a := "int") (r := true) (by decide +kernel)
  | str y => exact kit_ty (a := "str") (r := false) (by decide +kernel)
  | _ => exact h.elim
theorem Flat.kStr (h : Flat x) : PySem.W.kitOne K (.type (tn x)) (.type "str") = some (isStr x) := by
  cases x with
  | non => exact kit_ty (a := "NoneType") (r := false) (by decide +kernel)
  | bl b => exact kit_ty (a := "bool") (r := false) (by decide +kernel)
  | int i => exact kit_ty (a := "int") (r := false) (by decide +kernel)
  | str y => exact kit_ty (a := "str") (r := true) (by decide +kernel)
  | _ => exact h.elim
theorem Flat.kBl (h : Flat x) : PySem.W.kitOne K (.type (tn x)) (.type "bool") = some (isBl x) := by
  cases x with
  | non => exact kit_ty (a := "NoneType") (r := false) (by decide +kernel)
  | bl b => exact kit_ty (a := "bool") (r := true) (by decide +kernel)
  | int i => exact kit_ty (a := "int") (r := false) (by decide +kernel)
  | str y => exact kit_ty (a := "str") (r := false) (by decide +kernel)
  | _ => exact h.elim
theorem Flat.scal (h : Flat x) : scal x x = true := by
  cases x with
  | non => rfl
  | bl b => rfl
  | int i => rfl
  | str y => rfl
  | _ => exact h.elim
theorem sql_ty {a : Addr} {xs : List V} (h : SqL K H a xs) : TyX K H (.ref a) (.type "list") := by
  rcases h with (h | ⟨o, h⟩) | ⟨o, its, n, h, hc, _⟩
  · exact .base (.lst h)
  · exact .base (.frz h)
  · exact .kList h hc
theorem sqt_ty {a : Addr} {xs : List V} (h : SqT K H a xs) : TyX K H (.ref a) (.type "tuple") := by
  rcases h with (h | ⟨o, h⟩) | ⟨o, its, n, h, hc, _⟩
  · exact .base (.tup h)
  · exact .fTuple h
  · exact .kTuple h hc
theorem Same.sqt {H' : Hp} {a : Addr} {xs : List V} (e : Same H H') (h : SqT K H a xs) : SqT K H' a xs := by
  rcases h with (h | ⟨o, h⟩) | h
  · exact .inl (.inl (e _ _ h))
  · exact .inl (.inr ⟨o, e _ _ h⟩)
  · exact .inr h
end
/-- x and y tell the same, n deep -/
def Eqv (K : PySem.W.Frag) (H : Hp) : Nat → V → V → Prop
  | 0, x, y => x = y ∧ Flat x
  | n + 1, x, y => (x = y ∧ Flat x) ∨ ∃ (a b : Addr) (xs ys : List V), x = .ref a ∧ y = .ref b ∧ xs.length ≤ 100000 ∧ xs.length = ys.length ∧ ((SqL K H a xs ∧ SqL K H b ys) ∨ (SqT K H a xs ∧ SqT K H b ys)) ∧
      ∀ (i : Nat) (u v : V), xs[i]? = some u → ys[i]? = some v → Eqv K H n u v
theorem Eqv.same {K : PySem.W.Frag} {H H' : Hp} (e : Same H H') : ∀ {n : Nat} {x y : V}, Eqv K H n x y → Eqv K H' n x y
  | 0, _, _, h => h
  | n + 1, x, y, h => by
    rcases h with h | ⟨a, b, xs, ys, rfl, rfl, h1, h2, h3, h4⟩
    · exact .inl h
    · refine .inr ⟨a, b, xs, ys, rfl, rfl, h1, h2, ?_, fun i u v hu hv => (h4 i u v hu hv).same e⟩
      rcases h3 with ⟨q1, q2⟩ | ⟨q1, q2⟩
      · exact .inl ⟨e.seq q1, e.seq q2⟩
      · exact .inr ⟨Same.sqt e q1, Same.sqt e q2⟩
theorem Eqv.flat {K : PySem.W.Frag} {H : Hp} {n : Nat} {x : V} (h : Flat x) : Eqv K H n x x := by
  cases n with
  | zero => exact ⟨rfl, h⟩
  | succ n => exact .inl ⟨rfl, h⟩
theorem Eqv.list {K : PySem.W.Frag} {H : Hp} {n : Nat} {a b : Addr} {xs : List V} (ha : SqL K H a xs) (hb : SqL K H b xs) (hl : xs.length ≤ 100000) (hf : ∀ x ∈ xs, Flat x) : Eqv K H (n + 1) (.ref a) (.ref b) :=
  .inr ⟨a, b, xs, xs, rfl, rfl, hl, rfl, .inl ⟨ha, hb⟩, fun i u v hu hv => by
    rw [hu] at hv
    cases hv
    exact Eqv.flat (hf u (List.mem_of_getElem? hu))⟩
theorem Eqv.tup {K : PySem.W.Frag} {H : Hp} {n : Nat} {a b : Addr} {xs : List V} (ha : SqT K H a xs) (hb : SqT K H b xs) (hl : xs.length ≤ 100000) (hf : ∀ x ∈ xs, Flat x) : Eqv K H (n + 1) (.ref a) (.ref b) :=
  .inr ⟨a, b, xs, xs, rfl, rfl, hl, rfl, .inr ⟨ha, hb⟩, fun i u v hu hv => by
    rw [hu] at hv
    cases hv
    exact Eqv.flat (hf u (List.mem_of_getElem? hu))⟩
theorem dec_self (x : V) : decide (x = x) = true := decide_eq_true rfl
/-! ### a comprehension over zip -/
theorem lc_zipL {K : PySem.W.Frag} {a b : Addr} {xs ys : List V} {g : TG} {tt : TT} {te : TE} {vs : List Nat} {σ : L2.St} {H1 : Hp} {D : Addr} {Qd : Hp → Prop} (hl : xs.length = ys.length) (Pv : Nat → Hp → Prop) (h0 : Pv 0 (upd H1 D (.lst []))) (hq : ∀ i H, Pv i H → SqL K H a xs ∧ SqL K H b ys)
    (hs : ∀ (i : Nat) (x y : V) (T : Addr) (H : Hp), xs[i]? = some x → ys[i]? = some y → Pv i H → H T = none → g (.ref T) (wipe σ vs) (upd H T (.tup [x, y])) fun σ2 H2 => wipe σ2 vs = wipe σ vs ∧ tt σ2 H2 fun c H3 =>
      if c = true then te σ2 H3 fun y H4 => ∃ acc, H4 D = some (.lst acc) ∧ acc.length < sizeLine ∧ Pv (i + 1) (upd H4 D (.lst (acc ++ [y]))) else Pv (i + 1) H3) (hd : ∀ H, Pv xs.length H → Qd H) :
    ∃ W : Nat → Nat → Hp → Prop, (∃ m, W 0 m (upd H1 D (.lst []))) ∧ ∀ i m H, W i m H →
      ((Itz K a b).stop i H ∧ Qd H) ∨ ((Itz K a b).go i H ∧ ∃ Nx : Hp → Prop, (∀ H', Nx H' → ∃ m', m' < m ∧ W (i + 1) m' H') ∧ ∀ x H', (Itz K a b).yld i H x H' → g x (wipe σ vs) H' fun σ2 H2 => wipe σ2 vs = wipe σ vs ∧ tt σ2 H2 fun c H3 =>
        if c = true then te σ2 H3 fun y H4 => ∃ acc, H4 D = some (.lst acc) ∧ acc.length < sizeLine ∧ Nx (upd H4 D (.lst (acc ++ [y]))) else Nx H3) := by
  refine ⟨fun i m H => m = xs.length - i ∧ i ≤ xs.length ∧ Pv i H, ⟨xs.length, rfl, Nat.zero_le _, h0⟩, ?_⟩
  rintro i m H ⟨rfl, hi, p⟩
  obtain ⟨qx, qy⟩ := hq i H p
  by_cases hlt : i < xs.length
  · have hx : xs[i]? = some xs[i] := List.getElem?_eq_getElem hlt
    have hlt2 : i < ys.length := by omega
    have hy : ys[i]? = some ys[i] := List.getElem?_eq_getElem hlt2
    refine .inr ⟨⟨xs, ys, _, _, qx, qy, hx, hy⟩, Pv (i + 1), fun H' p' => ⟨xs.length - (i + 1), by omega, rfl, hlt, p'⟩, fun v H' y => ?_⟩
    obtain ⟨T, x', y', rfl, hT, rfl, f1, f2⟩ := y
    exact hs i x' y' T H (f1 xs qx) (f2 ys qy) p hT
  · have e : i = xs.length := by omega
    subst e
    exact .inl ⟨⟨xs, ys, qx, qy, Or.inl (Nat.le_refl _)⟩, hd H p⟩
theorem lc_zipT {K : PySem.W.Frag} {a b : Addr} {xs ys : List V} {g : TG} {tt : TT} {te : TE} {vs : List Nat} {σ : L2.St} {H1 : Hp} {D : Addr} {Qd : Hp → Prop} (hl : xs.length = ys.length) (Pv : Nat → Hp → Prop) (h0 : Pv 0 (upd H1 D (.lst []))) (hq : ∀ i H, Pv i H → SqT K H a xs ∧ SqT K H b ys)
    (hs : ∀ (i : Nat) (x y : V) (T : Addr) (H : Hp), xs[i]? = some x → ys[i]? = some y → Pv i H → H T = none → g (.ref T) (wipe σ vs) (upd H T (.tup [x, y])) fun σ2 H2 => wipe σ2 vs = wipe σ vs ∧ tt σ2 H2 fun c H3 =>
      if c = true then te σ2 H3 fun y H4 => ∃ acc, H4 D = some (.lst acc) ∧ acc.length < sizeLine ∧ Pv (i + 1) (upd H4 D (.lst (acc ++ [y]))) else Pv (i + 1) H3) (hd : ∀ H, Pv xs.length H → Qd H) :
    ∃ W : Nat → Nat → Hp → Prop, (∃ m, W 0 m (upd H1 D (.lst []))) ∧ ∀ i m H, W i m H →
      ((RZ.ItzT K a b).stop i H ∧ Qd H) ∨ ((RZ.ItzT K a b).go i H ∧ ∃ Nx : Hp → Prop, (∀ H', Nx H' → ∃ m', m' < m ∧ W (i + 1) m' H') ∧ ∀ x H', (RZ.ItzT K a b).yld i H x H' → g x (wipe σ vs) H' fun σ2 H2 => wipe σ2 vs = wipe σ vs ∧ tt σ2 H2 fun c H3 =>
        if c = true then te σ2 H3 fun y H4 => ∃ acc, H4 D = some (.lst acc) ∧ acc.length < sizeLine ∧ Nx (upd H4 D (.lst (acc ++ [y]))) else Nx H3) := by
  refine ⟨fun i m H => m = xs.length - i ∧ i ≤ xs.length ∧ Pv i H, ⟨xs.length, rfl, Nat.zero_le _, h0⟩, ?_⟩
  rintro i m H ⟨rfl, hi, p⟩
  obtain ⟨qx, qy⟩ := hq i H p
  by_cases hlt : i < xs.length
  · have hx : xs[i]? = some xs[i] := List.getElem?_eq_getElem hlt
    have hlt2 : i < ys.length := by omega
    have hy : ys[i]? = some ys[i] := List.getElem?_eq_getElem hlt2
    refine .inr ⟨⟨xs, ys, _, _, qx, qy, hx, hy⟩, Pv (i + 1), fun H' p' => ⟨xs.length - (i + 1), by omega, rfl, hlt, p'⟩, fun v H' y => ?_⟩
    obtain ⟨T, x', y', rfl, hT, rfl, f1, f2⟩ := y
    exact hs i x' y' T H (f1 xs qx) (f2 ys qy) p hT
  · have e : i = xs.length := by omega
    subst e
    exact .inl ⟨⟨xs, ys, qx, qy, Or.inl (Nat.le_refl _)⟩, hd H p⟩
section
variable {P : Program} {w : World} {K : PySem.W.Frag} {mg : Str → Option Value} {base : Heap}
/-! ### exact -/
theorem sc_exact : FnScope ["mine", "theirs", "is_like", "a", "b", "key"] ["mine", "theirs"] (defScope st__law_exact) := ⟨rfl, rfl, rfl, by decide +kernel, rfl, by decide +kernel, by decide +kernel⟩
def spExact (K : PySem.W.Frag) (n : Nat) : Sp := fun vs H Q _ => ∃ x y : V, vs = [x, y] ∧ Eqv K H n x y ∧ ∀ H', Same H H' → Q (.bl true) H'
theorem lcls (a b : String) : Paired ClsV [.ty a, .ty b] [.type a, .type b] := .cons (.ty _) (.cons (.ty _) .nil)
theorem lcls3 (a b c : String) : Paired ClsV [.ty a, .ty b, .ty c] [.type a, .type b, .type c] := .cons (.ty _) (.cons (.ty _) (.cons (.ty _) .nil))
theorem exact_flat (B : Bi mg) (D : Df K mg "_law_exact" st__law_exact ["mine", "theirs"]) {k : Nat} {cdv : Value} {A : Around} {outer : List Env} {s : Shared} {H : Hp} {x : V} {Q : VK} {E : XK} (hf : Flat x) (q : ∀ H', Same H H' → Q (.bl true) H') :
    ∃ t, PSs (cxOf CX0 P w K mg base ["mine", "theirs", "is_like", "a", "b", "key"] "_law_exact" (defScope st__law_exact) D.f cdv A outer s H E).nox (defBody st__law_exact) t ∧ t { nx := fun _ H' => Q .non H', rt := Q } (start ["mine", "theirs", "is_like", "a", "b", "key"] [x, x]) H := by
  refine ⟨_, pss_cons (ps_if (pt_val (pe_callB call_isiT (by rfl) B.isi (by decide +kernel) (pa_cons (pv 0) (pa_cons (pe_tup (pa_cons (pe_bltn (v := .ty "list") (by rfl) B.list (by decide +kernel) rfl) (pa_cons (pe_bltn (v := .ty "tuple") (by rfl) B.tuple (by decide +kernel) rfl) pa_nil))) pa_nil)))) pss_never pss_nil)
    (pss_cons (ps_if (pt_val (pe_callB call_isi (by rfl) B.isi (by decide +kernel) (pa_cons (pv 0) (pa_cons (pe_bltn (v := .ty "dict") (by rfl) B.dict (by decide +kernel) rfl) pa_nil)))) pss_never pss_nil)
    (pss_cons (ps_if (PW.pt (pw_or (pt_val (pe_callB call_isiT (by rfl) B.isi (by decide +kernel) (pa_cons (pv 1) (pa_cons (pe_tup (pa_cons (pe_bltn (v := .ty "list") (by rfl) B.list (by decide +kernel) rfl) (pa_cons (pe_bltn (v := .ty "tuple") (by rfl) B.tuple (by decide +kernel) rfl) (pa_cons (pe_bltn (v := .ty "dict") (by rfl) B.dict (by decide +kernel) rfl) pa_nil)))) pa_nil))))
        (pw_or1 (pt_cmpR op_ne (pe_cmpR op_isN (pv 0) pe_non (nomark _)) (pe_cmpR op_isN (pv 1) pe_non (nomark _)) (nomark _))))) pss_never pss_nil)
    (pss_cons (ps_set (i := 2) sc_exact.nd rfl (.inl rfl) (pe_and (pe_cmpR op_eq (pe_callB call_isi (by rfl) B.isi (by decide +kernel) (pa_cons (pv 0) (pa_cons (pe_bltn (v := .ty "int") (by rfl) B.int (by decide +kernel) rfl) pa_nil))) (pe_callB call_isi (by rfl) B.isi (by decide +kernel) (pa_cons (pv 1) (pa_cons (pe_bltn (v := .ty "int") (by rfl) B.int (by decide +kernel) rfl) pa_nil))) (nomark _))
        (pe_one (pe_cmpR op_eq (pe_callB call_isi (by rfl) B.isi (by decide +kernel) (pa_cons (pv 0) (pa_cons (pe_bltn (v := .ty "str") (by rfl) B.str (by decide +kernel) rfl) pa_nil))) (pe_callB call_isi (by rfl) B.isi (by decide +kernel) (pa_cons (pv 1) (pa_cons (pe_bltn (v := .ty "str") (by rfl) B.str (by decide +kernel) rfl) pa_nil))) (nomark _)))))
    (pss_one (ps_ret (pe_and (pv 2) (pe_and (pe_cmpR op_eq (pe_callB call_isi (by rfl) B.isi (by decide +kernel) (pa_cons (pv 0) (pa_cons (pe_bltn (v := .ty "bool") (by rfl) B.bool (by decide +kernel) rfl) pa_nil))) (pe_callB call_isi (by rfl) B.isi (by decide +kernel) (pa_cons (pv 1) (pa_cons (pe_bltn (v := .ty "bool") (by rfl) B.bool (by decide +kernel) rfl) pa_nil))) (nomark _))
        (pe_one (pe_cmpR op_eq (pv 0) (pv 1) (nomark _)))))))))), ?_⟩
  refine ⟨x, rfl, (by decide), fun p hp => ?_⟩
  refine ⟨x, p, _, _, _, false, rfl, upd_same, lcls _ _, hf.ty, kitAny_cons (hf.no (.inl rfl)) (fun _ => kitAny_cons (hf.no (.inr (.inl rfl))) (fun _ => kitAny_nil) (fun z => nomatch z)) (fun z => nomatch z), _, rfl, iteF ?_⟩
  refine ⟨x, rfl, x, _, _, _, false, rfl, .ty _, hf.ty, hf.no (.inr (.inr rfl)), _, rfl, iteF ?_⟩
  refine ⟨x, rfl, (by decide), fun p2 hp2 => ?_⟩
  refine ⟨x, p2, _, _, _, false, rfl, upd_same, lcls3 _ _ _, hf.ty, kitAny_cons (hf.no (.inl rfl)) (fun _ => kitAny_cons (hf.no (.inr (.inl rfl))) (fun _ => kitAny_cons (hf.no (.inr (.inr rfl))) (fun _ => kitAny_nil) (fun z => nomatch z)) (fun z => nomatch z)) (fun z => nomatch z), _, rfl, iteF ?_⟩
  refine ⟨x, rfl, rfl, x, rfl, rfl, rfl, _, rfl, ?_⟩
  rw [dec_self]
  refine iteF ?_
  refine ⟨x, rfl, x, _, _, _, isInt x, rfl, .ty _, hf.ty, hf.kInt, x, rfl, x, _, _, _, isInt x, rfl, .ty _, hf.ty, hf.kInt, rfl, _, rfl, ?_⟩
  rw [dec_self]
  refine iteT ?_
  refine ⟨x, rfl, x, _, _, _, isStr x, rfl, .ty _, hf.ty, hf.kStr, x, rfl, x, _, _, _, isStr x, rfl, .ty _, hf.ty, hf.kStr, rfl, ?_⟩
  rw [dec_self]
  refine ⟨_, rfl, _, rfl, iteT ?_⟩
  refine ⟨x, rfl, x, _, _, _, isBl x, rfl, .ty _, hf.ty, hf.kBl, x, rfl, x, _, _, _, isBl x, rfl, .ty _, hf.ty, hf.kBl, rfl, _, rfl, ?_⟩
  rw [dec_self]
  refine iteT ?_
  refine ⟨x, rfl, x, rfl, hf.scal, ?_⟩
  rw [dec_self]
  exact q _ ((same_upd hp).trans (same_upd hp2))
end
end K4
set_option Elab.async false
set_option linter.all false
set_option maxRecDepth 100000
set_option maxHeartbeats 4000000
namespace K4
open PySem PySem.Spec PyProof.Rows L2 K4M
theorem kit_ll {K : PySem.W.Frag} {a : String} (h : kitB a a = some true) : PySem.W.kitOne K (.type a) (.type a) = some true := kit_ty h
theorem Kept.seq {K : PySem.W.Frag} {H H' : Hp} {d a : Addr} {xs : List V} (e : Kept H H' d) (hne : a ≠ d) (h : SqL K H a xs) : SqL K H' a xs := by
  rcases h with (h | ⟨o, h⟩) | h
  · exact .inl (.inl (e _ _ hne h))
  · exact .inl (.inr ⟨o, e _ _ hne h⟩)
  · exact .inr h
theorem Same.dice {H H' : Hp} {d : Addr} {n : Nat} (e : Same H H') (h : Dice H d n) : Dice H' d n := by
  obtain ⟨a, b, c, x, hd, r⟩ := h
  exact ⟨a, b, c, x, e _ _ hd, r⟩
theorem Dice.more {H : Hp} {d : Addr} {n m : Nat} (h : Dice H d n) (hm : n ≤ m) : Dice H d m := by
  obtain ⟨a, b, c, x, hd, r, z⟩ := h
  exact ⟨a, b, c, x, hd, ⟨r.1, by omega⟩, z⟩
theorem Dice.some {H : Hp} {d : Addr} {n : Nat} (h : Dice H d n) : ∃ o, H d = some o := by
  obtain ⟨a, b, c, x, hd, _⟩ := h
  exact ⟨_, hd⟩
theorem cutV_map {α : Type} (f : α → V) (ns : List α) (lo hi : Option Int) : ∃ ms : List α, cutV (ns.map f) lo hi = ms.map f := by
  unfold cutV
  rw [← List.map_drop, ← List.map_take]
  exact ⟨_, rfl⟩
section
variable {P : Program} {w : World} {K : PySem.W.Frag} {mg : Str → Option Value} {base : Heap}
theorem ok_exact (B : Bi mg) (D : Df K mg "_law_exact" st__law_exact ["mine", "theirs"]) : ∀ n : Nat, FnOk P w K mg base CX0 (n + 1) D.f D.fd ["mine", "theirs"] (spExact K n)
  | 0 => by
    refine D.F.ok sc_exact (fun vs H Q E h => ?_) (fun cdv A outer s H vs Q E hr h => ?_)
    · obtain ⟨x, y, rfl, _⟩ := h
      rfl
    · obtain ⟨x, y, rfl, ⟨rfl, hf⟩, q⟩ := h
      exact exact_flat B D (k := 0) hf q
  | n + 1 => by
    have C : Cal P w K mg base (n + 1) "_law_exact" ["mine", "theirs"] (spExact K n) := D.cal (ok_exact B D n)
    refine D.F.ok sc_exact (fun vs H Q E h => ?_) (fun cdv A outer s H vs Q E hr h => ?_)
    · obtain ⟨x, y, rfl, _⟩ := h
      rfl
    · obtain ⟨x, y, rfl, h, q⟩ := h
      rcases h with ⟨rfl, hf⟩ | ⟨a, b, xs, ys, rfl, rfl, h1, h2, h3, h4⟩
      · exact exact_flat B D (k := n + 1) hf q
      · refine ⟨_, pss_cons (ps_if (pt_val (pe_callB call_isiT (by rfl) B.isi (by decide +kernel) (pa_cons (pv 0) (pa_cons (pe_tup (pa_cons (pe_bltn (v := .ty "list") (by rfl) B.list (by decide +kernel) rfl) (pa_cons (pe_bltn (v := .ty "tuple") (by rfl) B.tuple (by decide +kernel) rfl) pa_nil))) pa_nil))))
            (pss_cons (ps_set (i := 2) sc_exact.nd rfl (.inl rfl) (pe_and (pe_cmpR op_eq (pe_callB call_isi (by rfl) B.isi (by decide +kernel) (pa_cons (pv 1) (pa_cons (pe_bltn (v := .ty "list") (by rfl) B.list (by decide +kernel) rfl) pa_nil))) (pe_callB call_isi (by rfl) B.isi (by decide +kernel) (pa_cons (pv 0) (pa_cons (pe_bltn (v := .ty "list") (by rfl) B.list (by decide +kernel) rfl) pa_nil))) (nomark _))
              (pe_one (pe_cmpR op_eq (pe_callB call_isi (by rfl) B.isi (by decide +kernel) (pa_cons (pv 1) (pa_cons (pe_bltn (v := .ty "tuple") (by rfl) B.tuple (by decide +kernel) rfl) pa_nil))) (pe_callB call_isi (by rfl) B.isi (by decide +kernel) (pa_cons (pv 0) (pa_cons (pe_bltn (v := .ty "tuple") (by rfl) B.tuple (by decide +kernel) rfl) pa_nil))) (nomark _)))))
            (pss_one (ps_ret (pe_and (pv 2) (pe_and (pe_cmpR op_eq (pe_callB call_len_seq (by rfl) B.len PySem.boot_len (pa_cons (pv 0) pa_nil)) (pe_callB call_len_seq (by rfl) B.len PySem.boot_len (pa_cons (pv 1) pa_nil)) (nomark _))
              (pe_one (pe_callB (cr_all rfl) (by rfl) B.all (by decide +kernel) (pa_cons (pe_lc (own := [("a", 3), ("b", 4)]) (g := gTup K 2 (gCons (gName 3) (gCons (gName 4) gNil))) (tt := tYes) (by rfl) sc_exact.nd
                (RZ.pi_zipA (by rfl) B.zip (pa_cons (pv 0) (pa_cons (pv 1) pa_nil))) (blkOk_by (N := ["mine", "theirs", "is_like", "a", "b", "key"]) (sc := defScope st__law_exact) (by decide +kernel))
                (fun _ _ _ _ _ => pg_tup rfl (pgs_cons (pg_name (i := 3) sc_exact.nd rfl (.inl rfl)) (pgs_cons (pg_name (i := 4) sc_exact.nd rfl (.inl rfl)) pgs_nil)))
                (fun _ _ _ _ _ => pts_nil)
                (fun _ _ _ _ _ => pcall C hr (by rfl) (pa_cons (pv 3) (pa_cons (pv 4) pa_nil)))) pa_nil)))))))) pss_nil)
          pss_never, ?_⟩
        have eb : ∃ bL bT : Bool, ∃ T : Value, ∀ H', Same H H' → TyX K H' (.ref a) T ∧ TyX K H' (.ref b) T ∧ PySem.W.kitOne K T (.type "list") = some bL ∧ PySem.W.kitOne K T (.type "tuple") = some bT ∧ PySem.W.kitAny K T [.type "list", .type "tuple"] = some true := by
          rcases h3 with ⟨q1, q2⟩ | ⟨q1, q2⟩
          · refine ⟨true, false, .type "list", fun H' sm => ⟨sql_ty (sm.seq q1), sql_ty (sm.seq q2), kit_ty (by decide +kernel), kit_ty (by decide +kernel), kitAny_cons (b := true) (kit_ty (by decide +kernel)) (fun z => nomatch z) (fun _ => rfl)⟩⟩
          · refine ⟨false, true, .type "tuple", fun H' sm => ⟨sqt_ty (Same.sqt sm q1), sqt_ty (Same.sqt sm q2), kit_ty (by decide +kernel), kit_ty (by decide +kernel), kitAny_cons (b := false) (kit_ty (by decide +kernel)) (fun _ => kitAny_cons (b := true) (kit_ty (by decide +kernel)) (fun z => nomatch z) (fun _ => rfl)) (fun z => nomatch z)⟩⟩
        obtain ⟨bL, bT, T, hT⟩ := eb
        refine ⟨.ref a, rfl, (by decide), fun p hp => ?_⟩
        have s1 : Same H (upd H p (.tup [.ty "list", .ty "tuple"])) := same_upd hp
        obtain ⟨ta, tb, kL, kT, kA⟩ := hT _ s1
        refine ⟨.ref a, p, _, T, _, true, rfl, upd_same, lcls _ _, ta, kA, _, rfl, iteT ?_⟩
        refine ⟨.ref b, rfl, .ref b, _, T, _, bL, rfl, .ty _, tb, kL, .ref a, rfl, .ref a, _, T, _, bL, rfl, .ty _, ta, kL, rfl, _, rfl, ?_⟩
        rw [dec_self]
        refine iteT ?_
        refine ⟨.ref b, rfl, .ref b, _, T, _, bT, rfl, .ty _, tb, kT, .ref a, rfl, .ref a, _, T, _, bT, rfl, .ty _, ta, kT, rfl, ?_⟩
        rw [dec_self]
        refine ⟨_, rfl, _, rfl, iteT ?_⟩
        have hq : ∀ H', Same H H' → (SqL K H' a xs ∨ SqT K H' a xs) ∧ (SqL K H' b ys ∨ SqT K H' b ys) := fun H' sm => by
          rcases h3 with ⟨q1, q2⟩ | ⟨q1, q2⟩
          · exact ⟨.inl (sm.seq q1), .inl (sm.seq q2)⟩
          · exact ⟨.inr (Same.sqt sm q1), .inr (Same.sqt sm q2)⟩
        refine ⟨.ref a, rfl, a, xs, rfl, (hq _ s1).1, .ref b, rfl, b, ys, rfl, (hq _ s1).2, rfl, _, rfl, ?_⟩
        rw [← h2, dec_self]
        refine iteT ?_
        have key : ∀ {H2 : Hp} {DD : Addr}, Same H H2 → H2 DD = some (.lst ((List.replicate xs.length true).map V.bl)) → rAll K [.ref DD] H2 fun v H3 => Q v H3 := fun {H2 DD} sm hD => by
          refine ⟨DD, _, rfl, .inl (.inl hD), ?_⟩
          rw [show (List.replicate xs.length true).all id = true by simp]
          exact q _ sm
        have turn : ∀ (DD : Addr) (i : Nat) (u v : V) (T : Addr) (H3 : Hp) , H DD = none → xs[i]? = some u → ys[i]? = some v → (Same H H3 ∧ H3 DD = some (.lst ((List.replicate i true).map V.bl))) → H3 T = none →
            spExact K n [u, v] (upd H3 T (.tup [u, v])) (fun y H4 => ∃ acc, H4 DD = some (.lst acc) ∧ acc.length < sizeLine ∧ (Same H (upd H4 DD (.lst (acc ++ [y]))) ∧ (upd H4 DD (.lst (acc ++ [y]))) DD = some (.lst ((List.replicate (i + 1) true).map V.bl)))) E0 := fun DD i u v T H3 hDn hu hv ⟨sm, hD⟩ hTn => by
          have sT : Same H3 (upd H3 T (.tup [u, v])) := same_upd hTn
          refine ⟨u, v, rfl, (h4 i u v hu hv).same (sm.trans sT), fun H4 s4 => ?_⟩
          have hi : i < xs.length := (List.getElem?_eq_some_iff.mp hu).1
          refine ⟨_, s4 _ _ (sT _ _ hD), ?_, fun c o e => ?_, ?_⟩
          · rw [List.length_map, List.length_replicate]
            have e : sizeLine = 16777216 := by decide
            omega
          · have hc : c ≠ DD := ne_of_none e hDn
            rw [upd_ne hc]
            exact s4 _ _ (sT _ _ (sm _ _ e))
          · rw [upd_same, List.replicate_succ', List.map_append]
            rfl
        refine ⟨.ref a, rfl, .ref b, rfl, a, b, xs, ys, rfl, ?_⟩
        rcases h3 with ⟨q1, q2⟩ | ⟨q1, q2⟩
        · refine .inl ⟨s1.seq q1, s1.seq q2, fun DD hD => ?_⟩
          have hDn : H DD = none := s1.free hD
          refine lc_zipL h2 (fun i H3 => Same H H3 ∧ H3 DD = some (.lst ((List.replicate i true).map V.bl))) ⟨s1.trans (same_upd hD), upd_same⟩ (fun i H3 z => ⟨z.1.seq q1, z.1.seq q2⟩) (fun i u v T H3 hu hv z hTn => ?_) (fun H3 z => key z.1 z.2)
          refine ⟨T, [u, v], rfl, .inl (.inl upd_same), rfl, u, [v], rfl, v, [], rfl, rfl, rfl, ?_⟩
          exact ⟨u, rfl, v, rfl, turn DD i u v T H3 hDn hu hv z hTn⟩
        · refine .inr ⟨Same.sqt s1 q1, Same.sqt s1 q2, fun DD hD => ?_⟩
          have hDn : H DD = none := s1.free hD
          refine lc_zipT h2 (fun i H3 => Same H H3 ∧ H3 DD = some (.lst ((List.replicate i true).map V.bl))) ⟨s1.trans (same_upd hD), upd_same⟩ (fun i H3 z => ⟨Same.sqt z.1 q1, Same.sqt z.1 q2⟩) (fun i u v T H3 hu hv z hTn => ?_) (fun H3 z => key z.1 z.2)
          refine ⟨T, [u, v], rfl, .inl (.inl upd_same), rfl, u, [v], rfl, v, [], rfl, rfl, rfl, ?_⟩
          exact ⟨u, rfl, v, rfl, turn DD i u v T H3 hDn hu hv z hTn⟩
/-! ### one of some -/
theorem sc_one_of : FnScope ["dice", "some"] ["dice", "some"] (defScope st__law_one_of) := ⟨rfl, rfl, rfl, by decide +kernel, rfl, by decide +kernel, by decide +kernel⟩
def spOne (K : PySem.W.Frag) : Sp := fun vs H Q _ => ∃ (d l : Addr) (n : Nat) (xs : List V), vs = [.ref d, .ref l] ∧ Dice H d n ∧ n < 2 ^ 59 ∧ l ≠ d ∧ SqL K H l xs ∧ 0 < xs.length ∧ xs.length < 100000 ∧ ∀ (i : Nat) (x : V) (H' : Hp), xs[i]? = some x → Dice H' d (n + 1) → Kept H H' d → Q x H'
theorem ok_one_of (B : Bi mg) (D : Df K mg "_law_one_of" st__law_one_of ["dice", "some"]) (CD : Cal P w K mg base 2 "_law_draw" ["dice", "many"] spDraw) : FnOk P w K mg base CX0 3 D.f D.fd ["dice", "some"] (spOne K) := by
  refine D.F.ok sc_one_of (fun vs H Q E h => ?_) (fun cdv A outer s H vs Q E hr h => ?_)
  · obtain ⟨d, l, n, xs, rfl, _⟩ := h
    rfl
  · obtain ⟨d, l, n, xs, rfl, hd, hn, hne, hl, h0, h1, q⟩ := h
    refine ⟨_, pss_one (ps_ret (pe_ix ix_list (pv 1) (pcall CD hr (by rfl) (pa_cons (pv 0) (pa_cons (pe_callB call_len_seq (by rfl) B.len PySem.boot_len (pa_cons (pv 1) pa_nil)) pa_nil))) (fun _ _ => rfl))), ?_⟩
    refine ⟨_, rfl, _, rfl, _, rfl, l, xs, rfl, .inl hl, d, _, n, rfl, hd, hn, by omega, by omega, fun r H' r0 r1 hD hk => ?_⟩
    have hi : r.toNat < xs.length := by omega
    have er : (r : Int) = ((r.toNat : Nat) : Int) := by omega
    refine ⟨l, xs, r, xs[r.toNat], rfl, rfl, hk.seq hne hl, ?_, ?_⟩
    · have z := atI_nat (List.getElem?_eq_getElem hi)
      rw [← er] at z
      exact z
    · exact q r.toNat _ _ (List.getElem?_eq_getElem hi) hD hk
/-! ### a dice -/
theorem sc_dice : FnScope ["script", "at", "seed"] ["script", "at"] (defScope st__law_dice) := ⟨rfl, rfl, rfl, by decide +kernel, rfl, by decide +kernel, by decide +kernel⟩
def spDice (K : PySem.W.Frag) : Sp := fun vs H Q _ => ∃ (a : Addr) (ns : List Int) (e : Int), vs = [.ref a, .int e] ∧ SqL K H a (ns.map V.int) ∧ 0 ≤ e ∧ e < 1000 ∧ ∀ (p : Addr) (H' : Hp), H p = none → Same H H' → Dice H' p 0 → Q (.ref p) H'
theorem ok_dice (B : Bi mg) (D : Df K mg "_law_dice" st__law_dice ["script", "at"]) : FnOk P w K mg base CX0 1 D.f D.fd ["script", "at"] (spDice K) := by
  refine D.F.ok sc_dice (fun vs H Q E h => ?_) (fun cdv A outer s H vs Q E hr h => ?_)
  · obtain ⟨a, ns, e, rfl, _⟩ := h
    rfl
  · obtain ⟨a, ns, e, rfl, hS, he0, he1, q⟩ := h
    refine ⟨_, pss_cons (ps_set (i := 2) sc_dice.nd rfl (.inl rfl) (pe_callB (cr_sum rfl) (by rfl) B.sum (by decide +kernel) (pa_cons (pe_slice sl_list (pv 0) (po_some (pv 1)) (po_some (pe_op op_add (pv 1) pe_int))) pa_nil)))
      (pss_one (ps_ret (pe_lst (pa_cons (pe_op op_mod (pe_callTy call_int1 (by rfl) B.int (by decide +kernel) (pa_cons (pe_callB (call_max2 rfl) (by rfl) B.max (by decide +kernel) (pa_cons (pe_op op_sub (pv 2) (pe_op op_pow pe_int pe_int)) (pa_cons pe_int pa_nil))) pa_nil)) (pe_op op_powW (pe_op op_pow pe_int pe_int) pe_int))
        (pa_cons (pe_op op_mod (pe_callTy call_int1 (by rfl) B.int (by decide +kernel) (pa_cons (pv 2) pa_nil)) pe_int) (pa_cons pe_int (pa_cons (pv 1) pa_nil))))))), ?_⟩
    refine ⟨_, rfl, _, rfl, _, rfl, _, rfl, _, _, rfl, rfl, _, rfl, a, _, rfl, hS, fun p hp => ?_⟩
    obtain ⟨ms, em⟩ := cutV_map V.int ns (some e) (some (e + 1))
    refine ⟨p, ms, rfl, .inl (.inl ?_), ?_⟩
    · rw [upd_same, ← em]
    refine ⟨_, rfl, _, _, rfl, rfl, ⟨by decide, by decide, by decide⟩, _, _, rfl, rfl, _, _, rfl, .inl ⟨_, rfl, _, _, rfl, rfl, ⟨by decide, by decide, by decide⟩, _, _, rfl, rfl, ⟨by decide, by decide +kernel⟩, _, _, rfl, rfl, (by show (0 : Int) < ((10 : Int) ^ (60 : Int).toNat) ^ (8 : Int).toNat; decide +kernel), ?_⟩⟩
    refine ⟨_, rfl, .inl ⟨_, rfl, _, _, rfl, rfl, (by show (0 : Int) < 2147483629; decide), _, rfl, (by show 4 ≤ sizeLine; decide), fun p2 hp2 => ?_⟩⟩
    have s1 : Same H (upd H p (.lst (cutV (ns.map V.int) (some e) (some (e + 1))))) := same_upd hp
    exact q p2 _ (s1.free hp2) (s1.trans (same_upd hp2)) ⟨_, _, _, _, upd_same, ⟨Int.le_refl _, Int.le_refl _⟩, by omega⟩
end
end K4
set_option Elab.async false
set_option linter.all false
set_option maxRecDepth 100000
set_option maxHeartbeats 4000000
namespace K4
open PySem PySem.Spec PyProof.Rows L2 K4M
section
variable {P : Program} {w : World} {K : PySem.W.Frag} {mg : Str → Option Value} {base : Heap}
theorem sc_dices : FnScope ["script", "few", "at"] ["script", "few"] (defScope st__law_dices) := ⟨rfl, rfl, rfl, by decide +kernel, rfl, by decide +kernel, by decide +kernel⟩
def spDices (K : PySem.W.Frag) : Sp := fun vs H Q _ => ∃ (a : Addr) (ns : List Int) (few : Int), vs = [.ref a, .int few] ∧ SqL K H a (ns.map V.int) ∧ few ≤ 10 ∧
  ∀ (L : Addr) (ds : List Addr) (H' : Hp), H L = none → Same H H' → H' L = some (.lst (ds.map V.ref)) → ds.length ≤ 10 → (∀ d ∈ ds, Dice H' d 0 ∧ H d = none) → ds.Nodup → Q (.ref L) H'
theorem ok_dices (B : Bi mg) (D : Df K mg "_law_dices" st__law_dices ["script", "few"]) (CD : Cal P w K mg base 1 "_law_dice" ["script", "at"] (spDice K)) : FnOk P w K mg base CX0 2 D.f D.fd ["script", "few"] (spDices K) := by
  refine D.F.ok sc_dices (fun vs H Q E h => ?_) (fun cdv A outer s H vs Q E hr h => ?_)
  · obtain ⟨a, ns, few, rfl, _⟩ := h
    rfl
  · obtain ⟨a, ns, few, rfl, hS, hf, q⟩ := h
    refine ⟨_, pss_one (ps_ret (pe_lc (own := [("at", 2)]) (g := gName 2) (tt := tYes) rfl sc_dices.nd
      (pi_range1 rfl B.range (pa_cons (pe_callB (call_max2 rfl) (by rfl) B.max (by decide +kernel) (pa_cons pe_int (pa_cons (pe_callB (call_min2 rfl) (by rfl) B.min (by decide +kernel) (pa_cons (pv 1) (pa_cons (pe_callB call_len_seq (by rfl) B.len PySem.boot_len (pa_cons (pv 0) pa_nil)) pa_nil))) pa_nil))) pa_nil))
      (blkOk_by (N := ["script", "few", "at"]) (sc := defScope st__law_dices) (by decide +kernel))
      (fun _ _ _ _ _ => pg_name (i := 2) sc_dices.nd rfl (.inl rfl))
      (fun _ _ _ _ _ => pts_nil)
      (fun _ _ _ _ _ => pcall CD hr (by rfl) (pa_cons (pv 0) (pa_cons (pv 2) pa_nil))))), ?_⟩
    refine ⟨_, rfl, .ref a, rfl, a, _, rfl, .inl hS, _, _, rfl, _, _, rfl, _, rfl, by split <;> (try split) <;> omega, by split <;> (try split) <;> omega, fun DD hD => ?_⟩
    have hc : ∀ c : Int, c ≤ 10 → c.toNat ≤ 10 := fun c h => by omega
    refine lc_range (lo := 0) (fun i H3 => ∃ ds : List Addr, ds.length = i ∧ Same H H3 ∧ H3 DD = some (.lst (ds.map V.ref)) ∧ (∀ d ∈ ds, Dice H3 d 0 ∧ H d = none) ∧ ds.Nodup)
      ⟨[], rfl, same_upd hD, upd_same, (fun _ h => by cases h), List.nodup_nil⟩ ?_ ?_
    · rintro i H3 hi ⟨ds, hl, sm, hDD, hds, nd⟩
      have hi10 : i < 10 := Nat.lt_of_lt_of_le hi (hc _ (by split <;> (try split) <;> omega))
      refine ⟨rfl, .ref a, rfl, .int (0 + i), rfl, a, ns, _, rfl, sm.seq hS, by omega, by omega, fun p H4 hp s4 hdi => ?_⟩
      have e16 : sizeLine = 16777216 := by decide
      have hpD : p ≠ DD := fun z => by
        rw [z, hDD] at hp
        cases hp
      refine ⟨ds.map V.ref, s4 _ _ hDD, by rw [List.length_map]; omega, ds ++ [p], by rw [List.length_append, hl]; rfl, fun c o e => ?_, ?_, fun d hd => ?_, ?_⟩
      · rw [upd_ne (ne_of_none e hD)]
        exact s4 _ _ (sm _ _ e)
      · rw [upd_same, List.map_append]
        rfl
      · rcases List.mem_append.mp hd with hd | hd
        · obtain ⟨x1, x2⟩ := hds d hd
          obtain ⟨a1, a2, a3, a4, e1, r⟩ := x1
          refine ⟨⟨a1, a2, a3, a4, ?_, r⟩, x2⟩
          rw [upd_ne]
          · exact s4 _ _ e1
          · intro z
            rw [z, hDD] at e1
            injection e1 with e1
            injection e1 with e1
            cases ds with
            | nil => cases hd
            | cons _ _ => simp at e1
        · rw [List.mem_singleton.mp hd]
          obtain ⟨a1, a2, a3, a4, e1, r⟩ := hdi
          refine ⟨⟨a1, a2, a3, a4, ?_, r⟩, sm.free hp⟩
          rw [upd_ne hpD]
          exact e1
      · rw [List.nodup_append]
        refine ⟨nd, List.nodup_cons.mpr ⟨List.not_mem_nil, List.nodup_nil⟩, fun x hx y hy => ?_⟩
        rw [List.mem_singleton.mp hy]
        intro z
        rw [z] at hx
        obtain ⟨o, ho⟩ := (hds p hx).1.some
        rw [hp] at ho
        cases ho
    · rintro H3 ⟨ds, hl, sm, hDD, hds, nd⟩
      refine q DD ds H3 hD sm hDD (by rw [hl]; exact hc _ (by split <;> (try split) <;> omega)) hds nd
/-! ### the checks -/
theorem sc_whole : FnScope ["value"] ["value"] (defScope st_is_whole_number) := ⟨rfl, rfl, rfl, by decide +kernel, rfl, by decide +kernel, by decide +kernel⟩
def spWhole : Sp := fun vs H Q _ => ∃ i : Int, vs = [.int i] ∧ Q (.bl true) H
theorem ok_whole (B : Bi mg) (D : Df K mg "is_whole_number" st_is_whole_number ["value"]) : FnOk P w K mg base CX0 1 D.f D.fd ["value"] spWhole := by
  refine D.F.ok sc_whole (fun vs H Q E h => ?_) (fun cdv A outer s H vs Q E hr h => ?_)
  · obtain ⟨i, rfl, _⟩ := h
    rfl
  · obtain ⟨i, rfl, q⟩ := h
    refine ⟨_, pss_one (ps_ret (pe_and (pe_callB call_isi (by rfl) B.isi (by decide +kernel) (pa_cons (pv 0) (pa_cons (pe_bltn (v := .ty "int") (by rfl) B.int (by decide +kernel) rfl) pa_nil)))
      (pe_one (pe_not (pe_callB call_isi (by rfl) B.isi (by decide +kernel) (pa_cons (pv 0) (pa_cons (pe_bltn (v := .ty "bool") (by rfl) B.bool (by decide +kernel) rfl) pa_nil))))))), ?_⟩
    have f : Flat (.int i) := True.intro
    refine ⟨_, rfl, .int i, _, _, _, true, rfl, .ty _, f.ty, f.kInt, _, rfl, iteT ?_⟩
    exact ⟨_, rfl, .int i, _, _, _, false, rfl, .ty _, f.ty, f.kBl, _, rfl, q⟩
theorem sc_count : FnScope ["value"] ["value"] (defScope st_is_count) := ⟨rfl, rfl, rfl, by decide +kernel, rfl, by decide +kernel, by decide +kernel⟩
def spCount : Sp := fun vs H Q _ => ∃ i : Int, vs = [.int i] ∧ 0 ≤ i ∧ Q (.bl true) H
theorem ok_count (B : Bi mg) (D : Df K mg "is_count" st_is_count ["value"]) (C : Cal P w K mg base 1 "is_whole_number" ["value"] spWhole) : FnOk P w K mg base CX0 2 D.f D.fd ["value"] spCount := by
  refine D.F.ok sc_count (fun vs H Q E h => ?_) (fun cdv A outer s H vs Q E hr h => ?_)
  · obtain ⟨i, rfl, _⟩ := h
    rfl
  · obtain ⟨i, rfl, h0, q⟩ := h
    refine ⟨_, pss_one (ps_ret (pe_and (pcall C hr (by rfl) (pa_cons (pv 0) pa_nil)) (pe_one (pe_cmpR op_ge (pv 0) pe_int (nomark _))))), ?_⟩
    refine ⟨_, rfl, i, rfl, _, rfl, iteT ?_⟩
    refine ⟨_, rfl, _, _, rfl, rfl, ?_⟩
    have e : decide ((0 : Int) ≤ i) = true := decide_eq_true h0
    exact (congrArg (fun b => Q (.bl b) H) e).mpr q
theorem sc_made : FnScope ["value", "signs"] ["value", "signs"] (defScope st_is_made_of) := ⟨rfl, rfl, rfl, by decide +kernel, rfl, by decide +kernel, by decide +kernel⟩
def spMade : Sp := fun vs H Q _ => ∃ (u : List Nat) (y : Str), vs = [.str (S u), .str y] ∧ u.length ≤ 100000 ∧ (∀ c ∈ u, y.cps.contains c = true) ∧ Q (.bl true) H
theorem ok_made (B : Bi mg) (D : Df K mg "is_made_of" st_is_made_of ["value", "signs"]) : FnOk P w K mg base CX0 1 D.f D.fd ["value", "signs"] spMade := by
  refine D.F.ok sc_made (fun vs H Q E h => ?_) (fun cdv A outer s H vs Q E hr h => ?_)
  · obtain ⟨u, y, rfl, _⟩ := h
    rfl
  · obtain ⟨u, y, rfl, hl, hc, q⟩ := h
    refine ⟨_, pss_one (ps_ret (pe_and (pe_callB call_isi (by rfl) B.isi (by decide +kernel) (pa_cons (pv 0) (pa_cons (pe_bltn (v := .ty "str") (by rfl) B.str (by decide +kernel) rfl) pa_nil)))
      (pe_one (pe_cmpR op_eq (pe_bm PySem.F.plainAttrs_str PySem.F.slot_str_strip PySem.F.type_str_strip mt_stripChars (pv 0) (pa_cons (pv 1) pa_nil)) pe_str (nomark _))))), ?_⟩
    have f : Flat (.str (S u)) := True.intro
    have e16 : sizeLine = 16777216 := by decide
    refine ⟨_, rfl, .str (S u), _, _, _, true, rfl, .ty _, f.ty, f.kStr, _, rfl, iteT ?_⟩
    refine ⟨_, rfl, rfl, _, rfl, S u, y, rfl, rfl, by rw [S_len]; omega, ?_⟩
    rw [strip_all hc]
    refine ⟨rfl, ?_⟩
    exact (congrArg (fun b => Q (.bl b) H) (decide_eq_true rfl)).mpr q
end
end K4
set_option Elab.async false
set_option linter.all false
set_option maxRecDepth 100000
set_option maxHeartbeats 4000000
namespace K4
open PySem PySem.Spec PyProof.Rows L2 K4M
abbrev LET : Str := Str.ofString "abcdefghijklmnopqrstuvwxyz"
def Low (u : List Nat) : Prop := ∀ c ∈ u, 97 ≤ c ∧ c ≤ 122
theorem low_has {c : Nat} (h1 : 97 ≤ c) (h2 : c ≤ 122) : LET.cps.contains c = true := by
  have all : ∀ k : Fin 26, LET.cps.contains (97 + k.val) = true := by decide +kernel
  have := all ⟨c - 97, by omega⟩
  rw [show 97 + (⟨c - 97, by omega⟩ : Fin 26).val = c by show 97 + (c - 97) = c; omega] at this
  exact this
theorem lp_unique {u : List Nat} (h : u ≠ []) {d : Nat} (h1 : 1 ≤ d) (h2 : d ≤ u.length) (h3 : ∀ j, 0 < j → j < d → had u j = false) (h4 : d < u.length → had u d = true) : lp u = d := by
  obtain ⟨a1, a2, a3, a4⟩ := lp_spec u h
  rcases Nat.lt_trichotomy (lp u) d with z | z | z
  · have x1 := a4 (by omega)
    rw [h3 _ (by omega) z] at x1
    cases x1
  · exact z
  · have x1 := h4 (by omega)
    rw [a1 _ (by omega) z] at x1
    cases x1
theorem bl_q {Q : VK} {H : Hp} {a b : Bool} (e : a = b) (q : Q (.bl b) H) : Q (.bl a) H := e ▸ q
theorem int_q {Q : VK} {H : Hp} {a b : Int} (e : a = b) (q : Q (.int b) H) : Q (.int a) H := e ▸ q
theorem pow_abs {s : Int} (h : s.natAbs < 2 ^ 100) : ∀ i : Nat, (s ^ i).natAbs < 2 ^ (100 * i + 1)
  | 0 => by simp
  | i + 1 => by
    rw [Int.pow_succ, Int.natAbs_mul, show 100 * (i + 1) + 1 = (100 * i + 1) + 100 by omega, Nat.pow_add]
    exact Nat.mul_lt_mul'' (pow_abs h i) h
section
variable {P : Program} {w : World} {K : PySem.W.Frag} {mg : Str → Option Value} {base : Heap}
theorem sc_text : FnScope ["value"] ["value"] (defScope st_is_text) := ⟨rfl, rfl, rfl, by decide +kernel, rfl, by decide +kernel, by decide +kernel⟩
def spText : Sp := fun vs H Q _ => ∃ u : List Nat, vs = [.str (S u)] ∧ u.length ≤ 100000 ∧ Low u ∧ Q (.bl true) H
theorem ok_text {t : Tok} (lt : mg "LETTERS" = some (.str LET t)) (D : Df K mg "is_text" st_is_text ["value"]) (C : Cal P w K mg base 1 "is_made_of" ["value", "signs"] spMade) : FnOk P w K mg base CX0 2 D.f D.fd ["value"] spText := by
  refine D.F.ok sc_text (fun vs H Q E h => ?_) (fun cdv A outer s H vs Q E hr h => ?_)
  · obtain ⟨u, rfl, _⟩ := h
    rfl
  · obtain ⟨u, rfl, hl, hw, q⟩ := h
    refine ⟨_, pss_one (ps_ret (pcall C hr (by rfl) (pa_cons (pv 0) (pa_cons (pe_glob (v := .str LET) rfl lt ⟨_, rfl⟩) pa_nil)))), ?_⟩
    exact ⟨_, rfl, u, LET, rfl, hl, fun c hc => low_has (hw c hc).1 (hw c hc).2, q⟩
theorem sc_word : FnScope ["value"] ["value"] (defScope st_is_word) := ⟨rfl, rfl, rfl, by decide +kernel, rfl, by decide +kernel, by decide +kernel⟩
def spWord : Sp := fun vs H Q _ => ∃ u : List Nat, vs = [.str (S u)] ∧ u.length ≤ 100000 ∧ Low u ∧ u ≠ [] ∧ Q (.bl true) H
theorem ok_word (D : Df K mg "is_word" st_is_word ["value"]) (C : Cal P w K mg base 2 "is_text" ["value"] spText) : FnOk P w K mg base CX0 3 D.f D.fd ["value"] spWord := by
  refine D.F.ok sc_word (fun vs H Q E h => ?_) (fun cdv A outer s H vs Q E hr h => ?_)
  · obtain ⟨u, rfl, _⟩ := h
    rfl
  · obtain ⟨u, rfl, hl, hw, h0, q⟩ := h
    refine ⟨_, pss_one (ps_ret (pe_and (pcall C hr (by rfl) (pa_cons (pv 0) pa_nil)) (pe_one (pe_cmpR op_ne (pv 0) pe_str (nomark _))))), ?_⟩
    refine ⟨_, rfl, u, rfl, hl, hw, _, rfl, iteT ?_⟩
    refine ⟨_, rfl, rfl, bl_q ?_ q⟩
    rw [show decide (V.str (S u) = V.str (Str.ofString "")) = (u == []) from V_dec u []]
    cases u with
    | nil => exact absurd rfl h0
    | cons _ _ => rfl
theorem sc_cword : FnScope ["value"] ["value"] (defScope st_check_word) := ⟨rfl, rfl, rfl, by decide +kernel, rfl, by decide +kernel, by decide +kernel⟩
def spCword : Sp := fun vs H Q _ => ∃ u : List Nat, vs = [.str (S u)] ∧ u.length ≤ 100000 ∧ Low u ∧ u ≠ [] ∧ Q .non H
theorem ok_cword (D : Df K mg "check_word" st_check_word ["value"]) (C : Cal P w K mg base 3 "is_word" ["value"] spWord) : FnOk P w K mg base CX0 4 D.f D.fd ["value"] spCword := by
  refine D.F.ok sc_cword (fun vs H Q E h => ?_) (fun cdv A outer s H vs Q E hr h => ?_)
  · obtain ⟨u, rfl, _⟩ := h
    rfl
  · obtain ⟨u, rfl, hl, hw, h0, q⟩ := h
    refine ⟨_, pss_one (ps_if (pt_not (pt_val (pcall C hr (by rfl) (pa_cons (pv 0) pa_nil)))) pss_never pss_nil), ?_⟩
    exact ⟨_, rfl, u, rfl, hl, hw, h0, _, rfl, iteF q⟩
theorem sc_cnum : FnScope ["value", "least"] ["value", "least"] (defScope st_check_number) := ⟨rfl, rfl, rfl, by decide +kernel, rfl, by decide +kernel, by decide +kernel⟩
def spCnum : Sp := fun vs H Q _ => ∃ i l : Int, vs = [.int i, .int l] ∧ 0 ≤ i ∧ l ≤ i ∧ Q .non H
theorem ok_cnum (D : Df K mg "check_number" st_check_number ["value", "least"]) (C : Cal P w K mg base 2 "is_count" ["value"] spCount) : FnOk P w K mg base CX0 3 D.f D.fd ["value", "least"] spCnum := by
  refine D.F.ok sc_cnum (fun vs H Q E h => ?_) (fun cdv A outer s H vs Q E hr h => ?_)
  · obtain ⟨i, l, rfl, _⟩ := h
    rfl
  · obtain ⟨i, l, rfl, h0, h1, q⟩ := h
    refine ⟨_, pss_one (ps_if (PW.pt (pw_or (pt_not (pt_val (pcall C hr (by rfl) (pa_cons (pv 0) pa_nil)))) (pw_or1 (pt_cmpR op_lt (pv 0) (pv 1) (nomark _))))) pss_never pss_nil), ?_⟩
    refine ⟨_, rfl, i, rfl, h0, _, rfl, iteF ?_⟩
    refine ⟨_, rfl, _, rfl, _, _, rfl, rfl, _, rfl, ?_⟩
    rw [decide_eq_false (show ¬ i < l by omega)]
    exact iteF q
/-! ### periods -/
theorem sc_had : FnScope ["text", "period"] ["text", "period"] (defScope st__is_had) := ⟨rfl, rfl, rfl, by decide +kernel, rfl, by decide +kernel, by decide +kernel⟩
def spHad : Sp := fun vs H Q _ => ∃ (u : List Nat) (p : Nat), vs = [.str (S u), .int (p : Int)] ∧ u.length ≤ 100000 ∧ Q (.bl (had u p)) H
theorem ok_had (D : Df K mg "_is_had" st__is_had ["text", "period"]) : FnOk P w K mg base CX0 1 D.f D.fd ["text", "period"] spHad := by
  refine D.F.ok sc_had (fun vs H Q E h => ?_) (fun cdv A outer s H vs Q E hr h => ?_)
  · obtain ⟨u, p, rfl, _⟩ := h
    rfl
  · obtain ⟨u, p, rfl, hl, q⟩ := h
    refine ⟨_, pss_one (ps_ret (pe_bm PySem.F.plainAttrs_str PySem.F.slot_str_startswith PySem.F.type_str_startswith mt_startswith (pv 0) (pa_cons (pe_slice sl_str (pv 0) (po_some (pv 1)) po_none) pa_nil))), ?_⟩
    have e16 : sizeLine = 16777216 := by decide
    refine ⟨_, rfl, rfl, _, rfl, _, rfl, p, rfl, S u, rfl, by rw [S_len]; omega, S u, _, rfl, rfl, ?_⟩
    rw [cut_drop, starts]
    exact q
theorem sc_lp : FnScope ["word", "period"] ["word"] (defScope st_least_period) := ⟨rfl, rfl, rfl, by decide +kernel, rfl, by decide +kernel, by decide +kernel⟩
def spLp : Sp := fun vs H Q _ => ∃ u : List Nat, vs = [.str (S u)] ∧ u.length ≤ 100000 ∧ Low u ∧ u ≠ [] ∧ Q (.int (lp u : Int)) H
theorem ok_lp (B : Bi mg) (D : Df K mg "least_period" st_least_period ["word"]) (C : Cal P w K mg base 4 "check_word" ["value"] spCword) (CH : Cal P w K mg base 1 "_is_had" ["text", "period"] spHad) : FnOk P w K mg base CX0 5 D.f D.fd ["word"] spLp := by
  refine D.F.ok sc_lp (fun vs H Q E h => ?_) (fun cdv A outer s H vs Q E hr h => ?_)
  · obtain ⟨u, rfl, _⟩ := h
    rfl
  · obtain ⟨u, rfl, hl, hw, h0, q⟩ := h
    have hr1 : Room 1 _ := hr.mono (by decide)
    refine ⟨_, pss_cons (ps_expr (pcall C hr (by rfl) (pa_cons (pv 0) pa_nil)))
      (pss_cons (ps_for PassesOwn.never rfl (pi_range2 (by rfl) B.range (pa_cons pe_int (pa_cons (pe_callB call_len_str (by rfl) B.len PySem.boot_len (pa_cons (pv 0) pa_nil)) pa_nil))) (pg_name (i := 1) sc_lp.nd rfl (.inl rfl))
        (pss_one (ps_if (pt_val (pcall CH hr1 (by rfl) (pa_cons (pv 0) (pa_cons (pv 1) pa_nil)))) (pss_one (ps_ret (pv 1))) pss_nil)))
      (pss_one (ps_ret (pe_callB call_len_str (by rfl) B.len PySem.boot_len (pa_cons (pv 0) pa_nil))))), ?_⟩
    have e16 : sizeLine = 16777216 := by decide
    have hs : (S u).length ≤ sizeLine := by rw [S_len]; omega
    have hl0 : 0 < u.length := List.length_pos_iff.mpr h0
    refine ⟨_, rfl, u, rfl, hl, hw, h0, ?_⟩
    refine ⟨_, rfl, S u, rfl, hs, 1, (u.length : Int), by rw [S_len], ⟨by decide, by decide, by omega, by omega⟩, ?_⟩
    refine for_range (lo := 1) (n := ((u.length : Int) - 1).toNat) (fun i σ H2 => H2 = H ∧ ∃ y : Option V, σ = [some (.str (S u)), y] ∧ ∀ j, 0 < j → j ≤ i → had u j = false) ⟨rfl, none, rfl, fun j h1 h2 => by omega⟩ ?_ ?_
    · rintro i σ H2 hi ⟨rfl, y, rfl, hj⟩
      have ei : (1 + (i : Int)) = ((1 + i : Nat) : Int) := by omega
      refine ⟨_, rfl, _, rfl, u, 1 + i, by rw [ei]; rfl, hl, _, rfl, ?_⟩
      cases hb : had u (1 + i) with
      | true =>
        refine iteT ⟨_, rfl, int_q ?_ q⟩
        rw [lp_unique h0 (d := 1 + i) (by omega) (by omega) (fun j h1 h2 => hj j h1 (by omega)) (fun _ => hb)]
        exact ei
      | false =>
        refine iteF ⟨rfl, _, rfl, fun j h1 h2 => ?_⟩
        by_cases e : j = 1 + i
        · rw [e]
          exact hb
        · exact hj j h1 (by omega)
    · rintro σ H2 ⟨rfl, y, rfl, hj⟩
      refine ⟨_, rfl, S u, rfl, hs, int_q ?_ q⟩
      rw [S_len, lp_unique h0 (d := u.length) hl0 (Nat.le_refl _) (fun j h1 h2 => hj j h1 (by omega)) (fun z => absurd z (Nat.lt_irrefl _))]
theorem sc_root : FnScope ["word", "period"] ["word"] (defScope st_root) := ⟨rfl, rfl, rfl, by decide +kernel, rfl, by decide +kernel, by decide +kernel⟩
def rootV (r : List Nat × Nat) : List V := [.str (S r.1), .int (r.2 : Int)]
def spRoot : Sp := fun vs H Q _ => ∃ u : List Nat, vs = [.str (S u)] ∧ u.length ≤ 100000 ∧ Low u ∧ u ≠ [] ∧ ∀ (p : Addr) (H' : Hp), H p = none → Same H H' → H' p = some (.tup (rootV (rootP u))) → Q (.ref p) H'
theorem ok_root (B : Bi mg) (D : Df K mg "root" st_root ["word"]) (C : Cal P w K mg base 4 "check_word" ["value"] spCword) (CL : Cal P w K mg base 5 "least_period" ["word"] spLp) : FnOk P w K mg base CX0 6 D.f D.fd ["word"] spRoot := by
  refine D.F.ok sc_root (fun vs H Q E h => ?_) (fun cdv A outer s H vs Q E hr h => ?_)
  · obtain ⟨u, rfl, _⟩ := h
    rfl
  · obtain ⟨u, rfl, hl, hw, h0, q⟩ := h
    refine ⟨_, pss_cons (ps_expr (pcall C (hr.mono (by decide)) (by rfl) (pa_cons (pv 0) pa_nil)))
      (pss_cons (ps_set (i := 1) sc_root.nd rfl (.inl rfl) (pcall CL hr (by rfl) (pa_cons (pv 0) pa_nil)))
      (pss_cons (ps_if (pt_cmpR op_ne (pe_op op_mod (pe_callB call_len_str (by rfl) B.len PySem.boot_len (pa_cons (pv 0) pa_nil)) (pv 1)) pe_int (nomark _)) (pss_one (ps_ret (pe_tup (pa_cons (pv 0) (pa_cons pe_int pa_nil))))) pss_nil)
      (pss_one (ps_ret (pe_tup (pa_cons (pe_slice sl_str (pv 0) po_none (po_some (pv 1))) (pa_cons (pe_op op_fdiv (pe_callB call_len_str (by rfl) B.len PySem.boot_len (pa_cons (pv 0) pa_nil)) (pv 1)) pa_nil))))))), ?_⟩
    have e16 : sizeLine = 16777216 := by decide
    have hs : (S u).length ≤ sizeLine := by rw [S_len]; omega
    obtain ⟨_, hp1, hp2, _⟩ := lp_spec u h0
    refine ⟨_, rfl, u, rfl, hl, hw, h0, _, rfl, u, rfl, hl, hw, h0, ?_⟩
    refine ⟨_, rfl, S u, rfl, hs, _, rfl, _, _, rfl, rfl, by show (0 : Int) < (lp u : Int); omega, rfl, _, rfl, ?_⟩
    rw [dec_int, S_len]
    by_cases hm : u.length % lp u = 0
    · have em : ((u.length : Int) % (lp u : Int)) = 0 := by omega
      rw [em]
      refine iteF ?_
      have er : rootP u = (u.take (lp u), u.length / lp u) := by
        unfold rootP
        rw [if_neg (by omega)]
      refine ⟨_, rfl, _, rfl, (lp u : Int), rfl, S u, rfl, hs, _, rfl, S u, rfl, hs, _, rfl, _, _, rfl, rfl, ⟨by omega, by omega⟩, by show 2 ≤ sizeLine; decide, fun p hp => ?_⟩
      refine q p _ hp (same_upd hp) ?_
      rw [upd_same, er, cut_take, S_len]
      rfl
    · have em : ((u.length : Int) % (lp u : Int) == 0) = false := by
        rw [beq_eq_false_iff_ne]
        omega
      rw [em]
      refine iteT ?_
      have er : rootP u = (u, 1) := by
        unfold rootP
        rw [if_pos hm]
      refine ⟨_, rfl, by show 2 ≤ sizeLine; decide, fun p hp => ?_⟩
      refine q p _ hp (same_upd hp) ?_
      rw [upd_same, er]
      rfl
/-! ### powers -/
def spPow : Sp := fun vs H Q _ => ∃ (s : Int) (n : Nat), vs = [.int s, .int (n : Int)] ∧ s.natAbs < 2 ^ 100 ∧ n ≤ 1000 ∧ Q (.int (s ^ n)) H
end
end K4
set_option Elab.async false
set_option linter.all false
set_option maxRecDepth 100000
set_option maxHeartbeats 4000000
namespace K4
open PySem PySem.Spec PyProof.Rows L2 K4M
/-! ### lists of letters -/
def letl : List Nat := List.range' 97 26
theorem letS : LET = S letl := by decide +kernel
theorem letl_at {r : Nat} (h : r < 26) : letl[r]? = some (97 + r) := by
  unfold letl
  rw [List.getElem?_range' h]
  congr 1
  omega
theorem letl_mem {c : Nat} : c ∈ letl ↔ 97 ≤ c ∧ c ≤ 122 := by
  unfold letl
  rw [List.mem_range'_1]
  omega
theorem letl_nodup : letl.Nodup := by unfold letl; exact List.nodup_range'
theorem sig_len (w : List Nat) : (signsV w).length = w.length := List.length_map _
theorem sig_at {w : List Nat} {i : Nat} {x : V} (h : (signsV w)[i]? = some x) : ∃ c, w[i]? = some c ∧ x = V.str (S [c]) := by
  unfold signsV at h
  rw [List.getElem?_map] at h
  cases e : w[i]? with
  | none => rw [e] at h; cases h
  | some c => rw [e] at h; exact ⟨c, rfl, (Option.some.inj h).symm⟩
theorem sig_app (u v : List Nat) : signsV (u ++ v) = signsV u ++ signsV v := List.map_append
theorem inV_sig (c : Nat) (w : List Nat) : inV (.str (S [c])) (signsV w) = w.contains c := by
  unfold inV signsV
  rw [List.any_map]
  rw [Bool.eq_iff_iff, List.any_eq_true, List.contains_iff_mem]
  constructor
  · rintro ⟨x, hx, h⟩
    have h2 : (S [x] == S [c]) = true := h
    have := S_inj (eq_of_beq h2)
    injection this with e1 _
    rw [← e1]
    exact hx
  · intro h
    exact ⟨c, h, beq_self_eq_true (S [c])⟩
theorem sig_flat (w : List Nat) : (signsV w).all flatV = true := by
  unfold signsV
  rw [List.all_map, List.all_eq_true]
  intro x _
  rfl
theorem filter_ne {found : List Nat} : ∀ (l : List Nat), l.Nodup → found.length < l.length → ∃ c r, l.filter (fun x => !found.contains x) = c :: r ∧ c ∈ l ∧ ¬ c ∈ found := by
  intro l nd hl
  cases e : l.filter (fun x => !found.contains x) with
  | cons c r =>
    have hm : c ∈ l.filter (fun x => !found.contains x) := by rw [e]; exact List.mem_cons_self ..
    rw [List.mem_filter] at hm
    refine ⟨c, r, rfl, hm.1, fun z => ?_⟩
    have := List.contains_iff_mem.mpr z
    rw [this] at hm
    exact absurd hm.2 Bool.false_ne_true
  | nil =>
    exfalso
    have all : ∀ x ∈ l, x ∈ found := fun x hx => by
      apply Classical.byContradiction
      intro hn
      have : x ∈ l.filter (fun x => !found.contains x) := by
        rw [List.mem_filter]
        refine ⟨hx, ?_⟩
        have : found.contains x = false := by
          rw [Bool.eq_false_iff]
          intro z
          exact hn (List.contains_iff_mem.mp z)
        rw [this]
        rfl
      rw [e] at this
      cases this
    have key : ∀ (l found : List Nat), l.Nodup → (∀ x ∈ l, x ∈ found) → l.length ≤ found.length := by
      intro l
      induction l with
      | nil => intro found _ _; exact Nat.zero_le _
      | cons x r ih =>
        intro found nd h
        rw [List.nodup_cons] at nd
        have hx := h x (List.mem_cons_self ..)
        have h1 := ih (found.erase x) nd.2 fun y hy => by
          have hyx : y ≠ x := fun z => nd.1 (z ▸ hy)
          exact (List.mem_erase_of_ne hyx).mpr (h y (List.mem_cons_of_mem _ hy))
        rw [List.length_erase_of_mem hx] at h1
        have hp : 0 < found.length := List.length_pos_of_mem hx
        rw [List.length_cons]
        omega
    have := key l found nd all
    omega
/-- texts of one sign each, in some order -/
theorem ones_of : ∀ {ys : List Str} {ls : List Nat}, (∀ y ∈ ys, ∃ c ∈ ls, y = S [c]) → ∃ ls' : List Nat, ys = ls'.map (fun c => S [c]) ∧ ∀ c ∈ ls', c ∈ ls
  | [], _, _ => ⟨[], rfl, fun _ h => nomatch h⟩
  | y :: r, ls, h => by
    obtain ⟨c, hc, e⟩ := h y (List.mem_cons_self ..)
    obtain ⟨ls', e', h'⟩ := ones_of (ys := r) (ls := ls) fun z hz => h z (List.mem_cons_of_mem _ hz)
    refine ⟨c :: ls', by rw [e, e']; rfl, fun d hd => ?_⟩
    rcases List.mem_cons.mp hd with rfl | hd
    · exact hc
    · exact h' d hd
theorem join_words (ws : List (List Nat)) : Txt.join Str.empty (ws.map S) = S ws.flatten := by
  show Builtin.Str.glued Str.empty (ws.map S) = _
  rw [StrLaws.glued_eq_join]
  have key : ∀ ws : List (List Nat), Str.join Str.empty (ws.map S) = S ws.flatten := fun ws => by
    induction ws with
    | nil => rfl
    | cons u r ih =>
      cases r with
      | nil =>
        show S u = S (u ++ [])
        rw [List.append_nil]
      | cons v r =>
        show (S u ++ Str.empty) ++ Str.join Str.empty ((v :: r).map S) = _
        rw [ih, S_empty, S_app, S_app, List.append_nil]
        rfl
  exact key ws
theorem flatten_ones (ls : List Nat) : (ls.map fun c => [c]).flatten = ls := by
  induction ls with
  | nil => rfl
  | cons c r ih => rw [List.map_cons, List.flatten_cons, ih]; rfl
theorem join_ones (ls : List Nat) : Txt.join Str.empty (ls.map fun c => S [c]) = S ls := by
  have := join_words (ls.map fun c => [c])
  rw [List.map_map, flatten_ones] at this
  exact this
theorem rising_le : ∀ (ls : List Nat) (p : Nat), risingS (S [p]) (ls.map fun c => S [c]) = true → (p :: ls).Pairwise (· ≤ ·)
  | [], p, _ => by simp
  | x :: r, p, h => by
    have h' : (!ltCps (S [x]).cps.toList (S [p]).cps.toList && risingS (S [x]) (r.map fun c => S [c])) = true := h
    rw [Bool.and_eq_true] at h'
    have ih := rising_le r x h'.2
    have hpx : p ≤ x := by
      have h1 : ltCps [x] [p] = false := by
        have := h'.1
        rw [Bool.not_eq_true'] at this
        exact this
      apply Nat.le_of_not_lt
      intro hlt
      have : ltCps [x] [p] = true := by
        simp [ltCps, hlt]
      rw [this] at h1
      cases h1
    rw [List.pairwise_cons]
    refine ⟨fun y hy => ?_, ih⟩
    rcases List.mem_cons.mp hy with rfl | hy
    · exact hpx
    · exact Nat.le_trans hpx ((List.pairwise_cons.mp ih).1 y hy)
theorem sorted_lt {ls : List Nat} (nd : ls.Nodup) (h : sortedS (ls.map fun c => S [c]) = true) : ls.Pairwise (· < ·) := by
  have hle : ls.Pairwise (· ≤ ·) := by
    cases ls with
    | nil => exact List.Pairwise.nil
    | cons x r => exact rising_le r x h
  have h2 : ls.Pairwise (fun a b => a ≠ b) := nd
  exact (List.Pairwise.and hle h2).imp fun {a b} z => by omega
end K4
set_option Elab.async false
set_option linter.all false
set_option maxRecDepth 100000
set_option maxHeartbeats 4000000
namespace K4
open PySem PySem.Spec PyProof.Rows L2 K4M
section
variable {P : Program} {w : World} {K : PySem.W.Frag} {mg : Str → Option Value} {base : Heap}
theorem Dice.ne {H : Hp} {d p : Addr} {n : Nat} (h : Dice H d n) (hp : H p = none) : p ≠ d := fun z => by
  obtain ⟨o, ho⟩ := h.some
  rw [← z, hp] at ho
  cases ho
/-! ### letters -/
theorem sc_letters : FnScope ["dice", "many", "found", "spin", "late", "sign"] ["dice", "many"] (defScope st__law_letters) := ⟨rfl, rfl, rfl, by decide +kernel, rfl, by decide +kernel, by decide +kernel⟩
def spLetters : Sp := fun vs H Q _ => ∃ (d : Addr) (m n : Nat), vs = [.ref d, .int (m : Int)] ∧ Dice H d n ∧ n < 2 ^ 58 ∧ m ≤ 26 ∧ ∀ (u : List Nat) (H' : Hp), u.length = m → Low u → u.Pairwise (· < ·) → Dice H' d (n + m) → Kept H H' d → Q (.str (S u)) H'
theorem ok_letters (B : Bi mg) (D : Df K mg "_law_letters" st__law_letters ["dice", "many"]) (CD : Cal P w K mg base 2 "_law_draw" ["dice", "many"] spDraw) : FnOk P w K mg base CX0 3 D.f D.fd ["dice", "many"] spLetters := by
  refine D.F.ok sc_letters (fun vs H Q E h => ?_) (fun cdv A outer s' H vs Q E hr h => ?_)
  · obtain ⟨d, m, n, rfl, _⟩ := h
    rfl
  · obtain ⟨d, m, n, rfl, hD, hn, hm, q⟩ := h
    refine ⟨_, pss_cons (ps_set (i := 2) sc_letters.nd rfl (.inr rfl) (pe_lst pa_nil))
      (pss_cons (ps_for PassesOwn.never rfl (pi_range1 (by rfl) B.range (pa_cons (pv 1) pa_nil)) (pg_name (i := 3) sc_letters.nd rfl (.inl rfl))
        (pss_cons (ps_set (i := 4) sc_letters.nd rfl (.inl rfl) (pe_ix ix_str pe_str (pcall CD hr (by rfl) (pa_cons (pv 0) (pa_cons pe_int pa_nil))) (fun _ _ => rfl)))
        (pss_one (ps_expr (pe_bm PySem.F.plainAttrs_list PySem.F.slot_list_append PySem.F.type_list_append mt_append (pv 2) (pa_cons (pe_ifExp (pt_cmpR op_notIn_seq (pv 4) (pv 2) rfl) (pv 4)
          (pe_ix ix_list (pe_lc (own := [("sign", 5)]) (g := gName 5) rfl sc_letters.nd (pi_list (pe_callTy (call_listS rfl) (by rfl) B.list (by decide +kernel) (pa_cons pe_str pa_nil)))
            (blkOk_by (N := ["dice", "many", "found", "spin", "late", "sign"]) (sc := defScope st__law_letters) (by decide +kernel))
            (fun _ _ _ _ _ => pg_name (i := 5) sc_letters.nd rfl (.inl rfl))
            (fun _ _ _ _ _ => pts_one (pt_cmpR (r := rIn K true) op_notIn_seq (pv 5) (pv 2) rfl))
            (fun _ _ _ _ _ => pv 5)) pe_int (fun _ _ => rfl))) pa_nil))))))
      (pss_one (ps_ret (pe_join pe_str (pe_callB cr_sortedS (by rfl) B.sorted (by decide +kernel) (pa_cons (pv 2) pa_nil)))))), ?_⟩
    have e16 : sizeLine = 16777216 := by decide
    refine ⟨Nat.zero_le _, fun F hF => ?_⟩
    have hFd : F ≠ d := hD.ne hF
    refine ⟨_, rfl, (m : Int), rfl, by omega, by omega, ?_⟩
    refine for_range (lo := 0) (n := (m : Int).toNat) (fun i σ H2 => ∃ (ls : List Nat) (y3 y4 : Option V), σ = [some (.ref d), some (.int m), some (.ref F), y3, y4, none] ∧ ls.length = i ∧ Low ls ∧ ls.Nodup ∧ H2 F = some (.lst (signsV ls)) ∧ Dice H2 d (n + i) ∧ ∀ b o, b ≠ d → b ≠ F → H b = some o → H2 b = some o)
      ⟨[], none, none, rfl, rfl, (fun _ h => by cases h), List.nodup_nil, upd_same, Same.dice (same_upd hF) hD, fun b o h1 h2 e => by rw [upd_ne h2]; exact e⟩ ?_ ?_
    · rintro i σ H2 hi ⟨ls, y3, y4, rfl, hl, hlow, hnd, hF2, hD2, kp⟩
      have hi26 : i < 26 := by omega
      refine ⟨_, rfl, d, 26, n + i, rfl, hD2, by omega, by decide, by decide, fun r H3 r0 r1 hD3 k3 => ?_⟩
      have er : r = ((r.toNat : Nat) : Int) := by omega
      have hr26 : r.toNat < 26 := by omega
      refine ⟨LET, r, 97 + r.toNat, rfl, rfl, by rw [letS, S_len]; show 26 ≤ sizeLine; decide, ?_, ?_⟩
      · have z := atI_nat (letl_at hr26)
        rw [← er] at z
        rw [letS]
        exact z
      have hF3 : H3 F = some (.lst (signsV ls)) := k3 _ _ hFd hF2
      have hSF : SqL K H3 F (signsV ls) := .inl (.inl hF3)
      have k3' : ∀ b o, b ≠ d → b ≠ F → H b = some o → H3 b = some o := fun b o h1 h2 e => k3 b o h1 (kp b o h1 h2 e)
      -- behind the choice of a letter c that is not there
      have put : ∀ (c : Nat) (H4 : Hp), 97 ≤ c → c ≤ 122 → ¬ c ∈ ls → Same H3 H4 → ∃ (ls' : List Nat) (y3 y4 : Option V), ([some (.ref d), some (.int m), some (.ref F), some (.int (0 + (i : Int))), some (.str (S [97 + r.toNat])), none] : L2.St) = [some (.ref d), some (.int m), some (.ref F), y3, y4, none] ∧ ls'.length = i + 1 ∧ Low ls' ∧ ls'.Nodup ∧ (upd H4 F (.lst (signsV ls ++ [.str (S [c])]))) F = some (.lst (signsV ls')) ∧ Dice (upd H4 F (.lst (signsV ls ++ [.str (S [c])]))) d (n + (i + 1)) ∧ ∀ b o, b ≠ d → b ≠ F → H b = some o → (upd H4 F (.lst (signsV ls ++ [.str (S [c])]))) b = some o := fun c H4 c1 c2 c3 s4 => by
        refine ⟨ls ++ [c], _, _, rfl, by rw [List.length_append, hl]; rfl, fun x hx => ?_, ?_, by rw [upd_same, sig_app]; rfl, ?_, fun b o h1 h2 e => ?_⟩
        · rcases List.mem_append.mp hx with hx | hx
          · exact hlow x hx
          · rw [List.mem_singleton.mp hx]
            exact ⟨c1, c2⟩
        · rw [List.nodup_append]
          refine ⟨hnd, List.nodup_cons.mpr ⟨List.not_mem_nil, List.nodup_nil⟩, fun x hx y hy => ?_⟩
          rw [List.mem_singleton.mp hy]
          intro z
          exact c3 (z ▸ hx)
        · obtain ⟨a1, a2, a3, a4, e1, r⟩ := Same.dice s4 hD3
          exact ⟨a1, a2, a3, a4, by rw [upd_ne hFd.symm]; exact e1, r⟩
        · rw [upd_ne h2]
          exact s4 _ _ (k3' b o h1 h2 e)
      refine ⟨_, rfl, .inl ⟨rfl, _, hSF⟩, ?_⟩
      refine ⟨_, rfl, _, rfl, F, _, rfl, .inl hSF, rfl, sig_flat _, _, rfl, ?_⟩
      rw [if_pos (show (true : Bool) = true from rfl)]
      show (if (!inV (.str (S [97 + r.toNat])) (signsV ls)) = true then _ else _)
      rw [inV_sig]
      cases hb : ls.contains (97 + r.toNat) with
      | false =>
        refine iteT ⟨_, rfl, F, _, _, rfl, rfl, hF3, by rw [sig_len]; omega, ?_⟩
        refine put _ H3 (by omega) (by omega) (fun z => ?_) (Same.refl _)
        rw [List.contains_iff_mem.mpr z] at hb
        cases hb
      | true =>
        refine iteF ?_
        refine ⟨letl, by rw [← letS], by show 26 ≤ 1000; decide, fun L hL => ?_⟩
        have s4 : Same H3 (upd H3 L (.lst (signsV letl))) := same_upd hL
        refine ⟨L, rfl, ⟨_, .inl (.inl upd_same)⟩, fun DD hD4 => ?_⟩
        have hD3' : H3 DD = none := s4.free hD4
        have hLD : L ≠ DD := fun z => by
          rw [← z, upd_same] at hD4
          cases hD4
        refine lc_list (K := K) (a := L) (xs := signsV letl) (fun j H5 => Same H3 H5 ∧ H5 L = some (.lst (signsV letl)) ∧ H5 DD = some (.lst (signsV ((letl.take j).filter fun x => !ls.contains x))))
          ⟨s4.trans (same_upd hD4), by rw [upd_ne hLD, upd_same], upd_same⟩ (fun j H5 _ z => .inl (.inl z.2.1)) ?_ ?_
        · rintro j x H5 hx ⟨t1, t2, t3⟩
          obtain ⟨c, hc, rfl⟩ := sig_at hx
          refine ⟨rfl, _, rfl, _, rfl, F, _, rfl, .inl (t1.seq hSF), rfl, sig_flat _, _, rfl, ?_⟩
          rw [if_pos (show (true : Bool) = true from rfl)]
          rw [inV_sig]
          refine ?_
          cases hb2 : ls.contains c with
          | false =>
            refine iteT ⟨_, rfl, _, t3, ?_, fun b o e => ?_, ?_, ?_⟩
            · rw [sig_len]
              have h1 := List.length_filter_le (fun x => !ls.contains x) (letl.take j)
              have h2 : (letl.take j).length ≤ 26 := by
                rw [List.length_take]
                show min j 26 ≤ 26
                omega
              omega
            · rw [upd_ne (ne_of_none e hD3')]
              exact t1 b o e
            · rw [upd_ne hLD]
              exact t2
            · rw [upd_same, filter_take hc, hb2]
              unfold signsV
              rw [List.map_append]
              rfl
          | true =>
            refine iteF ⟨t1, t2, ?_⟩
            rw [t3, filter_take hc, hb2]
            simp
        · rintro H5 ⟨t1, t2, t3⟩
          rw [sig_len, List.take_length] at t3
          obtain ⟨c, rr, ec, hcl, hcn⟩ := filter_ne (found := ls) letl letl_nodup (by show ls.length < 26; omega)
          rw [ec] at t3
          refine ⟨DD, _, 0, .str (S [c]), rfl, rfl, .inl (.inl t3), atI_nat (j := 0) rfl, F, _, _, rfl, rfl, t1 _ _ hF3, by rw [sig_len]; omega, ?_⟩
          have hcb := letl_mem.mp hcl
          exact put c H5 hcb.1 hcb.2 hcn t1
    · rintro σ H2 ⟨ls, y3, y4, rfl, hl, hlow, hnd, hF2, hD2, kp⟩
      have em : (m : Int).toNat = m := by omega
      rw [em] at hl hD2
      have e1 : signsV ls = (ls.map fun c => S [c]).map V.str := by
        unfold signsV
        rw [List.map_map]
        rfl
      refine ⟨⟨_, rfl⟩, _, rfl, F, ls.map (fun c => S [c]), rfl, .inl (.inl (by rw [hF2, e1])), by rw [List.length_map]; omega, fun ys p hperm hsort hp => ?_⟩
      obtain ⟨ls', e2, hsub⟩ := ones_of (ys := ys) (ls := ls) fun y hy => by
        obtain ⟨c, hc, e⟩ := List.mem_map.mp (hperm.mem_iff.mp hy)
        exact ⟨c, hc, e.symm⟩
      have hlen : ls'.length = ls.length := by
        have := hperm.length_eq
        rw [e2, List.length_map, List.length_map] at this
        exact this
      have hnd' : ls'.Nodup := by
        have h1 : (ls.map fun c => S [c]).Nodup := by
          rw [List.nodup_iff_pairwise_ne, List.pairwise_map]
          exact hnd.imp fun {a b} h z => h (by have := S_inj z; injection this)
        have h2 : ys.Nodup := hperm.nodup_iff.mpr h1
        rw [e2] at h2
        rw [List.nodup_iff_pairwise_ne, List.pairwise_map] at h2
        exact h2.imp fun {a b} h z => h (by rw [z])
      rw [e2] at hsort
      refine ⟨Str.empty, p, ys, rfl, rfl, .inl (.inl (.inl upd_same)), ?_, ?_⟩
      · rw [e2, List.map_map, List.length_map]
        have : (ls'.map ((fun x => x.length) ∘ fun c => S [c])).sum = ls'.length := by
          clear e2 hlen hnd' hsort hsub
          induction ls' with
          | nil => rfl
          | cons a r ih => rw [List.map_cons, List.sum_cons, ih, List.length_cons]; show 1 + _ = _; omega
        rw [this]
        show ls'.length + ls'.length * 0 ≤ 16777216
        omega
      · rw [e2, join_ones]
        refine q ls' _ (by omega) (fun c hc => hlow c (hsub c hc)) (sorted_lt hnd' hsort) (Same.dice (same_upd hp) hD2) fun b o hb e => ?_
        have hbF : b ≠ F := ne_of_none e hF
        rw [upd_ne (ne_of_none (kp b o hb hbF e) hp)]
        exact kp b o hb hbF e
end
end K4
set_option Elab.async false
set_option linter.all false
set_option maxRecDepth 100000
set_option maxHeartbeats 4000000
namespace K4
open PySem PySem.Spec PyProof.Rows L2 K4M
/-! ### grounds -/
def tabG : List (Nat × Nat) := [(2, 2), (3, 2), (2, 3), (4, 2), (5, 2), (2, 4), (3, 3)]
def tabM : List Nat := [2, 6, 12, 12, 20, 54, 72]
/-- what a ground of the law's may be, of so many own windows at most -/
def Good (most : Int) (g : Nat × Nat) : Prop := ∃ (j : Nat) (m : Nat), tabG[j]? = some g ∧ tabM[j]? = some m ∧ (m : Int) ≤ most
theorem Good.mem {most : Int} {g : Nat × Nat} (h : Good most g) : g ∈ tabG := by
  obtain ⟨j, m, h1, _⟩ := h
  exact List.mem_of_getElem? h1
theorem abcdefgh : Str.ofString "abcdefgh" = S (List.range' 97 8) := by decide +kernel
theorem pair_lt {k : Nat} (hk : k ≤ 8) : ((List.range' 97 8).take k).length = k ∧ Low ((List.range' 97 8).take k) ∧ ((List.range' 97 8).take k).Pairwise (· < ·) := by
  refine ⟨by rw [List.length_take, List.length_range']; omega, fun c hc => ?_, ?_⟩
  · have := List.mem_of_mem_take hc
    rw [List.mem_range'_1] at this
    omega
  · exact List.Pairwise.take (List.pairwise_lt_range')
section
variable {P : Program} {w : World} {K : PySem.W.Frag} {mg : Str → Option Value} {base : Heap}
theorem sc_ground : FnScope ["dice", "most", "some", "many", "signs", "gap", "at"] ["dice", "most"] (defScope st__law_ground) := ⟨rfl, rfl, rfl, by decide +kernel, rfl, by decide +kernel, by decide +kernel⟩
def spGround : Sp := fun vs H Q _ => ∃ (d : Addr) (most : Int) (n : Nat), vs = [.ref d, .int most] ∧ Dice H d n ∧ n < 2 ^ 57 ∧ 2 ≤ most ∧ ∀ (p : Addr) (H' : Hp) (u : List Nat) (g : Nat), H p = none → Kept H H' d → H' p = some (.tup [.str (S u), .int (g : Int)]) → Low u → u.Pairwise (· < ·) → Good most (u.length, g) → Dice H' d (n + 10) → Q (.ref p) H'
theorem ok_ground (B : Bi mg) (D : Df K mg "_law_ground" st__law_ground ["dice", "most"]) (CD : Cal P w K mg base 2 "_law_draw" ["dice", "many"] spDraw) (CO : Cal P w K mg base 3 "_law_one_of" ["dice", "some"] (spOne K)) (CL : Cal P w K mg base 3 "_law_letters" ["dice", "many"] spLetters) :
    FnOk P w K mg base CX0 4 D.f D.fd ["dice", "most"] spGround := by
  refine D.F.ok sc_ground (fun vs H Q E h => ?_) (fun cdv A outer s' H vs Q E hr h => ?_)
  · obtain ⟨d, m, n, rfl, _⟩ := h
    rfl
  · obtain ⟨d, most, n, rfl, hD, hn, hm, q⟩ := h
    have r2 : Room 2 _ := hr.mono (by decide)
    refine ⟨_, pss_cons (ps_set (i := 2) sc_ground.nd rfl (.inr rfl) (pe_lst (pa_cons (pe_tup (pa_cons pe_int (pa_cons pe_int pa_nil))) (pa_cons (pe_tup (pa_cons pe_int (pa_cons pe_int pa_nil))) (pa_cons (pe_tup (pa_cons pe_int (pa_cons pe_int pa_nil))) (pa_cons (pe_tup (pa_cons pe_int (pa_cons pe_int pa_nil))) (pa_cons (pe_tup (pa_cons pe_int (pa_cons pe_int pa_nil))) (pa_cons (pe_tup (pa_cons pe_int (pa_cons pe_int pa_nil))) (pa_cons (pe_tup (pa_cons pe_int (pa_cons pe_int pa_nil))) pa_nil)))))))))
      (pss_cons (ps_set (i := 3) sc_ground.nd rfl (.inr rfl) (pe_lst (pa_cons pe_int (pa_cons pe_int (pa_cons pe_int (pa_cons pe_int (pa_cons pe_int (pa_cons pe_int (pa_cons pe_int pa_nil)))))))))
      (pss_cons (ps_asg (pcall CO hr (by rfl) (pa_cons (pv 0) (pa_cons (pe_lc (own := [("at", 6)]) (g := gName 6) rfl sc_ground.nd (pi_range1 rfl B.range (pa_cons pe_int pa_nil))
          (blkOk_by (N := ["dice", "most", "some", "many", "signs", "gap", "at"]) (sc := defScope st__law_ground) (by decide +kernel))
          (fun _ _ _ _ _ => pg_name (i := 6) sc_ground.nd rfl (.inl rfl))
          (fun _ _ _ _ _ => pts_one (pt_cmpR op_le (pe_ix (r := rIxL K) ix_list (pv 3) (pv 6) (fun _ _ => rfl)) (pv 1) (nomark _)))
          (fun _ _ _ _ _ => pe_ix (r := rIxL K) ix_list (pv 2) (pv 6) (fun _ _ => rfl))) pa_nil)))
        (pg_tup rfl (pgs_cons (pg_name (i := 4) sc_ground.nd rfl (.inl rfl)) (pgs_cons (pg_name (i := 5) sc_ground.nd rfl (.inl rfl)) pgs_nil))))
      (pss_one (ps_ret (pe_tup (pa_cons (pe_ifExp (pt_cmpR op_eq (pcall CD r2 (by rfl) (pa_cons (pv 0) (pa_cons pe_int pa_nil))) pe_int (nomark _)) (pcall CL hr (by rfl) (pa_cons (pv 0) (pa_cons (pv 4) pa_nil))) (pe_slice sl_str pe_str po_none (po_some (pv 4)))) (pa_cons (pv 5) pa_nil))))))), ?_⟩
    have e16 : sizeLine = 16777216 := by decide
    have two : 2 ≤ sizeLine := by show 2 ≤ sizeLine; decide
    refine ⟨two, fun p0 h0 => ⟨two, fun p1 h1 => ⟨two, fun p2 h2 => ⟨two, fun p3 h3 => ⟨two, fun p4 h4 => ⟨two, fun p5 h5 => ⟨two, fun p6 h6 => ⟨by show 7 ≤ sizeLine; decide, fun L hL => ?_⟩⟩⟩⟩⟩⟩⟩⟩
    have s0 := same_upd (o := .tup [V.int 2, V.int 2]) h0
    have s1 := same_upd (o := .tup [V.int 3, V.int 2]) h1
    have s2 := same_upd (o := .tup [V.int 2, V.int 3]) h2
    have s3 := same_upd (o := .tup [V.int 4, V.int 2]) h3
    have s4 := same_upd (o := .tup [V.int 5, V.int 2]) h4
    have s5 := same_upd (o := .tup [V.int 2, V.int 4]) h5
    have s6 := same_upd (o := .tup [V.int 3, V.int 3]) h6
    have s7 := same_upd (o := .lst [V.ref p0, V.ref p1, V.ref p2, V.ref p3, V.ref p4, V.ref p5, V.ref p6]) hL
    refine ⟨by show 7 ≤ sizeLine; decide, fun M hM => ?_⟩
    have s8 := same_upd (o := .lst [V.int 2, V.int 6, V.int 12, V.int 12, V.int 20, V.int 54, V.int 72]) hM
    have t0 := s1.trans (s2.trans (s3.trans (s4.trans (s5.trans (s6.trans (s7.trans s8)))))) _ _ (upd_same (H := H) (a := p0) (o := .tup [V.int 2, V.int 2]))
    have t1 := (s2.trans (s3.trans (s4.trans (s5.trans (s6.trans (s7.trans s8)))))) p1 _ upd_same
    have t2 := (s3.trans (s4.trans (s5.trans (s6.trans (s7.trans s8))))) p2 _ upd_same
    have t3 := (s4.trans (s5.trans (s6.trans (s7.trans s8)))) p3 _ upd_same
    have t4 := (s5.trans (s6.trans (s7.trans s8))) p4 _ upd_same
    have t5 := (s6.trans (s7.trans s8)) p5 _ upd_same
    have t6 := (s7.trans s8) p6 _ upd_same
    have tL := s8 L _ upd_same
    have sA := s0.trans (s1.trans (s2.trans (s3.trans (s4.trans (s5.trans (s6.trans (s7.trans s8)))))))
    have tM : (upd (upd (upd (upd (upd (upd (upd (upd (upd H p0 (.tup [V.int 2, V.int 2])) p1 (.tup [V.int 3, V.int 2])) p2 (.tup [V.int 2, V.int 3])) p3 (.tup [V.int 4, V.int 2])) p4 (.tup [V.int 5, V.int 2])) p5 (.tup [V.int 2, V.int 4])) p6 (.tup [V.int 3, V.int 3])) L (.lst [V.ref p0, V.ref p1, V.ref p2, V.ref p3, V.ref p4, V.ref p5, V.ref p6])) M (.lst [V.int 2, V.int 6, V.int 12, V.int 12, V.int 20, V.int 54, V.int 72])) M = some (.lst [V.int 2, V.int 6, V.int 12, V.int 12, V.int 20, V.int 54, V.int 72]) := upd_same
    revert t0 t1 t2 t3 t4 t5 t6 tL tM sA
    generalize (upd (upd (upd (upd (upd (upd (upd (upd (upd H p0 (.tup [V.int 2, V.int 2])) p1 (.tup [V.int 3, V.int 2])) p2 (.tup [V.int 2, V.int 3])) p3 (.tup [V.int 4, V.int 2])) p4 (.tup [V.int 5, V.int 2])) p5 (.tup [V.int 2, V.int 4])) p6 (.tup [V.int 3, V.int 3])) L (.lst [V.ref p0, V.ref p1, V.ref p2, V.ref p3, V.ref p4, V.ref p5, V.ref p6])) M (.lst [V.int 2, V.int 6, V.int 12, V.int 12, V.int 20, V.int 54, V.int 72])) = H1
    intro t0 t1 t2 t3 t4 t5 t6 tL sA tM
    clear s0 s1 s2 s3 s4 s5 s6 s7 s8
    have hps : ∀ (j : Nat) (x : V), [V.ref p0, V.ref p1, V.ref p2, V.ref p3, V.ref p4, V.ref p5, V.ref p6][j]? = some x → ∃ (p : Addr) (g : Nat × Nat), x = .ref p ∧ tabG[j]? = some g ∧ H1 p = some (.tup [.int (g.1 : Int), .int (g.2 : Int)]) := fun j x hj => by
      match j, hj with
      | 0, hj => cases hj; exact ⟨p0, _, rfl, rfl, t0⟩
      | 1, hj => cases hj; exact ⟨p1, _, rfl, rfl, t1⟩
      | 2, hj => cases hj; exact ⟨p2, _, rfl, rfl, t2⟩
      | 3, hj => cases hj; exact ⟨p3, _, rfl, rfl, t3⟩
      | 4, hj => cases hj; exact ⟨p4, _, rfl, rfl, t4⟩
      | 5, hj => cases hj; exact ⟨p5, _, rfl, rfl, t5⟩
      | 6, hj => cases hj; exact ⟨p6, _, rfl, rfl, t6⟩
      | j + 7, hj => cases hj
    have hms : ∀ (j : Nat), j < 7 → ∃ m : Nat, [V.int 2, V.int 6, V.int 12, V.int 12, V.int 20, V.int 54, V.int 72][j]? = some (.int (m : Int)) ∧ tabM[j]? = some m ∧ (j = 0 → m = 2) := fun j hj => by
      match j, hj with
      | 0, _ => exact ⟨2, rfl, rfl, fun _ => rfl⟩
      | 1, _ => exact ⟨6, rfl, rfl, fun z => nomatch z⟩
      | 2, _ => exact ⟨12, rfl, rfl, fun z => nomatch z⟩
      | 3, _ => exact ⟨12, rfl, rfl, fun z => nomatch z⟩
      | 4, _ => exact ⟨20, rfl, rfl, fun z => nomatch z⟩
      | 5, _ => exact ⟨54, rfl, rfl, fun z => nomatch z⟩
      | 6, _ => exact ⟨72, rfl, rfl, fun z => nomatch z⟩
    generalize hpl : [V.ref p0, V.ref p1, V.ref p2, V.ref p3, V.ref p4, V.ref p5, V.ref p6] = pl at tL hps
    have hpl7 : pl.length = 7 := by rw [← hpl]; rfl
    generalize [V.int 2, V.int 6, V.int 12, V.int 12, V.int 20, V.int 54, V.int 72] = ml at tM hms
    refine ⟨_, rfl, 7, rfl, by decide, by decide, fun DD hD4 => ?_⟩
    have hDh : H DD = none := sA.free hD4
    refine lc_range (lo := 0) (n := (7 : Int).toNat) (fun i H3 => ∃ xs : List V, Same H1 H3 ∧ H3 DD = some (.lst xs) ∧ xs.length ≤ i ∧ (0 < i → 0 < xs.length) ∧ ∀ x ∈ xs, ∃ (p : Addr) (g : Nat × Nat), x = .ref p ∧ Good most g ∧ H1 p = some (.tup [.int (g.1 : Int), .int (g.2 : Int)]))
      ⟨[], same_upd hD4, upd_same, Nat.le_refl _, (fun h => absurd h (Nat.lt_irrefl _)), (fun _ h => by cases h)⟩ ?_ ?_
    · rintro i H3 hi ⟨xs, u1, u2, u3, u4, u5⟩
      have hi7 : i < 7 := hi
      obtain ⟨m, em, em2, em3⟩ := hms i hi7
      have hpi : i < pl.length := by omega
      obtain ⟨p, g, ep, eg, hp⟩ := hps i _ (List.getElem?_eq_getElem hpi)
      have ei : (0 + (i : Int)) = (i : Int) := by omega
      have ea : atI ml (0 + (i : Int)) = some (.int (m : Int)) := by rw [ei]; exact atI_nat em
      have eb : atI pl (0 + (i : Int)) = some (.ref p) := by rw [ei, ← ep]; exact atI_nat (List.getElem?_eq_getElem hpi)
      refine ⟨rfl, _, rfl, _, rfl, M, ml, _, _, rfl, rfl, .inl (.inl (u1 _ _ tM)), ea, _, rfl, _, _, rfl, rfl, _, rfl, ?_⟩
      by_cases hle : (m : Int) ≤ most
      · rw [decide_eq_true hle]
        refine iteT ⟨_, rfl, _, rfl, L, pl, _, _, rfl, rfl, .inl (.inl (u1 _ _ tL)), eb, xs, u2, by omega, xs ++ [.ref p], fun b o e => ?_, upd_same, by rw [List.length_append]; show xs.length + 1 ≤ i + 1; omega, fun _ => by rw [List.length_append]; show 0 < xs.length + 1; omega, fun x hx => ?_⟩
        · rw [upd_ne (ne_of_none e hD4)]
          exact u1 b o e
        · rcases List.mem_append.mp hx with hx | hx
          · exact u5 x hx
          · rw [List.mem_singleton.mp hx]
            exact ⟨p, g, rfl, ⟨i, m, eg, em2, hle⟩, hp⟩
      · rw [decide_eq_false hle]
        refine iteF ⟨xs, u1, u2, by omega, fun _ => u4 ?_, u5⟩
        rcases Nat.eq_zero_or_pos i with z | z
        · have := em3 z
          omega
        · exact z
    · rintro H3 ⟨xs, u1, u2, u3, u4, u5⟩
      have hD3 : Dice H3 d n := Same.dice (sA.trans u1) hD
      have hDd : DD ≠ d := hD.ne hDh
      have l7 : xs.length ≤ 7 := u3
      refine ⟨d, DD, n, xs, rfl, hD3, by omega, hDd, .inl (.inl u2), u4 (by decide), by omega, fun m x H4 hx hD4' k4 => ?_⟩
      obtain ⟨p, g, rfl, hg, hp⟩ := u5 x (List.mem_of_getElem? hx)
      have hgm := hg.mem
      have hg5 : 2 ≤ g.1 ∧ g.1 ≤ 5 := by
        have all : ∀ g ∈ tabG, 2 ≤ g.1 ∧ g.1 ≤ 5 := by decide
        exact all g hgm
      have kA : Kept H H4 d := (Kept.of (sA.trans u1)).trans k4
      have hpd : p ≠ d := fun z => by
        obtain ⟨a1, a2, a3, a4, e, _⟩ := Same.dice sA hD
        rw [← z, hp] at e
        cases e
      have hp4 : H4 p = some (.tup [.int (g.1 : Int), .int (g.2 : Int)]) := k4 _ _ hpd (u1 _ _ hp)
      refine ⟨p, _, rfl, .inl (.inl hp4), rfl, _, _, rfl, _, _, rfl, rfl, ?_⟩
      refine ⟨_, rfl, d, 2, n + 1, rfl, hD4', by omega, by decide, by decide, fun r H5 r0 r1 hD5 k5 => ⟨rfl, _, rfl, ?_⟩⟩
      refine ite2 (fun _ => ?_) (fun _ => ?_)
      · refine ⟨_, rfl, _, rfl, d, g.1, n + 2, rfl, hD5, by omega, by omega, fun u H6 hu1 hu2 hu3 hD6 k6 => ?_⟩
        refine ⟨_, rfl, two, fun p7 hp7 => ?_⟩
        have hk : Kept H (upd H6 p7 (.tup [.str (S u), .int (g.2 : Int)])) d := kA.trans (k5.trans (k6.trans (Kept.of (same_upd hp7))))
        have hp7n : H p7 = none := by
          cases e : H p7 with
          | none => rfl
          | some o =>
            have := (kA.trans (k5.trans k6)) p7 o (hD6.ne hp7) e
            rw [hp7] at this
            cases this
        refine q p7 _ u g.2 hp7n hk upd_same hu2 hu3 (by rw [hu1]; exact hg) ((Same.dice (same_upd hp7) hD6).more (by omega))
      · refine ⟨_, rfl, (g.1 : Int), rfl, Str.ofString "abcdefgh", rfl, by rw [abcdefgh, S_len]; show 8 ≤ sizeLine; decide, _, rfl, two, fun p7 hp7 => ?_⟩
        obtain ⟨v1, v2, v3⟩ := pair_lt (k := g.1) (by omega)
        have hp7n : H p7 = none := by
          cases e : H p7 with
          | none => rfl
          | some o =>
            have := (kA.trans k5) p7 o (hD5.ne hp7) e
            rw [hp7] at this
            cases this
        refine q p7 _ ((List.range' 97 8).take g.1) g.2 hp7n (kA.trans (k5.trans (Kept.of (same_upd hp7)))) ?_ v2 v3 (by rw [v1]; exact hg) ((Same.dice (same_upd hp7) hD5).more (by omega))
        rw [upd_same, abcdefgh, cut_take]
end
end K4
set_option Elab.async false
set_option linter.all false
set_option maxRecDepth 100000
set_option maxHeartbeats 4000000
namespace K4
open PySem PySem.Spec PyProof.Rows L2 K4M
theorem rep_mem {u : List Nat} {c : Nat} : ∀ {k : Nat}, c ∈ rep u k → c ∈ u
  | 0, h => by simp [rep] at h
  | k + 1, h => by
    rw [rep_succ] at h
    rcases List.mem_append.mp h with h | h
    · exact h
    · exact rep_mem h
/-- the words that are told of: signs w, of which the join is S w -/
theorem sig_strs (w : List Nat) : signsV w = (w.map fun c => S [c]).map V.str := by
  unfold signsV
  rw [List.map_map]
  rfl
theorem ones_sum (w : List Nat) : ((w.map fun c => S [c]).map fun x => x.length).sum = w.length := by
  induction w with
  | nil => rfl
  | cons a r ih =>
    rw [List.map_cons, List.map_cons, List.sum_cons, ih, List.length_cons]
    show 1 + _ = _
    omega
section
variable {P : Program} {w : World} {K : PySem.W.Frag} {mg : Str → Option Value} {base : Heap}
theorem sc_text0 : FnScope ["dice", "ground", "most", "signs", "found", "size", "way", "word", "spin"] ["dice", "ground", "most"] (defScope st__law_text) := ⟨rfl, rfl, rfl, by decide +kernel, rfl, by decide +kernel, by decide +kernel⟩
def spText0 (K : PySem.W.Frag) : Sp := fun vs H Q _ => ∃ (d g : Addr) (u : List Nat) (gap most n : Nat), vs = [.ref d, .ref g, .int (most : Int)] ∧ Dice H d n ∧ n < 2 ^ 50 ∧ g ≠ d ∧ H g = some (.tup [.str (S u), .int (gap : Int)]) ∧ u ≠ [] ∧ u.length ≤ 100 ∧ 1 ≤ gap ∧ gap ≤ 100 ∧ most ≤ 1000 ∧
  ∀ (x : List Nat) (H' : Hp), x.length ≤ most → (∀ c ∈ x, c ∈ u) → Dice H' d (n + 200 * (most + 1)) → Kept H H' d → Q (.str (S x)) H'
/-- the list of drawn signs that a comprehension makes -/
theorem drawn_turn {H0 H3 : Hp} {DD d sg : Addr} {u x : List Nat} {n i : Nat} (hD0 : H0 DD = none) (hsg : sg ≠ d) (hu : u ≠ []) (hul : u.length ≤ 100) (hi : i ≤ 1000) (hn : n < 2 ^ 51) (hxl : x.length = i) (hx : ∀ c ∈ x, c ∈ u) (hDD : H3 DD = some (.lst (signsV x))) (hD : Dice H3 d (n + i)) (hDd : DD ≠ d)
    (hs : H3 sg = some (.lst (signsV u))) (kp : ∀ b o, b ≠ d → H0 b = some o → H3 b = some o) (σ : L2.St) :
    spOne K [.ref d, .ref sg] H3 (fun y H4 => ∃ acc, H4 DD = some (.lst acc) ∧ acc.length < sizeLine ∧ ∃ x' : List Nat, x'.length = i + 1 ∧ (∀ c ∈ x', c ∈ u) ∧ (upd H4 DD (.lst (acc ++ [y]))) DD = some (.lst (signsV x')) ∧ Dice (upd H4 DD (.lst (acc ++ [y]))) d (n + (i + 1)) ∧ (∀ b o, b ≠ d → H0 b = some o → (upd H4 DD (.lst (acc ++ [y]))) b = some o)) E0 := by
  have e16 : sizeLine = 16777216 := by decide
  have hul0 : 0 < u.length := List.length_pos_iff.mpr hu
  refine ⟨d, sg, n + i, signsV u, rfl, hD, by omega, hsg, .inl (.inl hs), by rw [sig_len]; exact hul0, by rw [sig_len]; omega, fun m y H4 hm hD4 k4 => ?_⟩
  obtain ⟨c, hc, rfl⟩ := sig_at hm
  refine ⟨_, k4 _ _ hDd hDD, by rw [sig_len]; omega, x ++ [c], by rw [List.length_append, hxl]; rfl, fun z hz => ?_, by rw [upd_same, sig_app]; rfl, ?_, fun b o hb e => ?_⟩
  · rcases List.mem_append.mp hz with hz | hz
    · exact hx z hz
    · rw [List.mem_singleton.mp hz]
      exact List.mem_of_getElem? hc
  · obtain ⟨a1, a2, a3, a4, e1, r⟩ := hD4
    exact ⟨a1, a2, a3, a4, by rw [upd_ne hDd.symm]; exact e1, r⟩
  · rw [upd_ne (ne_of_none e hD0)]
    exact k4 b o hb (kp b o hb e)
theorem ok_text0 (B : Bi mg) (D : Df K mg "_law_text" st__law_text ["dice", "ground", "most"]) (CD : Cal P w K mg base 2 "_law_draw" ["dice", "many"] spDraw) (CO : Cal P w K mg base 3 "_law_one_of" ["dice", "some"] (spOne K)) : FnOk P w K mg base CX0 4 D.f D.fd ["dice", "ground", "most"] (spText0 K) := by
  refine D.F.ok sc_text0 (fun vs H Q E h => ?_) (fun cdv A outer s' H vs Q E hr h => ?_)
  · obtain ⟨d, g, u, gap, most, n, rfl, _⟩ := h
    rfl
  · obtain ⟨d, g, u, gap, most, n, rfl, hD, hn, hgd, hg, hu, hul, hg1, hg2, hmost, q⟩ := h
    have r2 : Room 2 _ := hr.mono (by decide)
    refine ⟨_, (pss_cons (ps_asg (pe_tup (pa_cons (pe_callTy (call_listS rfl) (by rfl) B.list (by decide +kernel) (pa_cons (pe_ix (r := rIxT K) ix_tup (pv 1) pe_int (fun _ _ => rfl)) pa_nil)) (pa_cons pe_str pa_nil))) (pg_tup rfl (pgs_cons (pg_name (i := 3) sc_text0.nd rfl (.inr rfl)) (pgs_cons (pg_name (i := 4) sc_text0.nd rfl (.inl rfl)) pgs_nil)))) (pss_cons (ps_set (i := 5) sc_text0.nd rfl (.inl rfl) (pcall CD r2 (by rfl) (pa_cons (pv 0) (pa_cons (pe_op op_add (pv 2) pe_int) pa_nil)))) (pss_cons (ps_while PassesOwn.never (pt_cmpR op_lt (pe_callB call_len_str (by rfl) B.len PySem.boot_len (pa_cons (pv 4) pa_nil)) (pv 5) (nomark _)) (pss_cons (ps_set (i := 6) sc_text0.nd rfl (.inl rfl) (pcall CD r2 (by rfl) (pa_cons (pv 0) (pa_cons pe_int pa_nil)))) (pss_one (ps_if (pt_cmpR op_eq (pv 6) pe_int (nomark _)) (pss_cons (ps_set (i := 7) sc_text0.nd rfl (.inl rfl) (pe_join pe_str (pe_lc (own := [("spin", 8)]) (g := (gName 8)) (tt := tYes) rfl sc_text0.nd (pi_range1 (by rfl) B.range (pa_cons (pe_op op_add pe_int (pcall CD r2 (by rfl) (pa_cons (pv 0) (pa_cons (pe_ix (r := rIxT K) ix_tup (pv 1) pe_int (fun _ _ => rfl)) pa_nil)))) pa_nil)) (blkOk_by (N := ["dice", "ground", "most", "signs", "found", "size", "way", "word", "spin"]) (sc := defScope st__law_text) (by decide +kernel)) (fun _ _ _ _ _ => (pg_name (i := 8) sc_text0.nd rfl (.inl rfl))) (fun _ _ _ _ _ => pts_nil) (fun _ _ _ _ _ => (pcall CO hr (by rfl) (pa_cons (pv 0) (pa_cons (pv 3) pa_nil))))))) (pss_one (ps_set (i := 4) sc_text0.nd rfl (.inl rfl) (pe_op op_add_str (pv 4) (pe_op op_mulS (pv 7) (pe_op op_add pe_int (pcall CD r2 (by rfl) (pa_cons (pv 0) (pa_cons pe_int pa_nil))))))))) (pss_one (ps_if (pt_cmpR op_eq (pv 6) pe_int (nomark _)) (pss_one (ps_set (i := 4) sc_text0.nd rfl (.inl rfl) (pe_op op_add_str (pv 4) (pe_op op_mulS (pe_ix (r := rIxL K) ix_list (pv 3) pe_int (fun _ _ => rfl)) (pe_op op_add pe_int (pcall CD r2 (by rfl) (pa_cons (pv 0) (pa_cons pe_int pa_nil)))))))) (pss_one (ps_set (i := 4) sc_text0.nd rfl (.inl rfl) (pe_op op_add_str (pv 4) (pe_join pe_str (pe_lc (own := [("spin", 8)]) (g := (gName 8)) (tt := tYes) rfl sc_text0.nd (pi_range1 (by rfl) B.range (pa_cons (pe_op op_add pe_int (pcall CD r2 (by rfl) (pa_cons (pv 0) (pa_cons pe_int pa_nil)))) pa_nil)) (blkOk_by (N := ["dice", "ground", "most", "signs", "found", "size", "way", "word", "spin"]) (sc := defScope st__law_text) (by decide +kernel)) (fun _ _ _ _ _ => (pg_name (i := 8) sc_text0.nd rfl (.inl rfl))) (fun _ _ _ _ _ => pts_nil) (fun _ _ _ _ _ => (pcall CO hr (by rfl) (pa_cons (pv 0) (pa_cons (pv 3) pa_nil))))))))))))))) (pss_one (ps_ret (pe_slice sl_str (pv 4) po_none (po_some (pv 5)))))))), ?_⟩
    have e16 : sizeLine = 16777216 := by decide
    have hul0 : 0 < u.length := List.length_pos_iff.mpr hu
    have hT : SqT K H g [.str (S u), .int (gap : Int)] := .inl (.inl hg)
    refine ⟨_, rfl, g, _, 0, _, rfl, rfl, hT, atI_nat (j := 0) rfl, u, rfl, by omega, fun L hL => ?_⟩
    have sL := same_upd (o := .lst (signsV u)) hL
    refine ⟨by show 2 ≤ sizeLine; decide, fun T0 hT0 => ?_⟩
    have sT0 := same_upd (o := .tup [V.ref L, V.str (Str.ofString "")]) hT0
    refine ⟨T0, _, rfl, .inl (.inl upd_same), rfl, _, _, rfl, _, _, rfl, rfl, ?_⟩
    have s1 : Same H (upd (upd H L (.lst (signsV u))) T0 (.tup [V.ref L, V.str (Str.ofString "")])) := sL.trans sT0
    have hLs : (upd (upd H L (.lst (signsV u))) T0 (.tup [V.ref L, V.str (Str.ofString "")])) L = some (.lst (signsV u)) := sT0 _ _ upd_same
    revert s1 hLs
    generalize (upd (upd H L (.lst (signsV u))) T0 (.tup [V.ref L, V.str (Str.ofString "")])) = H1
    intro s1 hLs
    have hLd : L ≠ d := hD.ne hL
    refine ⟨_, rfl, _, rfl, _, _, rfl, rfl, d, (most : Int) + 1, n, rfl, Same.dice s1 hD, by omega, by omega, by omega, fun sz H2 z0 z1 hD2 k2 => ?_⟩
    obtain ⟨size, rfl⟩ : ∃ size : Nat, sz = (size : Int) := ⟨sz.toNat, by omega⟩
    have hsz : size ≤ most := by omega
    have kH : ∀ b o, b ≠ d → H b = some o → H2 b = some o := fun b o hb e => k2 b o hb (s1 b o e)
    refine ⟨fun m σ H3 => ∃ (x : List Nat) (k : Nat) (y6 y7 : Option V), m = size - x.length ∧ σ = [some (.ref d), some (.ref g), some (.int (most : Int)), some (.ref L), some (.str (S x)), some (.int (size : Int)), y6, y7, none] ∧ x.length ≤ 2000 ∧ (∀ c ∈ x, c ∈ u) ∧ k ≤ x.length ∧ k ≤ size ∧ Dice H3 d (n + 1 + 150 * k) ∧ Kept H2 H3 d,
      ⟨size - 0, [], 0, none, none, rfl, rfl, Nat.zero_le _, (fun _ h => by cases h), Nat.zero_le _, Nat.zero_le _, hD2, fun _ _ _ e => e⟩, fun m σ H3 hW => ?_⟩
    obtain ⟨x, k, y6, y7, rfl, rfl, hxl, hxu, hkx, hks, hD3, k3⟩ := hW
    have hsx : (S x).length ≤ sizeLine := by rw [S_len]; omega
    refine ⟨_, rfl, S x, rfl, hsx, _, rfl, _, _, rfl, rfl, _, rfl, ?_⟩
    rw [S_len]
    have kH3 : ∀ b o, b ≠ d → H b = some o → H3 b = some o := fun b o hb e => k3 b o hb (kH b o hb e)
    by_cases hlt : x.length < size
    · rw [decide_eq_true (show (x.length : Int) < (size : Int) by omega)]
      refine iteT ⟨fun σ' H' => ∃ m', m' < size - x.length ∧ ∃ (x : List Nat) (k : Nat) (y6 y7 : Option V), m' = size - x.length ∧ σ' = [some (.ref d), some (.ref g), some (.int (most : Int)), some (.ref L), some (.str (S x)), some (.int (size : Int)), y6, y7, none] ∧ x.length ≤ 2000 ∧ (∀ c ∈ x, c ∈ u) ∧ k ≤ x.length ∧ k ≤ size ∧ Dice H' d (n + 1 + 150 * k) ∧ Kept H2 H' d, fun _ _ h => h, ?_⟩
      -- what any way adds: a word v, not empty
      have add : ∀ (v : List Nat) (σ' : L2.St) (y6 y7 : Option V) (H9 : Hp), 0 < v.length → v.length ≤ 500 → (∀ c ∈ v, c ∈ u) → σ' = [some (.ref d), some (.ref g), some (.int (most : Int)), some (.ref L), some (.str (S (x ++ v))), some (.int (size : Int)), y6, y7, none] → Dice H9 d (n + 1 + 150 * (k + 1)) → Kept H2 H9 d →
          (∃ m', m' < size - x.length ∧ ∃ (x : List Nat) (k : Nat) (y6 y7 : Option V), m' = size - x.length ∧ σ' = [some (.ref d), some (.ref g), some (.int (most : Int)), some (.ref L), some (.str (S x)), some (.int (size : Int)), y6, y7, none] ∧ x.length ≤ 2000 ∧ (∀ c ∈ x, c ∈ u) ∧ k ≤ x.length ∧ k ≤ size ∧ Dice H9 d (n + 1 + 150 * k) ∧ Kept H2 H9 d) := fun v σ' y6 y7 H9 v0 v1 vu eσ hD9 k9 => by
        have el : (x ++ v).length = x.length + v.length := List.length_append
        refine ⟨size - (x ++ v).length, by omega, x ++ v, k + 1, y6, y7, rfl, eσ, by omega, fun c hc => ?_, by omega, by omega, hD9, k9⟩
        rcases List.mem_append.mp hc with hc | hc
        · exact hxu c hc
        · exact vu c hc
      refine ⟨_, rfl, d, 4, n + 1 + 150 * k, rfl, hD3, by omega, by decide, by decide, fun way H4 w0 w1 hD4 k4 => ?_⟩
      have hL4 : H4 L = some (.lst (signsV u)) := k4 _ _ hLd (k3 _ _ hLd (k2 _ _ hLd hLs))
      refine ⟨_, rfl, rfl, _, rfl, ite2 (fun _ => ?_) (fun _ => ?_)⟩
      · -- a word, some times
        have hg4 : SqT K H4 g [.str (S u), .int (gap : Int)] := .inl (.inl (k4 _ _ hgd (kH3 _ _ hgd hg)))
        refine ⟨⟨_, rfl⟩, _, rfl, _, rfl, g, _, 1, _, rfl, rfl, hg4, atI_nat (j := 1) rfl, d, (gap : Int), n + 1 + 150 * k + 1, rfl, hD4, by omega, by omega, by omega, fun r H5 r0 r1 hD5 k5 => ⟨_, _, rfl, rfl, _, rfl, by omega, by omega, fun DD hDD => ?_⟩⟩
        have hDDd : DD ≠ d := hD5.ne hDD
        have hL5 : H5 L = some (.lst (signsV u)) := k5 _ _ hLd hL4
        refine lc_range (lo := 0) (n := (1 + r).toNat) (fun i H6 => ∃ x : List Nat, x.length = i ∧ (∀ c ∈ x, c ∈ u) ∧ H6 DD = some (.lst (signsV x)) ∧ Dice H6 d (n + 1 + 150 * k + 2 + i) ∧ (∀ b o, b ≠ d → H5 b = some o → H6 b = some o))
          ⟨[], rfl, (fun _ h => by cases h), upd_same, Same.dice (same_upd hDD) hD5, fun b o _ e => same_upd hDD b o e⟩ ?_ ?_
        · rintro i H6 hi ⟨v, v1, v2, v3, v4, v5⟩
          exact ⟨rfl, _, rfl, _, rfl, drawn_turn hDD hLd hu hul (by omega) (by omega) v1 v2 v3 v4 hDDd (v5 _ _ hLd hL5) v5 []⟩
        · rintro H6 ⟨v, v1, v2, v3, v4, v5⟩
          have hvl : v.length ≤ 100 := by omega
          refine ⟨Str.empty, DD, v.map (fun c => S [c]), rfl, rfl, .inl (.inl (.inl (by rw [v3, sig_strs]))), ?_, ?_⟩
          · rw [ones_sum, List.length_map]
            show v.length + v.length * 0 ≤ 16777216
            omega
          rw [join_ones]
          refine ⟨_, rfl, _, rfl, _, rfl, d, 4, n + 1 + 150 * k + 2 + v.length, rfl, v1 ▸ v4, by omega, by decide, by decide, fun t H7 t0 t1 hD7 k7 => ⟨_, _, rfl, rfl, ?_⟩⟩
          have et : (1 + t) = (((1 + t).toNat : Nat) : Int) := by omega
          have ht4 : (1 + t).toNat ≤ 4 := by omega
          have hm4 : v.length * (1 + t).toNat ≤ 100 * 4 := Nat.mul_le_mul hvl ht4
          have hrl : (rep v (1 + t).toNat).length = (1 + t).toNat * v.length := rep_len _ _
          have hrc : (1 + t).toNat * v.length = v.length * (1 + t).toNat := Nat.mul_comm _ _
          have hv0 : 0 < v.length := by omega
          have hr0 : 0 < v.length * (1 + t).toNat := Nat.mul_pos hv0 (by omega)
          refine ⟨v, (1 + t).toNat, rfl, by rw [← et], by omega, by omega, by omega, _, _, rfl, rfl, by rw [S_len, S_len]; omega, ?_⟩
          rw [S_app]
          refine add (rep v (1 + t).toNat) _ _ _ H7 (by omega) (by omega) (fun c hc => v2 c (rep_mem hc)) rfl (hD7.more (by omega)) fun b o hb e => ?_
          exact k7 b o hb (v5 b o hb (k5 b o hb (k4 b o hb (k3 b o hb e))))
      · refine ⟨_, rfl, rfl, _, rfl, ite2 (fun _ => ?_) (fun _ => ?_)⟩
        · -- the first sign, some times
          obtain ⟨c0, u', rfl⟩ : ∃ c u', u = c :: u' := by
            cases u with
            | nil => exact absurd rfl hu
            | cons c u' => exact ⟨c, u', rfl⟩
          refine ⟨_, rfl, _, rfl, L, _, 0, .str (S [c0]), rfl, rfl, .inl (.inl hL4), atI_nat (j := 0) rfl, _, rfl, d, 3, n + 1 + 150 * k + 1, rfl, hD4, by omega, by decide, by decide, fun t H7 t0 t1 hD7 k7 => ⟨_, _, rfl, rfl, ?_⟩⟩
          have et : (1 + t) = (((1 + t).toNat : Nat) : Int) := by omega
          have ht4 : (1 + t).toNat ≤ 3 := by omega
          have hrl : (rep [c0] (1 + t).toNat).length = (1 + t).toNat := by rw [rep_len]; exact Nat.mul_one _
          refine ⟨[c0], (1 + t).toNat, rfl, by rw [← et], by show 1 * (1 + t).toNat ≤ 100000; omega, by omega, by show 1 ≤ 100000; decide, _, _, rfl, rfl, by rw [S_len, S_len]; omega, ?_⟩
          rw [S_app]
          refine add (rep [c0] (1 + t).toNat) _ _ _ H7 (by omega) (by omega) (fun c hc => ?_) rfl (hD7.more (by omega)) fun b o hb e => ?_
          · rw [List.mem_singleton.mp (rep_mem hc)]
            exact List.mem_cons_self ..
          · exact k7 b o hb (k4 b o hb (k3 b o hb e))
        · -- some signs
          refine ⟨_, rfl, ⟨_, rfl⟩, _, rfl, d, 4, n + 1 + 150 * k + 1, rfl, hD4, by omega, by decide, by decide, fun r H5 r0 r1 hD5 k5 => ⟨_, _, rfl, rfl, _, rfl, by omega, by omega, fun DD hDD => ?_⟩⟩
          have hDDd : DD ≠ d := hD5.ne hDD
          have hL5 : H5 L = some (.lst (signsV u)) := k5 _ _ hLd hL4
          refine lc_range (lo := 0) (n := (1 + r).toNat) (fun i H6 => ∃ x : List Nat, x.length = i ∧ (∀ c ∈ x, c ∈ u) ∧ H6 DD = some (.lst (signsV x)) ∧ Dice H6 d (n + 1 + 150 * k + 2 + i) ∧ (∀ b o, b ≠ d → H5 b = some o → H6 b = some o))
            ⟨[], rfl, (fun _ h => by cases h), upd_same, Same.dice (same_upd hDD) hD5, fun b o _ e => same_upd hDD b o e⟩ ?_ ?_
          · rintro i H6 hi ⟨v, v1, v2, v3, v4, v5⟩
            exact ⟨rfl, _, rfl, _, rfl, drawn_turn hDD hLd hu hul (by omega) (by omega) v1 v2 v3 v4 hDDd (v5 _ _ hLd hL5) v5 []⟩
          · rintro H6 ⟨v, v1, v2, v3, v4, v5⟩
            have hvl : v.length ≤ 4 := by omega
            refine ⟨Str.empty, DD, v.map (fun c => S [c]), rfl, rfl, .inl (.inl (.inl (by rw [v3, sig_strs]))), ?_, ?_⟩
            · rw [ones_sum, List.length_map]
              show v.length + v.length * 0 ≤ 16777216
              omega
            rw [join_ones]
            refine ⟨_, _, rfl, rfl, by rw [S_len, S_len]; omega, ?_⟩
            rw [S_app]
            refine add v _ _ _ H6 (by omega) (by omega) v2 rfl (v4.more (by omega)) fun b o hb e => ?_
            exact v5 b o hb (k5 b o hb (k4 b o hb (k3 b o hb e)))
    · rw [decide_eq_false (show ¬ (x.length : Int) < (size : Int) by omega)]
      refine iteF ⟨_, rfl, _, rfl, (size : Int), rfl, S x, rfl, hsx, ?_⟩
      rw [cut_take]
      refine q (x.take size) H3 (by rw [List.length_take]; omega) (fun c hc => hxu c (List.mem_of_mem_take hc)) (hD3.more ?_) kH3
      have : 150 * k ≤ 150 * most := Nat.mul_le_mul_left _ (by omega)
      omega
end
end K4
set_option Elab.async false
set_option linter.all false
set_option maxRecDepth 100000
set_option maxHeartbeats 4000000
namespace K4
open PySem PySem.Spec PyProof.Rows L2 K4M
/-! ### all periods, all borders -/
def perL (u : List Nat) : List Nat := (List.range' 1 (u.length - 1)).filter (had u)
def borL (u : List Nat) : List Nat := (List.range' 1 (u.length - 1)).filter fun l => had u (u.length - l)
theorem had_split {u : List Nat} {l : Nat} (h : l ≤ u.length) : had u (u.length - l) = (u.drop (u.length - l) == u.take l) := by
  unfold had
  rw [Bool.eq_iff_iff, List.isPrefixOf_iff_prefix, beq_iff_eq]
  have hl : (u.drop (u.length - l)).length = l := by rw [List.length_drop]; omega
  constructor
  · intro hp
    have := List.prefix_iff_eq_take.mp hp
    rw [hl] at this
    exact this
  · intro e
    rw [e]
    exact List.take_prefix _ _
theorem ends_had {u : List Nat} {l : Nat} (h : l ≤ u.length) : Txt.endswith (S u) (S (u.take l)) = had u (u.length - l) := by
  rw [had_split h]
  have ht : (u.take l).length = l := by rw [List.length_take]; omega
  unfold Txt.endswith
  rw [PySem.StrLaws.subAt_eq, S_len, S_len, ht]
  show (decide (0 + l ≤ u.length) && (((u.drop (u.length - l)).take l) == u.take l)) = _
  rw [decide_eq_true (show 0 + l ≤ u.length by omega), Bool.true_and, List.take_of_length_le (by rw [List.length_drop]; omega)]
theorem range_rev (n : Nat) : (List.range' 1 (n - 1)).map (fun l => n - l) = (List.range' 1 (n - 1)).reverse := by
  apply List.ext_getElem?
  intro i
  by_cases hi : i < n - 1
  · rw [List.getElem?_map, List.getElem?_range' hi, List.getElem?_reverse (by rw [List.length_range']; exact hi), List.length_range', List.getElem?_range' (by omega)]
    show some (n - (1 + 1 * i)) = some (1 + 1 * (n - 1 - 1 - i))
    congr 1
    omega
  · rw [List.getElem?_eq_none (by rw [List.length_map, List.length_range']; omega), List.getElem?_eq_none (by rw [List.length_reverse, List.length_range']; omega)]
/-- the periods are the lengths less the borders -/
theorem bor_per (u : List Nat) : ((borL u).map fun l => u.length - l).reverse = perL u := by
  have e : (borL u).map (fun l => u.length - l) = ((List.range' 1 (u.length - 1)).map fun l => u.length - l).filter (had u) := by
    unfold borL
    rw [List.filter_map]
    rfl
  rw [e, range_rev, ← List.filter_reverse, List.reverse_reverse]
  rfl
theorem perL_mem {u : List Nat} {p : Nat} : p ∈ perL u ↔ 0 < p ∧ p < u.length ∧ had u p = true := by
  unfold perL
  rw [List.mem_filter, List.mem_range'_1]
  constructor
  · rintro ⟨⟨h1, h2⟩, h3⟩
    exact ⟨h1, by omega, h3⟩
  · rintro ⟨h1, h2, h3⟩
    exact ⟨⟨h1, by omega⟩, h3⟩
theorem nat_len (l : List Nat) : (natsV l).length = l.length := List.length_map _
theorem nat_app (a b : List Nat) : natsV (a ++ b) = natsV a ++ natsV b := List.map_append
theorem nat_int (l : List Nat) : natsV l = (l.map fun (d : Nat) => (d : Int)).map V.int := by
  unfold natsV
  rw [List.map_map]
  rfl
theorem nat_flat (l : List Nat) : ∀ x ∈ natsV l, Flat x := fun x hx => by
  obtain ⟨i, _, rfl⟩ := List.mem_map.mp hx
  exact True.intro
theorem nat_flatV (l : List Nat) : (natsV l).all flatV = true := by
  unfold natsV
  rw [List.all_map, List.all_eq_true]
  intro x _
  rfl
theorem inV_nat (p : Nat) (l : List Nat) : inV (.int (p : Int)) (natsV l) = l.contains p := by
  unfold inV natsV
  rw [List.any_map, Bool.eq_iff_iff, List.any_eq_true, List.contains_iff_mem]
  constructor
  · rintro ⟨x, hx, h⟩
    have h2 : ((x : Int) == (p : Int)) = true := h
    have h3 : (x : Int) = (p : Int) := eq_of_beq h2
    have : x = p := by omega
    rw [← this]
    exact hx
  · intro h
    exact ⟨p, h, beq_self_eq_true (p : Int)⟩
section
variable {P : Program} {w : World} {K : PySem.W.Frag} {mg : Str → Option Value} {base : Heap}
theorem sc_ctext : FnScope ["value"] ["value"] (defScope st_check_text) := ⟨rfl, rfl, rfl, by decide +kernel, rfl, by decide +kernel, by decide +kernel⟩
def spCtext : Sp := fun vs H Q _ => ∃ u : List Nat, vs = [.str (S u)] ∧ u.length ≤ 100000 ∧ Low u ∧ Q .non H
theorem ok_ctext (D : Df K mg "check_text" st_check_text ["value"]) (C : Cal P w K mg base 2 "is_text" ["value"] spText) : FnOk P w K mg base CX0 3 D.f D.fd ["value"] spCtext := by
  refine D.F.ok sc_ctext (fun vs H Q E h => ?_) (fun cdv A outer s H vs Q E hr h => ?_)
  · obtain ⟨u, rfl, _⟩ := h
    rfl
  · obtain ⟨u, rfl, hl, hw, q⟩ := h
    refine ⟨_, (pss_one (ps_if (pt_not (pt_val (pcall C hr (by rfl) (pa_cons (pv 0) pa_nil)))) pss_never pss_nil)), ?_⟩
    exact ⟨_, rfl, u, rfl, hl, hw, _, rfl, iteF q⟩
/-- the turn of a comprehension that keeps numbers by a test -/
theorem keep_turn {H H3 : Hp} {DD : Addr} {f : Nat → Bool} {i : Nat} (hD : H DD = none) (hi : i < 100000) (sm : Same H H3) (hDD : H3 DD = some (.lst (natsV ((List.range' 1 i).filter f)))) {b : Bool} (hb : b = f (i + 1)) :
    if b = true then (∃ acc, H3 DD = some (.lst acc) ∧ acc.length < sizeLine ∧ Same H (upd H3 DD (.lst (acc ++ [.int ((i + 1 : Nat) : Int)]))) ∧ (upd H3 DD (.lst (acc ++ [.int ((i + 1 : Nat) : Int)]))) DD = some (.lst (natsV ((List.range' 1 (i + 1)).filter f))))
    else (Same H H3 ∧ H3 DD = some (.lst (natsV ((List.range' 1 (i + 1)).filter f)))) := by
  have e16 : sizeLine = 16777216 := by decide
  cases b with
  | true =>
    refine iteT ⟨_, hDD, ?_, fun c o e => ?_, ?_⟩
    · rw [nat_len]
      have := List.length_filter_le f (List.range' 1 i)
      rw [List.length_range'] at this
      omega
    · rw [upd_ne (ne_of_none e hD)]
      exact sm c o e
    · rw [upd_same, range_snoc', List.filter_append, List.filter_cons_of_pos hb.symm, nat_app]
      rfl
  | false =>
    refine iteF ⟨sm, ?_⟩
    rw [hDD, range_snoc', List.filter_append, List.filter_cons_of_neg (by rw [← hb]; exact Bool.false_ne_true)]
    simp
theorem sc_periods : FnScope ["text", "period"] ["text"] (defScope st_periods) := ⟨rfl, rfl, rfl, by decide +kernel, rfl, by decide +kernel, by decide +kernel⟩
def spPers (f : List Nat → List Nat) : Sp := fun vs H Q _ => ∃ u : List Nat, vs = [.str (S u)] ∧ u.length ≤ 1000 ∧ Low u ∧ ∀ (L : Addr) (H' : Hp), H L = none → Same H H' → H' L = some (.lst (natsV (f u))) → Q (.ref L) H'
theorem ok_periods (B : Bi mg) (D : Df K mg "periods" st_periods ["text"]) (CT : Cal P w K mg base 3 "check_text" ["value"] spCtext) (CH : Cal P w K mg base 1 "_is_had" ["text", "period"] spHad) : FnOk P w K mg base CX0 4 D.f D.fd ["text"] (spPers perL) := by
  refine D.F.ok sc_periods (fun vs H Q E h => ?_) (fun cdv A outer s H vs Q E hr h => ?_)
  · obtain ⟨u, rfl, _⟩ := h
    rfl
  · obtain ⟨u, rfl, hl, hw, q⟩ := h
    have hr1 : Room 1 _ := hr.mono (by decide)
    refine ⟨_, (pss_cons (ps_expr (pcall CT hr (by rfl) (pa_cons (pv 0) pa_nil))) (pss_one (ps_ret (pe_lc (own := [("period", 1)]) (g := (gName 1)) rfl sc_periods.nd (pi_range2 (by rfl) B.range (pa_cons pe_int (pa_cons (pe_callB call_len_str (by rfl) B.len PySem.boot_len (pa_cons (pv 0) pa_nil)) pa_nil))) (blkOk_by (N := ["text", "period"]) (sc := defScope st_periods) (by decide +kernel)) (fun _ _ _ _ _ => (pg_name (i := 1) sc_periods.nd rfl (.inl rfl))) (fun _ _ _ _ _ => (pts_one (pt_val (pcall CH hr1 (by rfl) (pa_cons (pv 0) (pa_cons (pv 1) pa_nil)))))) (fun _ _ _ _ _ => (pv 1)))))), ?_⟩
    have e16 : sizeLine = 16777216 := by decide
    have hs : (S u).length ≤ sizeLine := by rw [S_len]; omega
    refine ⟨_, rfl, u, rfl, by omega, hw, ?_⟩
    refine ⟨_, rfl, S u, rfl, hs, 1, (u.length : Int), by rw [S_len], ⟨by decide, by decide, by omega, by omega⟩, fun DD hD => ?_⟩
    refine lc_range (lo := 1) (n := ((u.length : Int) - 1).toNat) (fun i H3 => Same H H3 ∧ H3 DD = some (.lst (natsV ((List.range' 1 i).filter (had u))))) ⟨same_upd hD, upd_same⟩ ?_ ?_
    · rintro i H3 hi ⟨sm, hDD⟩
      have ei : (1 + (i : Int)) = ((i + 1 : Nat) : Int) := by omega
      refine ⟨rfl, ?_⟩
      rw [ei]
      refine ⟨_, rfl, _, rfl, u, i + 1, rfl, by omega, _, rfl, ?_⟩
      have z := keep_turn (f := had u) hD (by omega) sm hDD (b := had u (i + 1)) rfl
      revert z
      generalize had u (i + 1) = b
      intro z
      cases b with
      | true => rw [if_pos rfl] at z; exact iteT ⟨_, rfl, z⟩
      | false => rw [if_neg Bool.false_ne_true] at z; exact iteF z
    · rintro H3 ⟨sm, hDD⟩
      have en : ((u.length : Int) - 1).toNat = u.length - 1 := by omega
      rw [en] at hDD
      exact q DD H3 hD sm hDD
theorem sc_hasp : FnScope ["text", "period"] ["text", "period"] (defScope st_has_period) := ⟨rfl, rfl, rfl, by decide +kernel, rfl, by decide +kernel, by decide +kernel⟩
def spHasp : Sp := fun vs H Q _ => ∃ (u : List Nat) (p : Nat), vs = [.str (S u), .int (p : Int)] ∧ u.length ≤ 1000 ∧ Low u ∧ 1 ≤ p ∧ Q (.bl ((perL u).contains p)) H
theorem ok_hasp (B : Bi mg) (D : Df K mg "has_period" st_has_period ["text", "period"]) (CT : Cal P w K mg base 3 "check_text" ["value"] spCtext) (CN : Cal P w K mg base 3 "check_number" ["value", "least"] spCnum) (CH : Cal P w K mg base 1 "_is_had" ["text", "period"] spHad) :
    FnOk P w K mg base CX0 4 D.f D.fd ["text", "period"] spHasp := by
  refine D.F.ok sc_hasp (fun vs H Q E h => ?_) (fun cdv A outer s H vs Q E hr h => ?_)
  · obtain ⟨u, p, rfl, _⟩ := h
    rfl
  · obtain ⟨u, p, rfl, hl, hw, hp, q⟩ := h
    have hr1 : Room 1 _ := hr.mono (by decide)
    refine ⟨_, (pss_cons (ps_expr (pcall CT hr (by rfl) (pa_cons (pv 0) pa_nil))) (pss_cons (ps_expr (pcall CN hr (by rfl) (pa_cons (pv 1) (pa_cons pe_int pa_nil)))) (pss_one (ps_ret (pe_and (pe_cmpR op_lt (pv 1) (pe_callB call_len_str (by rfl) B.len PySem.boot_len (pa_cons (pv 0) pa_nil)) (nomark _)) (pe_one (pcall CH hr1 (by rfl) (pa_cons (pv 0) (pa_cons (pv 1) pa_nil))))))))), ?_⟩
    have e16 : sizeLine = 16777216 := by decide
    have hs : (S u).length ≤ sizeLine := by rw [S_len]; omega
    refine ⟨_, rfl, u, rfl, by omega, hw, _, rfl, (p : Int), 1, rfl, by omega, by omega, ?_⟩
    refine ⟨_, rfl, _, rfl, S u, rfl, hs, _, _, rfl, rfl, _, rfl, ?_⟩
    rw [S_len]
    by_cases h : p < u.length
    · rw [decide_eq_true (show (p : Int) < (u.length : Int) by omega)]
      refine iteT ⟨_, rfl, _, rfl, u, p, rfl, by omega, bl_q ?_ q⟩
      rw [Bool.eq_iff_iff, List.contains_iff_mem, perL_mem]
      exact ⟨fun z => ⟨hp, h, z⟩, fun z => z.2.2⟩
    · rw [decide_eq_false (show ¬ (p : Int) < (u.length : Int) by omega)]
      refine iteF (bl_q ?_ q)
      symm
      rw [Bool.eq_false_iff]
      intro z
      have := perL_mem.mp (List.contains_iff_mem.mp z)
      omega
theorem sc_borders : FnScope ["text", "length"] ["text"] (defScope st_borders) := ⟨rfl, rfl, rfl, by decide +kernel, rfl, by decide +kernel, by decide +kernel⟩
theorem ok_borders (B : Bi mg) (D : Df K mg "borders" st_borders ["text"]) (CT : Cal P w K mg base 3 "check_text" ["value"] spCtext) : FnOk P w K mg base CX0 4 D.f D.fd ["text"] (spPers borL) := by
  refine D.F.ok sc_borders (fun vs H Q E h => ?_) (fun cdv A outer s H vs Q E hr h => ?_)
  · obtain ⟨u, rfl, _⟩ := h
    rfl
  · obtain ⟨u, rfl, hl, hw, q⟩ := h
    refine ⟨_, (pss_cons (ps_expr (pcall CT hr (by rfl) (pa_cons (pv 0) pa_nil))) (pss_one (ps_ret (pe_lc (own := [("length", 1)]) (g := (gName 1)) rfl sc_borders.nd (pi_range2 (by rfl) B.range (pa_cons pe_int (pa_cons (pe_callB call_len_str (by rfl) B.len PySem.boot_len (pa_cons (pv 0) pa_nil)) pa_nil))) (blkOk_by (N := ["text", "length"]) (sc := defScope st_borders) (by decide +kernel)) (fun _ _ _ _ _ => (pg_name (i := 1) sc_borders.nd rfl (.inl rfl))) (fun _ _ _ _ _ => (pts_one (pt_val (pe_m1 PySem.F.slot_str_endswith PySem.F.type_str_endswith mt_endswith (pv 0) (pe_slice sl_str (pv 0) po_none (po_some (pv 1))))))) (fun _ _ _ _ _ => (pv 1)))))), ?_⟩
    have e16 : sizeLine = 16777216 := by decide
    have hs : (S u).length ≤ sizeLine := by rw [S_len]; omega
    refine ⟨_, rfl, u, rfl, by omega, hw, ?_⟩
    refine ⟨_, rfl, S u, rfl, hs, 1, (u.length : Int), by rw [S_len], ⟨by decide, by decide, by omega, by omega⟩, fun DD hD => ?_⟩
    refine lc_range (lo := 1) (n := ((u.length : Int) - 1).toNat) (fun i H3 => Same H H3 ∧ H3 DD = some (.lst (natsV ((List.range' 1 i).filter fun l => had u (u.length - l))))) ⟨same_upd hD, upd_same⟩ ?_ ?_
    · rintro i H3 hi ⟨sm, hDD⟩
      have ei : (1 + (i : Int)) = ((i + 1 : Nat) : Int) := by omega
      refine ⟨rfl, ?_⟩
      rw [ei]
      refine ⟨_, rfl, ⟨_, rfl⟩, _, rfl, _, rfl, ((i + 1 : Nat) : Int), rfl, S u, rfl, hs, S u, _, rfl, rfl, _, rfl, ?_⟩
      rw [cut_take, ends_had (by omega)]
      have z := keep_turn (f := fun l => had u (u.length - l)) hD (by omega) sm hDD (b := had u (u.length - (i + 1))) rfl
      revert z
      generalize had u (u.length - (i + 1)) = b
      intro z
      cases b with
      | true => rw [if_pos rfl] at z; exact iteT ⟨_, rfl, z⟩
      | false => rw [if_neg Bool.false_ne_true] at z; exact iteF z
    · rintro H3 ⟨sm, hDD⟩
      have en : ((u.length : Int) - 1).toNat = u.length - 1 := by omega
      rw [en] at hDD
      exact q DD H3 hD sm hDD
end
end K4
set_option Elab.async false
set_option linter.all false
set_option maxRecDepth 100000
set_option maxHeartbeats 4000000
namespace K4
open PySem PySem.Spec PyProof.Rows L2 K4M
/-! ### the law's own periods; roots of roots -/
theorem rootV_flat (r : List Nat × Nat) : ∀ x ∈ rootV r, Flat x := fun x hx => by
  unfold rootV at hx
  rcases List.mem_cons.mp hx with rfl | hx
  · exact True.intro
  · rw [List.mem_singleton.mp hx]
    exact True.intro
theorem all_had (u : List Nat) (p : Nat) : (List.range (u.length - p)).all (fun i => u.getD i 0 == u.getD (i + p) 0) = had u p := by
  rw [Bool.eq_iff_iff, List.all_eq_true, had_iff]
  constructor
  · intro h i hi
    have := h i (List.mem_range.mpr (by omega))
    rw [beq_iff_eq, List.getD_eq_getElem?_getD, List.getD_eq_getElem?_getD, List.getElem?_eq_getElem (show i < u.length by omega), List.getElem?_eq_getElem hi] at this
    rw [List.getElem?_eq_getElem (show i < u.length by omega), List.getElem?_eq_getElem hi]
    exact congrArg some this
  · intro h i hi
    have hi := List.mem_range.mp hi
    rw [beq_iff_eq, List.getD_eq_getElem?_getD, List.getD_eq_getElem?_getD, h i (by omega)]
theorem rep_add (u : List Nat) : ∀ a b : Nat, rep u (a + b) = rep u a ++ rep u b
  | 0, b => by simp [rep]
  | a + 1, b => by rw [Nat.add_right_comm, rep_succ, rep_succ, rep_add u a b, List.append_assoc]
theorem rep_rep (u : List Nat) (j : Nat) : ∀ k : Nat, rep (rep u j) k = rep u (k * j)
  | 0 => by simp [rep]
  | k + 1 => by rw [rep_succ, rep_rep u j k, ← rep_add, Nat.add_mul, Nat.one_mul, Nat.add_comm]
theorem root_len {u : List Nat} (h : u ≠ []) : (rootP u).1 ≠ [] ∧ (rootP u).1.length ≤ u.length ∧ (rootP u).2 ≤ u.length ∧ (∀ c ∈ (rootP u).1, c ∈ u) ∧ rep (rootP u).1 (rootP u).2 = u := by
  obtain ⟨a1, a2, a3, a4⟩ := lp_spec u h
  have hl : 0 < u.length := List.length_pos_iff.mpr h
  unfold rootP
  by_cases hm : u.length % lp u ≠ 0
  · rw [if_pos hm]
    exact ⟨h, Nat.le_refl _, hl, fun c hc => hc, by show rep u 1 = u; rw [rep_succ]; simp [rep]⟩
  · rw [if_neg hm]
    have hm0 : u.length % lp u = 0 := by omega
    have hp : Per u (lp u) := by
      by_cases e : lp u < u.length
      · exact (had_iff _ _).mp (a4 e)
      · rw [show lp u = u.length by omega]
        exact per_all u
    refine ⟨fun z => ?_, by show (u.take (lp u)).length ≤ _; rw [List.length_take]; omega, Nat.div_le_self _ _, fun c hc => List.mem_of_mem_take hc, (rep_iff a2 hm0 a3).mpr hp⟩
    have := congrArg List.length z
    rw [List.length_take] at this
    have : min (lp u) u.length = 0 := this
    omega
theorem root_root {u : List Nat} (h : u ≠ []) : rootP (rootP u).1 = ((rootP u).1, 1) := by
  obtain ⟨a1, a2, a3, a4⟩ := lp_spec u h
  obtain ⟨v0, v1, v2, v3, v4⟩ := root_len h
  by_cases hm : u.length % lp u ≠ 0
  · have e : rootP u = (u, 1) := by unfold rootP; rw [if_pos hm]
    rw [e]
    exact e
  · have e : rootP u = (u.take (lp u), u.length / lp u) := by unfold rootP; rw [if_neg hm]
    have hv : (rootP u).1 = u.take (lp u) := by rw [e]
    have hvl : (rootP u).1.length = lp u := by
      rw [hv, List.length_take]
      omega
    generalize hvd : (rootP u).1 = v at v0 v1 v3 v4 hvl
    obtain ⟨b1, b2, b3, b4⟩ := lp_spec v v0
    have key : v.length % lp v = 0 → lp v = v.length := fun hz => by
      apply Classical.byContradiction
      intro hne
      have hlt : lp v < v.length := by omega
      have hpv : Per v (lp v) := (had_iff _ _).mp (b4 hlt)
      have er : rep (v.take (lp v)) (v.length / lp v) = v := (rep_iff b2 hz b3).mpr hpv
      have hu2 : u = rep (v.take (lp v)) ((rootP u).2 * (v.length / lp v)) := by
        rw [← rep_rep, er]
        exact v4.symm
      have hpu : Per u (lp v) := by
        have := rep_per (u := v.take (lp v)) ((rootP u).2 * (v.length / lp v))
        rw [← hu2, List.length_take, Nat.min_eq_left b3] at this
        exact this
      have := a1 (lp v) b2 (by omega)
      rw [(had_iff _ _).mpr hpu] at this
      cases this
    have goal : rootP v = (v, 1) := by
      unfold rootP
      by_cases hz : v.length % lp v = 0
      · rw [if_neg (by omega), key hz, List.take_length, Nat.div_self (List.length_pos_iff.mpr v0)]
      · rw [if_pos hz]
    exact goal
theorem lp_min {u : List Nat} (h : u ≠ []) {m : Int} (hm : m ∈ ((perL u).map fun (d : Nat) => (d : Int)) ++ [(u.length : Int)]) (hle : ∀ y, y ∈ ((perL u).map fun (d : Nat) => (d : Int)) ++ [(u.length : Int)] → m ≤ y) : m = (lp u : Int) := by
  obtain ⟨a1, a2, a3, a4⟩ := lp_spec u h
  have h1 : m ≤ (lp u : Int) := by
    apply hle
    rw [List.mem_append]
    by_cases e : lp u < u.length
    · exact .inl (List.mem_map.mpr ⟨lp u, perL_mem.mpr ⟨a2, e, a4 e⟩, rfl⟩)
    · right
      rw [List.mem_singleton, show lp u = u.length by omega]
  have h2 : (lp u : Int) ≤ m := by
    rcases List.mem_append.mp hm with hm | hm
    · obtain ⟨d, hd, rfl⟩ := List.mem_map.mp hm
      obtain ⟨d0, d1, d2⟩ := perL_mem.mp hd
      apply Int.ofNat_le.mpr
      apply Nat.le_of_not_lt
      intro hlt
      rw [a1 d d0 hlt] at d2
      cases d2
    · rw [List.mem_singleton.mp hm]
      omega
  omega
theorem Eqv.of {K : PySem.W.Frag} {H : Hp} {n : Nat} {a b : Addr} {xs ys : List V} (ha : SqL K H a xs) (hb : SqL K H b ys) (hl : xs.length ≤ 100000) (hp : Paired (Eqv K H n) xs ys) : Eqv K H (n + 1) (.ref a) (.ref b) :=
  .inr ⟨a, b, xs, ys, rfl, rfl, hl, hp.length, .inl ⟨ha, hb⟩, fun i u v hu hv => by
    have key : ∀ {xs ys : List V}, Paired (Eqv K H n) xs ys → ∀ (i : Nat) (u v : V), xs[i]? = some u → ys[i]? = some v → Eqv K H n u v := by
      intro xs ys hp
      induction hp with
      | nil => intro i u v hu _; cases hu
      | cons h1 _ ih =>
        intro i u v hu hv
        cases i with
        | zero => cases hu; cases hv; exact h1
        | succ i => exact ih i u v hu hv
    exact key hp i u v hu hv⟩
theorem Eqv.ofT {K : PySem.W.Frag} {H : Hp} {n : Nat} {a b : Addr} {xs ys : List V} (ha : SqT K H a xs) (hb : SqT K H b ys) (hl : xs.length ≤ 100000) (hp : Paired (Eqv K H n) xs ys) : Eqv K H (n + 1) (.ref a) (.ref b) :=
  .inr ⟨a, b, xs, ys, rfl, rfl, hl, hp.length, .inr ⟨ha, hb⟩, fun i u v hu hv => by
    have key : ∀ {xs ys : List V}, Paired (Eqv K H n) xs ys → ∀ (i : Nat) (u v : V), xs[i]? = some u → ys[i]? = some v → Eqv K H n u v := by
      intro xs ys hp
      induction hp with
      | nil => intro i u v hu _; cases hu
      | cons h1 _ ih =>
        intro i u v hu hv
        cases i with
        | zero => cases hu; cases hv; exact h1
        | succ i => exact ih i u v hu hv
    exact key hp i u v hu hv⟩
end K4
set_option Elab.async false
set_option linter.all false
set_option maxRecDepth 100000
set_option maxHeartbeats 8000000
namespace K4
open PySem PySem.Spec PyProof.Rows L2 K4M
theorem one_dec (a b : Nat) : decide (V.str (S [a]) = V.str (S [b])) = (a == b) := by
  rw [V_dec, Bool.eq_iff_iff, beq_iff_eq, beq_iff_eq]
  constructor
  · intro h; injection h
  · intro h; rw [h]
section
variable {P : Program} {w : World} {K : PySem.W.Frag} {mg : Str → Option Value} {base : Heap}
theorem sc_tright : FnScope ["text", "size", "due", "period", "at", "mine", "late", "told", "sides", "least", "parts", "word", "times"] ["text"] (defScope st__law_text_right) := ⟨rfl, rfl, rfl, by decide +kernel, rfl, by decide +kernel, by decide +kernel⟩
def spTright : Sp := fun vs H Q _ => ∃ u : List Nat, vs = [.str (S u)] ∧ u.length ≤ 1000 ∧ Low u ∧ ∀ H', Same H H' → Q (.bl true) H'
theorem ok_tright (B : Bi mg) (D : Df K mg "_law_text_right" st__law_text_right ["text"]) (CP : Cal P w K mg base 4 "periods" ["text"] (spPers perL)) (CB : Cal P w K mg base 4 "borders" ["text"] (spPers borL)) (CHp : Cal P w K mg base 4 "has_period" ["text", "period"] spHasp)
    (CE2 : Cal P w K mg base 3 "_law_exact" ["mine", "theirs"] (spExact K 2)) (CR : Cal P w K mg base 6 "root" ["word"] spRoot) (CL : Cal P w K mg base 5 "least_period" ["word"] spLp) : FnOk P w K mg base CX0 7 D.f D.fd ["text"] spTright := by
  refine D.F.ok sc_tright (fun vs H Q E h => ?_) (fun cdv A outer s H vs Q E hr h => ?_)
  · obtain ⟨u, rfl, _⟩ := h
    rfl
  · obtain ⟨u, rfl, hl, hw, q⟩ := h
    have r3 : Room 3 _ := hr.mono (by decide)
    have r4 : Room 4 _ := hr.mono (by decide)
    have r5 : Room 5 _ := hr.mono (by decide)
    refine ⟨_, (pss_cons (ps_set (i := 1) sc_tright.nd rfl (.inr rfl) (pe_callB call_len_str (by rfl) B.len PySem.boot_len (pa_cons (pv 0) pa_nil))) (pss_cons (ps_setLc (i := 2) (own := [("period", 3)]) (g := (gName 3)) rfl sc_tright.nd rfl rfl (sw_true rfl rfl rfl (by decide +kernel)) (pi_range2 (by rfl) B.range (pa_cons pe_int (pa_cons (pv 1) pa_nil))) (blkOk_by (N := ["text", "size", "due", "period", "at", "mine", "late", "told", "sides", "least", "parts", "word", "times"]) (sc := defScope st__law_text_right) (by decide +kernel)) (fun _ _ _ _ _ => (pg_name (i := 3) sc_tright.nd rfl (.inr rfl))) (fun _ _ _ _ _ => (pts_one (pt_val (pe_callB (r := rAll K) (cr_all rfl) (by rfl) B.all (by decide +kernel) (pa_cons (pe_lc (own := [("at", 4)]) (g := (gName 4)) (tt := tYes) rfl sc_tright.nd (pi_range1 (by rfl) B.range (pa_cons (pe_op op_sub (pv 1) (pv 3)) pa_nil)) (blkOk_by (N := ["text", "size", "due", "period", "at", "mine", "late", "told", "sides", "least", "parts", "word", "times"]) (by rfl)) (fun _ _ _ _ _ => (pg_name (i := 4) sc_tright.nd rfl (.inl rfl))) (fun _ _ _ _ _ => pts_nil) (fun _ _ _ _ _ => (pe_cmpR op_eq (pe_ix ix_str (pv 0) (pv 4) (fun _ _ => rfl)) (pe_ix ix_str (pv 0) (pe_op op_add (pv 4) (pv 3)) (fun _ _ => rfl)) (nomark _)))) pa_nil))))) (fun _ _ _ _ _ => (pv 3))) (pss_cons (ps_setLc (i := 5) (own := [("late", 6)]) (g := (gName 6)) rfl sc_tright.nd rfl rfl (sw_true rfl rfl rfl (by decide +kernel)) (pi_range2 (by rfl) B.range (pa_cons pe_int (pa_cons (pv 1) pa_nil))) (blkOk_by (N := ["text", "size", "due", "period", "at", "mine", "late", "told", "sides", "least", "parts", "word", "times"]) (sc := defScope st__law_text_right) (by decide +kernel)) (fun _ _ _ _ _ => (pg_name (i := 6) sc_tright.nd rfl (.inl rfl))) (fun _ _ _ _ _ => (pts_one (pt_val (pe_m1 PySem.F.slot_str_startswith PySem.F.type_str_startswith mt_startswith (pv 0) (pe_slice sl_str (pv 0) (po_some (pe_op op_sub (pv 1) (pv 6))) po_none))))) (fun _ _ _ _ _ => (pv 6))) (pss_cons (ps_par (i := 7) (j := 8) (by rfl) sc_tright.nd rfl rfl (by decide) rfl rfl (pa_cons (pcall CP r4 (by rfl) (pa_cons (pv 0) pa_nil)) (pa_cons (pcall CB r4 (by rfl) (pa_cons (pv 0) pa_nil)) pa_nil)) (by rfl)) (pss_cons (ps_if (pt_not (pt_val (pcall CE2 r3 (by rfl) (pa_cons (pe_lst (pa_cons (pv 7) (pa_cons (pv 8) (pa_cons (pe_revL (pe_lc (own := [("late", 6)]) (g := (gName 6)) (tt := tYes) rfl sc_tright.nd (pi_list (pv 8)) (blkOk_by (N := ["text", "size", "due", "period", "at", "mine", "late", "told", "sides", "least", "parts", "word", "times"]) (sc := defScope st__law_text_right) (by decide +kernel)) (fun _ _ _ _ _ => (pg_name (i := 6) sc_tright.nd rfl (.inl rfl))) (fun _ _ _ _ _ => pts_nil) (fun _ _ _ _ _ => (pe_op op_sub (pv 1) (pv 6))))) pa_nil)))) (pa_cons (pe_lst (pa_cons (pv 2) (pa_cons (pv 5) (pa_cons (pv 2) pa_nil)))) pa_nil))))) pss_never pss_nil) (pss_cons (ps_expr (pe_bm PySem.F.plainAttrs_list PySem.F.slot_list_append PySem.F.type_list_append mt_append (pv 7) (pa_cons pe_int pa_nil))) (pss_cons (ps_expr (pe_bm PySem.F.plainAttrs_list PySem.F.slot_list_append PySem.F.type_list_append mt_append (pv 8) (pa_cons pe_int pa_nil))) (pss_cons (ps_for PassesOwn.never rfl (pi_list (pe_op op_cat (pe_listRg rfl (by rfl) B.list (prg_2 (by rfl) B.range pe_int (pe_op op_add (pv 1) pe_int))) (pe_lst (pa_cons (pe_op op_pow pe_int pe_int) pa_nil)))) (pg_name (i := 3) sc_tright.nd rfl (.inl rfl)) (pss_one (ps_if (pt_not (pt_val (pcall CE2 r3 (by rfl) (pa_cons (pcall CHp r4 (by rfl) (pa_cons (pv 0) (pa_cons (pv 3) pa_nil))) (pa_cons (pe_cmpR (r := rIn K false) op_in_seq (pv 3) (pv 2) rfl) pa_nil))))) pss_never pss_nil))) (pss_cons (ps_if (pt_cmpR op_eq (pv 1) pe_int (nomark _)) (pss_one (ps_ret (pcall CE2 r3 (by rfl) (pa_cons (pe_lst (pa_cons (pcall CP r4 (by rfl) (pa_cons (pv 0) pa_nil)) (pa_cons (pcall CB r4 (by rfl) (pa_cons (pv 0) pa_nil)) pa_nil))) (pa_cons (pe_lst (pa_cons (pe_lst pa_nil) (pa_cons (pe_lst pa_nil) pa_nil))) pa_nil))))) pss_nil) (pss_cons (ps_set (i := 9) sc_tright.nd rfl (.inl rfl) (pe_callB (cr_min rfl) (by rfl) B.min (by decide +kernel) (pa_cons (pe_op op_cat (pv 2) (pe_lst (pa_cons (pv 1) pa_nil))) pa_nil))) (pss_cons (ps_setLc (i := 10) (own := [("late", 6)]) (g := (gName 6)) rfl sc_tright.nd rfl rfl (sw_true rfl rfl rfl (by decide +kernel)) (pi_range2 (by rfl) B.range (pa_cons pe_int (pa_cons (pe_op op_add (pv 1) pe_int) pa_nil))) (blkOk_by (N := ["text", "size", "due", "period", "at", "mine", "late", "told", "sides", "least", "parts", "word", "times"]) (sc := defScope st__law_text_right) (by decide +kernel)) (fun _ _ _ _ _ => (pg_name (i := 6) sc_tright.nd rfl (.inl rfl))) (fun _ _ _ _ _ => (pts_one (PW.pt (pw_and (pt_cmpR op_eq (pe_op op_mod (pe_callTy call_int1 (by rfl) B.int (by decide +kernel) (pa_cons (pv 1) pa_nil)) (pv 6)) pe_int (nomark _)) (pw_and1 (pt_cmpR op_eq (pe_op op_mulS (pe_slice sl_str (pv 0) po_none (po_some (pv 6))) (pe_op op_fdiv (pv 1) (pv 6))) (pv 0) (nomark _))))))) (fun _ _ _ _ _ => (pv 6))) (pss_cons (ps_asg (pcall CR hr (by rfl) (pa_cons (pv 0) pa_nil)) (pg_tup rfl (pgs_cons (pg_name (i := 11) sc_tright.nd rfl (.inl rfl)) (pgs_cons (pg_name (i := 12) sc_tright.nd rfl (.inl rfl)) pgs_nil)))) (pss_cons (ps_if (pt_not (pt_val (pcall CE2 r3 (by rfl) (pa_cons (pe_lst (pa_cons (pcall CL r5 (by rfl) (pa_cons (pv 0) pa_nil)) (pa_cons (pv 11) (pa_cons (pv 12) (pa_cons (pcall CP r4 (by rfl) (pa_cons (pv 0) pa_nil)) pa_nil))))) (pa_cons (pe_lst (pa_cons (pv 9) (pa_cons (pe_slice sl_str (pv 0) po_none (po_some (pe_ix (r := rIxL K) ix_list (pv 10) pe_int (fun _ _ => rfl)))) (pa_cons (pe_op op_fdiv (pv 1) (pe_ix (r := rIxL K) ix_list (pv 10) pe_int (fun _ _ => rfl))) (pa_cons (pv 2) pa_nil))))) pa_nil))))) pss_never pss_nil) (pss_one (ps_ret (pcall CE2 r3 (by rfl) (pa_cons (pe_lst (pa_cons (pcall CR hr (by rfl) (pa_cons (pv 11) pa_nil)) (pa_cons (pe_op op_mulS (pv 11) (pv 12)) (pa_cons (pe_callB call_isi (by rfl) B.isi (by decide +kernel) (pa_cons (pcall CR hr (by rfl) (pa_cons (pv 0) pa_nil)) (pa_cons (pe_bltn (v := .ty "tuple") (by rfl) B.tuple (by decide +kernel) rfl) pa_nil))) pa_nil)))) (pa_cons (pe_lst (pa_cons (pe_tup (pa_cons (pv 11) (pa_cons pe_int pa_nil))) (pa_cons (pv 0) (pa_cons pe_bl pa_nil)))) pa_nil)))))))))))))))))), ?_⟩
    have e16 : sizeLine = 16777216 := by decide
    have hs : (S u).length ≤ sizeLine := by rw [S_len]; omega
    -- size, due
    refine ⟨_, rfl, S u, rfl, hs, ?_⟩
    rw [S_len]
    refine ⟨_, rfl, 1, (u.length : Int), rfl, ⟨by decide, by decide, by omega, by omega⟩, fun D1 hD1 => ?_⟩
    refine lc_range (lo := 1) (n := ((u.length : Int) - 1).toNat) (fun i H3 => Same H H3 ∧ H3 D1 = some (.lst (natsV ((List.range' 1 i).filter (had u))))) ⟨same_upd hD1, upd_same⟩ ?_ ?_
    · rintro i H3 hi ⟨sm, hDD⟩
      have ei : (1 + (i : Int)) = ((i + 1 : Nat) : Int) := by omega
      refine ⟨rfl, ?_⟩
      rw [ei]
      refine ⟨_, rfl, _, rfl, _, _, rfl, rfl, _, rfl, by omega, by omega, fun D2 hD2 => ?_⟩
      refine lc_range (lo := 0) (n := ((u.length : Int) - ((i + 1 : Nat) : Int)).toNat) (fun j H4 => Same H3 H4 ∧ H4 D2 = some (.lst (((List.range j).map fun a => u.getD a 0 == u.getD (a + (i + 1)) 0).map V.bl))) ⟨same_upd hD2, upd_same⟩ ?_ ?_
      · rintro j H4 hj ⟨sm4, hD4⟩
        have ej : (0 + (j : Int)) = (j : Int) := by omega
        have hj1 : j < u.length := by omega
        have hj2 : j + (i + 1) < u.length := by omega
        refine ⟨rfl, ?_⟩
        rw [ej]
        refine ⟨_, rfl, _, rfl, S u, (j : Int), u[j], rfl, rfl, hs, atI_nat (List.getElem?_eq_getElem hj1), ?_⟩
        refine ⟨_, rfl, _, rfl, _, rfl, _, _, rfl, rfl, S u, _, u[j + (i + 1)], rfl, rfl, hs, atI_nat (j := j + (i + 1)) (List.getElem?_eq_getElem hj2), rfl, ?_⟩
        refine ⟨_, hD4, ?_, fun b o e => ?_, ?_⟩
        · rw [List.length_map, List.length_map, List.length_range]
          omega
        · rw [upd_ne (ne_of_none e hD2)]
          exact sm4 b o e
        · rw [upd_same, List.range_succ, List.map_append, List.map_append]
          show some (HO.lst (_ ++ [V.bl (decide (V.str (S [u[j]]) = V.str (S [u[j + (i + 1)]])))])) = _
          rw [one_dec]
          have g1 : u.getD j 0 = u[j] := by rw [List.getD_eq_getElem?_getD, List.getElem?_eq_getElem hj1]; rfl
          have g2 : u.getD (j + (i + 1)) 0 = u[j + (i + 1)] := by rw [List.getD_eq_getElem?_getD, List.getElem?_eq_getElem hj2]; rfl
          show _ = some (HO.lst (_ ++ [V.bl (u.getD j 0 == u.getD (j + (i + 1)) 0)]))
          rw [g1, g2]
      · rintro H4 ⟨sm4, hD4⟩
        have en : ((u.length : Int) - ((i + 1 : Nat) : Int)).toNat = u.length - (i + 1) := by omega
        rw [en] at hD4
        refine ⟨D2, _, rfl, .inl (.inl hD4), _, rfl, ?_⟩
        have e1 : ((List.range (u.length - (i + 1))).map fun a => u.getD a 0 == u.getD (a + (i + 1)) 0).all id = had u (i + 1) := by
          rw [List.all_map, ← all_had]
          rfl
        rw [e1]
        have z := keep_turn (f := had u) hD1 (by omega) (sm.trans sm4) (sm4 _ _ hDD) (b := had u (i + 1)) rfl
        revert z
        generalize had u (i + 1) = b
        intro z
        cases b with
        | true => rw [if_pos rfl] at z; exact iteT ⟨_, rfl, z⟩
        | false => rw [if_neg Bool.false_ne_true] at z; exact iteF z
    rintro H1 ⟨sm1, hDD1⟩
    have en : ((u.length : Int) - 1).toNat = u.length - 1 := by omega
    rw [en] at hDD1
    -- mine
    refine ⟨_, rfl, 1, (u.length : Int), rfl, ⟨by decide, by decide, by omega, by omega⟩, fun D2 hD2 => ?_⟩
    refine lc_range (lo := 1) (n := ((u.length : Int) - 1).toNat) (fun i H3 => Same H1 H3 ∧ H3 D2 = some (.lst (natsV ((List.range' 1 i).filter fun l => had u (u.length - l))))) ⟨same_upd hD2, upd_same⟩ ?_ ?_
    · rintro i H3 hi ⟨sm, hDD⟩
      have ei : (1 + (i : Int)) = ((i + 1 : Nat) : Int) := by omega
      refine ⟨rfl, ?_⟩
      rw [ei]
      have es : (u.length : Int) - ((i + 1 : Nat) : Int) = ((u.length - (i + 1) : Nat) : Int) := by omega
      refine ⟨_, rfl, ⟨_, rfl⟩, _, rfl, _, rfl, _, rfl, _, _, rfl, rfl, _, rfl, S u, rfl, hs, S u, S (u.drop (u.length - (i + 1))), rfl, by rw [es, cut_drop], ?_⟩
      rw [starts]
      refine ⟨_, rfl, ?_⟩
      have z := keep_turn (f := fun l => had u (u.length - l)) hD2 (by omega) sm hDD (b := had u (u.length - (i + 1))) rfl
      revert z
      show _ → if had u (u.length - (i + 1)) = true then _ else _
      generalize had u (u.length - (i + 1)) = b
      intro z
      cases b with
      | true => rw [if_pos rfl] at z; exact iteT ⟨_, rfl, z⟩
      | false => rw [if_neg Bool.false_ne_true] at z; exact iteF z
    rintro H2 ⟨sm2, hDD2⟩
    rw [en] at hDD2
    -- told, sides
    refine ⟨_, rfl, u, rfl, hl, hw, fun L1 H3 hL1 sm3 hLL1 => ?_⟩
    refine ⟨_, rfl, u, rfl, hl, hw, fun L2 H4 hL2 sm4 hLL2 => ?_⟩
    refine ⟨_, _, rfl, ?_⟩
    have hD1_4 : H4 D1 = some (.lst (natsV (perL u))) := sm4 _ _ (sm3 _ _ (sm2 _ _ hDD1))
    have hD2_4 : H4 D2 = some (.lst (natsV (borL u))) := sm4 _ _ (sm3 _ _ hDD2)
    have hL1_4 : H4 L1 = some (.lst (natsV (perL u))) := sm4 _ _ hLL1
    have smH4 : Same H H4 := sm1.trans (sm2.trans (sm3.trans sm4))
    -- the first comparison
    refine ⟨_, rfl, _, rfl, _, rfl, L2, rfl, ⟨_, .inl (.inl hLL2)⟩, fun D3 hD3 => ?_⟩
    refine lc_list (K := K) (a := L2) (xs := natsV (borL u)) (fun i H5 => Same H4 H5 ∧ H5 D3 = some (.lst (natsV (((borL u).take i).map fun l => u.length - l)))) ⟨same_upd hD3, upd_same⟩ (fun i H5 _ z => .inl (.inl (z.1 _ _ hLL2))) ?_ ?_
    · rintro i x H5 hx ⟨sm5, hDD⟩
      unfold natsV at hx
      rw [List.getElem?_map] at hx
      obtain ⟨c, hc, rfl⟩ : ∃ c : Nat, (borL u)[i]? = some c ∧ x = V.int (c : Int) := by
        cases e : (borL u)[i]? with
        | none => rw [e] at hx; cases hx
        | some c => rw [e] at hx; exact ⟨c, rfl, (Option.some.inj hx).symm⟩
      have hcl : c < u.length := by
        have := List.mem_of_getElem? hc
        unfold borL at this
        rw [List.mem_filter, List.mem_range'_1] at this
        omega
      have hil : i < (borL u).length := (List.getElem?_eq_some_iff.mp hc).1
      have hbl : (borL u).length ≤ u.length := by
        unfold borL
        have := List.length_filter_le (fun l => had u (u.length - l)) (List.range' 1 (u.length - 1))
        rw [List.length_range'] at this
        omega
      have ec : (u.length : Int) - (c : Int) = ((u.length - c : Nat) : Int) := by omega
      refine ⟨rfl, _, rfl, _, rfl, _, _, rfl, rfl, _, hDD, ?_, fun b o e => ?_, ?_⟩
      · rw [nat_len, List.length_map, List.length_take]
        omega
      · rw [upd_ne (ne_of_none e hD3)]
        exact sm5 b o e
      · rw [upd_same, List.take_add_one, hc, List.map_append, nat_app]
        show some (HO.lst (_ ++ [V.int ((u.length : Int) - (c : Int))])) = _
        rw [ec]
        rfl
    rintro H5 ⟨sm5, hDD3⟩
    rw [nat_len, List.take_length] at hDD3
    refine ⟨D3, _, rfl, .inl (.inl hDD3), fun p1 hp1 => ?_⟩
    have t1 := same_upd (o := .lst (natsV ((borL u).map fun l => u.length - l)).reverse) hp1
    refine ⟨by show 3 ≤ sizeLine; decide, fun p2 hp2 => ?_⟩
    have t2 := same_upd (o := .lst [V.ref L1, V.ref L2, V.ref p1]) hp2
    refine ⟨_, rfl, _, rfl, _, rfl, by show 3 ≤ sizeLine; decide, fun p3 hp3 => ?_⟩
    have t3 := same_upd (o := .lst [V.ref D1, V.ref D2, V.ref D1]) hp3
    have eB : (natsV ((borL u).map fun l => u.length - l)).reverse = natsV (perL u) := by
      unfold natsV
      rw [← List.map_reverse, bor_per]
    have f1 := (t1.trans (t2.trans t3)) _ _ (sm5 _ _ hD1_4)
    have f2 := (t1.trans (t2.trans t3)) _ _ (sm5 _ _ hD2_4)
    have f3 := (t1.trans (t2.trans t3)) _ _ (sm5 _ _ hL1_4)
    have f4 := (t1.trans (t2.trans t3)) _ _ (sm5 _ _ hLL2)
    have f5 := ((t2.trans t3) p1 _ upd_same).trans (congrArg (fun l => some (HO.lst l)) eB)
    have f6 := t3 p2 _ upd_same
    have nlen : (perL u).length ≤ 1000 := by
      unfold perL
      have := List.length_filter_le (had u) (List.range' 1 (u.length - 1))
      rw [List.length_range'] at this
      omega
    have blen : (borL u).length ≤ 1000 := by
      unfold borL
      have := List.length_filter_le (fun l => had u (u.length - l)) (List.range' 1 (u.length - 1))
      rw [List.length_range'] at this
      omega
    refine ⟨_, _, rfl, Eqv.of (.inl (.inl f6)) (.inl (.inl upd_same)) (by show 3 ≤ 100000; decide) (.cons (Eqv.list (.inl (.inl f3)) (.inl (.inl f1)) (by rw [nat_len]; omega) (nat_flat _)) (.cons (Eqv.list (.inl (.inl f4)) (.inl (.inl f2)) (by rw [nat_len]; omega) (nat_flat _)) (.cons (Eqv.list (.inl (.inl f5)) (.inl (.inl f1)) (by rw [nat_len]; omega) (nat_flat _)) .nil))), fun H6 sm6 => ⟨_, rfl, iteF ?_⟩⟩
    have g1 := sm6 _ _ f1
    have g3 := sm6 _ _ f3
    have g4 := sm6 _ _ f4
    have smH6 : Same H H6 := smH4.trans (sm5.trans (t1.trans (t2.trans (t3.trans sm6))))
    -- told.append(0), sides.append(0)
    have hL1H : H L1 = none := (sm1.trans sm2).free hL1
    have hL2H : H L2 = none := (sm1.trans (sm2.trans sm3)).free hL2
    have nD1L1 : D1 ≠ L1 := ne_of_none (sm2 _ _ hDD1) hL1
    have nD1L2 : D1 ≠ L2 := ne_of_none (sm3 _ _ (sm2 _ _ hDD1)) hL2
    have nL12 : L2 ≠ L1 := (ne_of_none hLL1 hL2).symm
    refine ⟨_, rfl, .inl ⟨rfl, _, .inl (.inl g3)⟩, L1, _, _, rfl, rfl, g3, by rw [nat_len]; omega, ?_⟩
    refine ⟨_, rfl, .inl ⟨rfl, _, .inl (.inl (by rw [upd_ne nL12]; exact g4))⟩, L2, _, _, rfl, rfl, by rw [upd_ne nL12]; exact g4, by rw [nat_len]; omega, ?_⟩
    have smH7 : Same H (upd (upd H6 L1 (.lst (natsV (perL u) ++ [V.int 0]))) L2 (.lst (natsV (borL u) ++ [V.int 0]))) := fun b o e => by
      rw [upd_ne (ne_of_none e hL2H), upd_ne (ne_of_none e hL1H)]
      exact smH6 b o e
    have g17 : (upd (upd H6 L1 (.lst (natsV (perL u) ++ [V.int 0]))) L2 (.lst (natsV (borL u) ++ [V.int 0]))) D1 = some (.lst (natsV (perL u))) := by
      rw [upd_ne nD1L2, upd_ne nD1L1]
      exact g1
    revert smH7 g17
    generalize (upd (upd H6 L1 (.lst (natsV (perL u) ++ [V.int 0]))) L2 (.lst (natsV (borL u) ++ [V.int 0]))) = H7
    intro smH7 g17
    -- each number
    refine ⟨_, rfl, _, _, rfl, rfl, _, _, rfl, rfl, ⟨by decide, by decide, by omega, by omega, by omega⟩, fun q1 hq1 => ?_⟩
    have v1 := same_upd (o := .lst (rgV 1 ((u.length : Int) + 3))) hq1
    refine ⟨_, _, rfl, rfl, ⟨by decide, by decide, by decide⟩, by show 1 ≤ sizeLine; decide, fun q2 hq2 => ?_⟩
    have v2 := same_upd (o := .lst [V.int ((10 : Int) ^ (29 : Int).toNat)]) hq2
    refine ⟨q1, q2, _, _, rfl, rfl, v2 _ _ upd_same, upd_same, ?_, fun q3 hq3 => ?_⟩
    · rw [rgV_length]
      show ((u.length : Int) + 3 - 1).toNat + 1 ≤ sizeLine
      omega
    have v3 := same_upd (o := .lst (rgV 1 ((u.length : Int) + 3) ++ [V.int ((10 : Int) ^ (29 : Int).toNat)])) hq3
    have smH8 := smH7.trans (v1.trans (v2.trans v3))
    have g18 := (v1.trans (v2.trans v3)) _ _ g17
    refine ⟨q3, rfl, ⟨_, .inl (.inl upd_same)⟩, ?_⟩
    refine for_list (K := K) (a := q3) (xs := rgV 1 ((u.length : Int) + 3) ++ [V.int ((10 : Int) ^ (29 : Int).toNat)]) (fun i σ H9 => ∃ y3 : Option V, σ = [some (.str (S u)), some (.int (u.length : Int)), some (.ref D1), y3, none, some (.ref D2), none, some (.ref L1), some (.ref L2), none, none, none, none] ∧ Same (upd (upd (upd H7 q1 (.lst (rgV 1 ((u.length : Int) + 3)))) q2 (.lst [V.int ((10 : Int) ^ (29 : Int).toNat)])) q3 (.lst (rgV 1 ((u.length : Int) + 3) ++ [V.int ((10 : Int) ^ (29 : Int).toNat)]))) H9)
      ⟨none, rfl, Same.refl _⟩ (fun i σ H9 _ ⟨_, _, z⟩ => .inl (.inl (z _ _ upd_same))) ?_ ?_
    · rintro i x σ H9 hx ⟨y3, rfl, sm9⟩
      obtain ⟨p, rfl, hp⟩ : ∃ p : Nat, x = .int (p : Int) ∧ 1 ≤ p := by
        rcases List.mem_append.mp (List.mem_of_getElem? hx) with h | h
        · unfold rgV at h
          obtain ⟨j, _, rfl⟩ := List.mem_map.mp h
          exact ⟨1 + j, by congr 1, by omega⟩
        · rw [List.mem_singleton.mp h]
          exact ⟨10 ^ 29, by decide +kernel, by decide +kernel⟩
      refine ⟨_, rfl, _, rfl, u, p, rfl, hl, hw, hp, ?_⟩
      refine ⟨_, rfl, _, rfl, D1, natsV (perL u), rfl, .inl (.inl (.inl (sm9 _ _ g18))), rfl, nat_flatV _, ?_⟩
      refine ⟨_, _, rfl, .inl ⟨?_, True.intro⟩, fun H10 s10 => ⟨_, rfl, iteF ⟨_, rfl, sm9.trans s10⟩⟩⟩
      show V.bl ((perL u).contains p) = V.bl (inV (.int (p : Int)) (natsV (perL u)))
      rw [inV_nat]
    rintro σ H9 ⟨y3, rfl, sm9⟩
    have smH9 := smH8.trans sm9
    have g19 := sm9 _ _ g18
    -- the empty text
    refine ⟨_, rfl, rfl, _, rfl, ?_⟩
    rw [dec_int]
    by_cases h0 : u.length = 0
    · have hu : u = [] := List.length_eq_zero_iff.mp h0
      rw [show ((u.length : Int) == 0) = true by rw [beq_iff_eq]; omega]
      refine iteT ?_
      refine ⟨_, rfl, u, rfl, hl, hw, fun La Ha hLa sa hLLa => ⟨_, rfl, u, rfl, hl, hw, fun Lb Hb hLb sb hLLb => ⟨by show 2 ≤ sizeLine; decide, fun pa hpa => ?_⟩⟩⟩
      refine ⟨Nat.zero_le _, fun pb hpb => ⟨Nat.zero_le _, fun pc hpc => ⟨by show 2 ≤ sizeLine; decide, fun pd hpd => ?_⟩⟩⟩
      have w1 := same_upd (o := .lst [V.ref La, V.ref Lb]) hpa
      have w2 := same_upd (o := .lst []) hpb
      have w3 := same_upd (o := .lst []) hpc
      have w4 := same_upd (o := .lst [V.ref pb, V.ref pc]) hpd
      have ep : natsV (perL u) = [] := by rw [hu]; rfl
      have eb : natsV (borL u) = [] := by rw [hu]; rfl
      rw [ep] at hLLa
      rw [eb] at hLLb
      refine ⟨_, _, rfl, Eqv.of (.inl (.inl ((w2.trans (w3.trans w4)) _ _ upd_same))) (.inl (.inl upd_same)) (by show 2 ≤ 100000; decide) (.cons (Eqv.list (xs := []) (.inl (.inl ((sb.trans (w1.trans (w2.trans (w3.trans w4)))) _ _ hLLa))) (.inl (.inl ((w3.trans w4) _ _ upd_same))) (Nat.zero_le _) (fun _ h => by cases h)) (.cons (Eqv.list (xs := []) (.inl (.inl ((w1.trans (w2.trans (w3.trans w4))) _ _ hLLb))) (.inl (.inl (w4 _ _ upd_same))) (Nat.zero_le _) (fun _ h => by cases h)) .nil)), fun Hc sc => ?_⟩
      exact q Hc (smH9.trans (sa.trans (sb.trans (w1.trans (w2.trans (w3.trans (w4.trans sc)))))))
    · have hu : u ≠ [] := fun z => h0 (by rw [z]; rfl)
      rw [show ((u.length : Int) == 0) = false by rw [beq_eq_false_iff_ne]; omega]
      refine iteF ?_
      -- least
      refine ⟨_, rfl, _, rfl, by show 1 ≤ sizeLine; decide, fun pa hpa => ?_⟩
      have w1 := same_upd (o := .lst [V.int (u.length : Int)]) hpa
      refine ⟨D1, pa, _, _, rfl, rfl, w1 _ _ g19, upd_same, ?_, fun pb hpb => ?_⟩
      · rw [nat_len]
        show (perL u).length + 1 ≤ sizeLine
        omega
      have w2 := same_upd (o := .lst (natsV (perL u) ++ [V.int (u.length : Int)])) hpb
      refine ⟨pb, ((perL u).map fun (d : Nat) => (d : Int)) ++ [(u.length : Int)], rfl, .inl (.inl ?_), by rw [List.length_append]; show 0 < _ + 1; omega, fun m hm hle => ?_⟩
      · rw [upd_same, nat_int, List.map_append]
        rfl
      have em := lp_min hu hm hle
      subst em
      have smHA := smH9.trans (w1.trans w2)
      have gA := (w1.trans w2) _ _ g19
      revert smHA gA
      generalize upd (upd H9 pa (.lst [V.int (u.length : Int)])) pb (.lst (natsV (perL u) ++ [V.int (u.length : Int)])) = HA
      intro smHA gA
      -- parts
      refine ⟨_, rfl, _, _, rfl, rfl, 1, (u.length : Int) + 1, rfl, ⟨by decide, by decide, by omega, by omega⟩, fun DD hD => ?_⟩
      refine lc_range (lo := 1) (n := ((u.length : Int) + 1 - 1).toNat) (fun i H3 => Same HA H3 ∧ H3 DD = some (.lst (natsV ((List.range' 1 i).filter (okSize u))))) ⟨same_upd hD, upd_same⟩ ?_ ?_
      · rintro i H3 hi ⟨sm, hDD⟩
        have ei : (1 + (i : Int)) = ((i + 1 : Nat) : Int) := by omega
        have fin := fun (b : Bool) (hb : b = okSize u (i + 1)) => keep_turn (f := okSize u) hD (by omega) sm hDD hb
        refine ⟨rfl, ?_⟩
        rw [ei]
        refine ⟨_, rfl, .inl ⟨_, rfl, _, rfl, _, _, rfl, rfl, by show (0 : Int) < ((i + 1 : Nat) : Int); omega, rfl, ?_⟩⟩
        rw [dec_int, int_mod_beq]
        refine ⟨_, rfl, ?_⟩
        cases hb : (u.length % (i + 1) == 0) with
        | false =>
          refine iteF (iteF ?_)
          have z := fin false (by unfold okSize; rw [hb]; rfl)
          rw [if_neg Bool.false_ne_true] at z
          exact z
        | true =>
          refine iteT ?_
          refine ⟨_, rfl, _, rfl, ((i + 1 : Nat) : Int), rfl, S u, rfl, hs, _, rfl, _, rfl, _, _, rfl, rfl, ⟨by omega, by omega⟩, ?_⟩
          have hm := take_mul_le u (i + 1)
          refine ⟨u.take (i + 1), u.length / (i + 1), by rw [cut_take], rfl, by omega, ?_, ?_, ?_⟩
          · have := Nat.div_le_self u.length (i + 1)
            omega
          · rw [List.length_take]
            omega
          · refine ⟨_, rfl, rfl, _, rfl, ?_⟩
            have z := fin (decide (V.str (S (rep (List.take (i + 1) u) (u.length / (i + 1)))) = V.str (S u))) (by rw [V_dec]; unfold okSize; rw [hb]; rfl)
            revert z
            generalize decide (V.str (S (rep (List.take (i + 1) u) (u.length / (i + 1)))) = V.str (S u)) = b
            intro z
            cases b with
            | true =>
              rw [if_pos rfl] at z
              obtain ⟨acc, z1, z2, z3⟩ := z
              exact iteT ⟨_, rfl, acc, z1, z2, z3⟩
            | false =>
              rw [if_neg Bool.false_ne_true] at z
              exact iteF z
      rintro HB ⟨smB, hDDs⟩
      have en2 : ((u.length : Int) + 1 - 1).toNat = u.length := by omega
      rw [en2] at hDDs
      obtain ⟨rr, er, hz0, hz1⟩ := sizes_cons hu
      have ea : atI (natsV (sizes u)) 0 = some (.int (((sizes u).headD 0 : Nat) : Int)) := by
        rw [er]
        exact atI_nat (j := 0) rfl
      obtain ⟨v0, v1', v2', v3', v4'⟩ := root_len hu
      have hlow1 : Low (rootP u).1 := fun c hc => hw c (v3' c hc)
      -- word, times = root(text)
      refine ⟨_, rfl, u, rfl, by omega, hw, hu, fun pr HC hpr sC hCr => ?_⟩
      refine ⟨pr, _, rfl, .inl (.inl hCr), rfl, _, _, rfl, _, _, rfl, rfl, ?_⟩
      have gC := sC _ _ (smB _ _ gA)
      have hDC := sC _ _ hDDs
      -- the second comparison
      refine ⟨_, rfl, u, rfl, by omega, hw, hu, _, rfl, _, rfl, _, rfl, u, rfl, hl, hw, fun Lp HD hLp sD hLLp => ⟨by show 4 ≤ sizeLine; decide, fun p4 hp4 => ?_⟩⟩
      have x1 := same_upd (o := .lst [V.int (lp u : Int), V.str (S (rootP u).1), V.int ((rootP u).2 : Int), V.ref Lp]) hp4
      have hLd : SqL K (upd HD p4 (.lst [V.int (lp u : Int), V.str (S (rootP u).1), V.int ((rootP u).2 : Int), V.ref Lp])) DD (natsV (sizes u)) := .inl (.inl (x1 _ _ (sD _ _ hDC)))
      refine ⟨_, rfl, _, rfl, _, rfl, DD, _, 0, _, rfl, rfl, hLd, ea, _, rfl, S u, rfl, hs, ?_⟩
      refine ⟨_, rfl, _, rfl, DD, _, 0, _, rfl, rfl, hLd, ea, _, _, rfl, rfl, ⟨by omega, by omega⟩, _, rfl, by show 4 ≤ sizeLine; decide, fun p5 hp5 => ?_⟩
      have x2 := same_upd (o := .lst [V.int (lp u : Int), V.str (cutS (S u) none (some (((sizes u).headD 0 : Nat) : Int))), V.int ((u.length : Int) / (((sizes u).headD 0 : Nat) : Int)), V.ref D1]) hp5
      have eroot := root_eq u hu
      have er1 : V.str (S (rootP u).1) = V.str (cutS (S u) none (some (((sizes u).headD 0 : Nat) : Int))) := by
        rw [cut_take, ← eroot]
        rfl
      have er2 : V.int ((rootP u).2 : Int) = V.int ((u.length : Int) / (((sizes u).headD 0 : Nat) : Int)) := by
        rw [← eroot]
        rfl
      refine ⟨_, _, rfl, Eqv.of (.inl (.inl (x2 _ _ upd_same))) (.inl (.inl upd_same)) (by show 4 ≤ 100000; decide) (.cons (.inl ⟨rfl, True.intro⟩) (.cons (.inl ⟨er1, True.intro⟩) (.cons (.inl ⟨er2, True.intro⟩) (.cons (Eqv.list (.inl (.inl ((x1.trans x2) _ _ hLLp))) (.inl (.inl ((x1.trans x2) _ _ (sD _ _ gC)))) (by rw [nat_len]; omega) (nat_flat _)) .nil)))), fun HE sE => ⟨_, rfl, iteF ?_⟩⟩
      have smHE : Same H HE := smHA.trans (smB.trans (sC.trans (sD.trans (x1.trans (x2.trans sE)))))
      -- the end
      refine ⟨_, rfl, (rootP u).1, rfl, by omega, hlow1, v0, fun pq HF hpq sF hFq => ?_⟩
      have hmul : (rootP u).1.length * (rootP u).2 = u.length := by
        have := congrArg List.length v4'
        rw [rep_len, Nat.mul_comm] at this
        exact this
      refine ⟨_, rfl, _, rfl, (rootP u).1, (rootP u).2, rfl, rfl, by omega, by omega, by omega, ?_⟩
      refine ⟨_, rfl, u, rfl, by omega, hw, hu, fun pw HG hpw sG hGw => ?_⟩
      refine ⟨.ref pw, _, _, _, true, rfl, .ty _, sqt_ty (.inl (.inl hGw)), kit_ty (by decide +kernel), by show 3 ≤ sizeLine; decide, fun p6 hp6 => ?_⟩
      have y1 := same_upd (o := .lst [V.ref pq, V.str (S (rep (rootP u).1 (rootP u).2)), V.bl true]) hp6
      refine ⟨_, rfl, by show 2 ≤ sizeLine; decide, fun p7 hp7 => ?_⟩
      have y2 := same_upd (o := .tup [V.str (S (rootP u).1), V.int 1]) hp7
      refine ⟨_, rfl, by show 3 ≤ sizeLine; decide, fun p8 hp8 => ?_⟩
      have y3' := same_upd (o := .lst [V.ref p7, V.str (S u), V.bl true]) hp8
      have e7 : HF pq = some (.tup [V.str (S (rootP u).1), V.int 1]) := by
        rw [hFq, root_root hu]
        rfl
      refine ⟨_, _, rfl, Eqv.of (.inl (.inl ((y2.trans y3') _ _ upd_same))) (.inl (.inl upd_same)) (by show 3 ≤ 100000; decide) (.cons (Eqv.tup (.inl (.inl ((sG.trans (y1.trans (y2.trans y3'))) _ _ e7))) (.inl (.inl (y3' _ _ upd_same))) (by show 2 ≤ 100000; decide) (rootV_flat ((rootP u).1, 1))) (.cons (.inl ⟨by rw [v4'], True.intro⟩) (.cons (.inl ⟨rfl, True.intro⟩) .nil))), fun HH sH => ?_⟩
      exact q HH (smHE.trans (sF.trans (sG.trans (y1.trans (y2.trans (y3'.trans sH))))))
end
end K4
set_option Elab.async false
set_option linter.all false
set_option maxRecDepth 100000
set_option maxHeartbeats 8000000
namespace K4
open PySem PySem.Spec PyProof.Rows L2 K4M
/-- behind the turn of one dice the others stand as they stood -/
theorem dices_after {ds : List Addr} {L d : Addr} {i : Nat} {H2 H9 : Hp} (hdi : ds[i]? = some d) (hnd : ds.Nodup) (neL : L ≠ d) (hL2 : H2 L = some (.lst (ds.map V.ref))) (hd2 : ∀ j d, i ≤ j → ds[j]? = some d → Dice H2 d 0) (kp : Kept H2 H9 d) :
    H9 L = some (.lst (ds.map V.ref)) ∧ ∀ j d', i + 1 ≤ j → ds[j]? = some d' → Dice H9 d' 0 := by
  refine ⟨kp _ _ neL hL2, fun j d' hj hjd => ?_⟩
  obtain ⟨b1, b2, b3, b4, e1, r⟩ := hd2 j d' (by omega) hjd
  refine ⟨b1, b2, b3, b4, kp _ _ (fun z => ?_) e1, r⟩
  have hj2 : j < ds.length := (List.getElem?_eq_some_iff.mp hjd).1
  have hi2 : i < ds.length := (List.getElem?_eq_some_iff.mp hdi).1
  have := (List.getElem?_inj hi2 hnd).mp (hdi.trans (hjd.trans (congrArg some z)).symm)
  omega
theorem dices_ne {ds : List Addr} {L : Addr} {H1 : Hp} (hLs : H1 L = some (.lst (ds.map V.ref))) {d : Addr} (hd : d ∈ ds) {n : Nat} (h : Dice H1 d n) : L ≠ d := fun z => by
  obtain ⟨b1, b2, b3, b4, e, _⟩ := h
  rw [← z, hLs] at e
  cases ds with
  | nil => cases hd
  | cons _ _ => simp at e
theorem cutV_mem {xs : List V} {lo hi : Option Int} {x : V} (h : x ∈ cutV xs lo hi) : x ∈ xs := by
  unfold cutV at h
  exact List.mem_of_mem_drop (List.mem_of_mem_take h)
/-- a text of letters, not too long -/
def TextV (x : V) : Prop := ∃ u : List Nat, x = .str (S u) ∧ u.length ≤ 1000 ∧ Low u
theorem low_app {a b : List Nat} (ha : Low a) (hb : Low b) : Low (a ++ b) := fun c hc => by
  rcases List.mem_append.mp hc with h | h
  · exact ha c h
  · exact hb c h
section
variable {P : Program} {w : World} {K : PySem.W.Frag} {mg : Str → Option Value} {base : Heap}
theorem sc_law : FnScope ["script", "dice", "ground", "texts", "word", "text"] ["script"] (defScope st_law) := ⟨rfl, rfl, rfl, by decide +kernel, rfl, by decide +kernel, by decide +kernel⟩
def spLaw (K : PySem.W.Frag) : Sp := fun vs H Q _ => ∃ (a : Addr) (ns : List Int), vs = [.ref a] ∧ SqL K H a (ns.map V.int) ∧ ns.length ≤ 63 ∧ ∀ H', Q (.bl true) H'
theorem ok_law (B : Bi mg) (D : Df K mg "law" st_law ["script"]) (CDs : Cal P w K mg base 2 "_law_dices" ["script", "few"] (spDices K)) (CDr : Cal P w K mg base 2 "_law_draw" ["dice", "many"] spDraw)
    (CG : Cal P w K mg base 4 "_law_ground" ["dice", "most"] spGround) (CT : Cal P w K mg base 4 "_law_text" ["dice", "ground", "most"] (spText0 K)) (CR : Cal P w K mg base 7 "_law_text_right" ["text"] spTright) :
    FnOk P w K mg base CX0 8 D.f D.fd ["script"] (spLaw K) := by
  refine D.F.ok sc_law (fun vs H Q E h => ?_) (fun cdv A outer s' H vs Q E hr h => ?_)
  · obtain ⟨a, ns, rfl, _⟩ := h
    rfl
  · obtain ⟨a, ns, rfl, hS, hlen, q⟩ := h
    have r2 : Room 2 _ := hr.mono (by decide)
    have r4 : Room 4 _ := hr.mono (by decide)
    refine ⟨_, (pss_cons (ps_for PassesOwn.never rfl (pi_list (pcall CDs r2 (by rfl) (pa_cons (pv 0) (pa_cons pe_int pa_nil)))) (pg_name (i := 1) sc_law.nd rfl (.inl rfl)) (pss_cons (ps_set (i := 2) sc_law.nd rfl (.inl rfl) (pcall CG r4 (by rfl) (pa_cons (pv 1) (pa_cons pe_int pa_nil)))) (pss_cons (ps_set (i := 3) sc_law.nd rfl (.inl rfl) (pe_lst (pa_cons (pcall CT r4 (by rfl) (pa_cons (pv 1) (pa_cons (pv 2) (pa_cons pe_int pa_nil)))) (pa_cons (pcall CT r4 (by rfl) (pa_cons (pv 1) (pa_cons (pv 2) (pa_cons pe_int pa_nil)))) pa_nil)))) (pss_cons (ps_set (i := 4) sc_law.nd rfl (.inl rfl) (pcall CT r4 (by rfl) (pa_cons (pv 1) (pa_cons (pv 2) (pa_cons pe_int pa_nil))))) (pss_cons (ps_set (i := 3) sc_law.nd rfl (.inl rfl) (pe_op op_cat (pv 3) (pe_lst (pa_cons (pe_op op_mulS (pv 4) (pe_op op_add pe_int (pcall CDr r2 (by rfl) (pa_cons (pv 1) (pa_cons pe_int pa_nil))))) (pa_cons (pe_op op_add_str (pe_op op_mulS (pv 4) pe_int) (pe_slice sl_str (pv 4) po_none (po_some (pcall CDr r2 (by rfl) (pa_cons (pv 1) (pa_cons (pe_op op_add (pe_callB call_len_str (by rfl) B.len PySem.boot_len (pa_cons (pv 4) pa_nil)) pe_int) pa_nil)))))) (pa_cons (pe_op op_mulS (pe_ix ix_str (pe_ix (r := rIxT K) ix_tup (pv 2) pe_int (fun _ _ => rfl)) pe_int (fun _ _ => rfl)) (pcall CDr r2 (by rfl) (pa_cons (pv 1) (pa_cons pe_int pa_nil)))) pa_nil)))))) (pss_one (ps_for PassesOwn.never rfl (pi_list (pe_op op_cat (pv 3) (pe_slice sl_list (pv 3) po_none (po_some pe_int)))) (pg_name (i := 5) sc_law.nd rfl (.inl rfl)) (pss_one (ps_if (pt_not (pt_val (pcall CR hr (by rfl) (pa_cons (pv 5) pa_nil)))) pss_never pss_nil))))))))) (pss_one (ps_ret pe_bl))), ?_⟩
    have e16 : sizeLine = 16777216 := by decide
    refine ⟨_, rfl, a, ns, 2, rfl, hS, by decide, fun L ds H1 hL sm1 hLs hdl hds hnd => ?_⟩
    refine ⟨L, rfl, ⟨_, .inl (.inl hLs)⟩, ?_⟩
    refine for_list (K := K) (a := L) (xs := ds.map V.ref) (fun i σ H2 => ∃ y1 y2 y3 y4 y5 : Option V, σ = [some (.ref a), y1, y2, y3, y4, y5] ∧ H2 L = some (.lst (ds.map V.ref)) ∧ ∀ j d, i ≤ j → ds[j]? = some d → Dice H2 d 0)
      ⟨none, none, none, none, none, rfl, hLs, fun j d _ hj => (hds d (List.mem_of_getElem? hj)).1⟩ (fun i σ H2 _ ⟨_, _, _, _, _, _, z, _⟩ => .inl (.inl z)) ?_ ?_
    · rintro i x σ H2 hx ⟨y1, y2, y3, y4, y5, rfl, hL2, hd2⟩
      rw [List.getElem?_map] at hx
      obtain ⟨d, hdi, rfl⟩ : ∃ d, ds[i]? = some d ∧ x = V.ref d := by
        cases e : ds[i]? with
        | none => rw [e] at hx; cases hx
        | some d => rw [e] at hx; exact ⟨d, rfl, (Option.some.inj hx).symm⟩
      have hdm := List.mem_of_getElem? hdi
      have neL : L ≠ d := dices_ne hLs hdm (hds d hdm).1
      have hD0 := hd2 i d (Nat.le_refl _) hdi
      -- ground
      refine ⟨_, rfl, d, 80, 0, rfl, hD0, by decide, by decide, fun g H3 u gap hg k3 hgT hlow hpw hgood hD3 => ?_⟩
      have hu2 : 2 ≤ u.length ∧ u.length ≤ 5 ∧ 2 ≤ gap ∧ gap ≤ 4 := by
        have all : ∀ g ∈ tabG, 2 ≤ g.1 ∧ g.1 ≤ 5 ∧ 2 ≤ g.2 ∧ g.2 ≤ 4 := by decide
        exact all _ hgood.mem
      have hune : u ≠ [] := fun z => by rw [z] at hu2; exact absurd hu2.1 (by decide)
      have hgd : g ≠ d := hD0.ne hg
      -- two texts
      refine ⟨_, rfl, _, rfl, d, g, u, gap, 30, 10, rfl, hD3, by decide, hgd, hgT, hune, by omega, by omega, by omega, by decide, fun x1 H4 hx1 hm1 hD4 k4 => ?_⟩
      have hg4 := k4 _ _ hgd hgT
      refine ⟨_, rfl, _, rfl, d, g, u, gap, 12, _, rfl, hD4, by decide, hgd, hg4, hune, by omega, by omega, by omega, by decide, fun x2 H5 hx2 hm2 hD5 k5 => ⟨by show 2 ≤ sizeLine; decide, fun p1 hp1 => ?_⟩⟩
      have hg5 := k5 _ _ hgd hg4
      have t1 := same_upd (o := .lst [V.str (S x1), V.str (S x2)]) hp1
      have hp1d : p1 ≠ d := hD5.ne hp1
      -- word
      refine ⟨_, rfl, _, rfl, d, g, u, gap, 6, _, rfl, Same.dice t1 hD5, by decide, hgd, t1 _ _ hg5, hune, by omega, by omega, by omega, by decide, fun wd H6 hwd hm6 hD6 k6 => ?_⟩
      have hg6 := k6 _ _ hgd (t1 _ _ hg5)
      have hp16 := k6 _ _ hp1d (upd_same (H := H5) (a := p1) (o := .lst [V.str (S x1), V.str (S x2)]))
      -- three more
      refine ⟨_, rfl, _, rfl, _, rfl, d, 4, _, rfl, hD6, by decide, by decide, by decide, fun r1 H7 r10 r11 hD7 k7 => ⟨_, _, rfl, rfl, ?_⟩⟩
      have er1 : (1 + r1) = (((1 + r1).toNat : Nat) : Int) := by omega
      have hk1 : wd.length * (1 + r1).toNat ≤ 6 * 4 := Nat.mul_le_mul hwd (by omega)
      refine ⟨wd, (1 + r1).toNat, rfl, by rw [← er1], by omega, by omega, by omega, ?_⟩
      refine ⟨_, rfl, wd, 2, rfl, rfl, by omega, by decide, by omega, ?_⟩
      refine ⟨_, rfl, _, rfl, _, rfl, S wd, rfl, by rw [S_len]; omega, _, _, rfl, rfl, d, (wd.length : Int) + 1, _, rfl, hD7, by decide, by omega, by omega, fun r2' H8 r20 r21 hD8 k8 => ⟨r2', rfl, S wd, rfl, by rw [S_len]; omega, ?_⟩⟩
      have er2 : r2' = ((r2'.toNat : Nat) : Int) := by omega
      have ec2 : cutS (S wd) none (some r2') = S (wd.take r2'.toNat) := by
        rw [← cut_take, ← er2]
      refine ⟨_, _, rfl, rfl, by rw [ec2, S_len, S_len, rep_len, List.length_take]; omega, ?_⟩
      have hp18 := k8 _ _ hp1d (k7 _ _ hp1d hp16)
      have hg8 := k8 _ _ hgd (k7 _ _ hgd hg6)
      obtain ⟨c0, u', rfl⟩ : ∃ c u', u = c :: u' := by
        cases u with
        | nil => exact absurd rfl hune
        | cons c u' => exact ⟨c, u', rfl⟩
      refine ⟨_, rfl, g, _, 0, .str (S (c0 :: u')), rfl, rfl, .inl (.inl hg8), atI_nat (j := 0) rfl, S (c0 :: u'), 0, c0, rfl, rfl, by rw [S_len]; omega, atI_nat (j := 0) rfl, _, rfl, d, 9, _, rfl, hD8, by decide, by decide, by decide, fun r3 H9 r30 r31 hD9 k9 => ?_⟩
      have er3 : r3 = ((r3.toNat : Nat) : Int) := by omega
      refine ⟨[c0], r3.toNat, rfl, by rw [← er3], by show 1 * r3.toNat ≤ 100000; omega, by omega, by show 1 ≤ 100000; decide, by show 3 ≤ sizeLine; decide, fun p2 hp2 => ?_⟩
      have hp19 := k9 _ _ hp1d hp18
      have t2 := same_upd (o := .lst [V.str (S (rep wd (1 + r1).toNat)), V.str (S (rep wd 2) ++ cutS (S wd) none (some r2')), V.str (S (rep [c0] r3.toNat))]) hp2
      refine ⟨p1, p2, _, _, rfl, rfl, t2 _ _ hp19, upd_same, by show 5 ≤ sizeLine; decide, fun p3 hp3 => ?_⟩
      have t3 := same_upd (o := .lst ([V.str (S x1), V.str (S x2)] ++ [V.str (S (rep wd (1 + r1).toNat)), V.str (S (rep wd 2) ++ cutS (S wd) none (some r2')), V.str (S (rep [c0] r3.toNat))])) hp3
      have hwlow : Low wd := fun c hc => hlow c (hm6 c hc)
      have hall : ∀ x ∈ ([V.str (S x1), V.str (S x2)] ++ [V.str (S (rep wd (1 + r1).toNat)), V.str (S (rep wd 2) ++ cutS (S wd) none (some r2')), V.str (S (rep [c0] r3.toNat))]), TextV x := fun x hx => by
        rcases List.mem_cons.mp hx with rfl | hx
        · exact ⟨x1, rfl, by omega, fun c hc => hlow c (hm1 c hc)⟩
        rcases List.mem_cons.mp hx with rfl | hx
        · exact ⟨x2, rfl, by omega, fun c hc => hlow c (hm2 c hc)⟩
        rcases List.mem_cons.mp hx with rfl | hx
        · exact ⟨_, rfl, by rw [rep_len, Nat.mul_comm]; omega, fun c hc => hwlow c (rep_mem hc)⟩
        rcases List.mem_cons.mp hx with rfl | hx
        · refine ⟨rep wd 2 ++ wd.take r2'.toNat, by rw [ec2, S_app], by rw [List.length_append, rep_len, List.length_take]; omega, low_app (fun c hc => hwlow c (rep_mem hc)) fun c hc => hwlow c (List.mem_of_mem_take hc)⟩
        · rw [List.mem_singleton.mp hx]
          exact ⟨_, rfl, by rw [rep_len]; show r3.toNat * 1 ≤ 1000; omega, fun c hc => hlow c (by rw [List.mem_singleton.mp (rep_mem hc)]; exact List.mem_cons_self ..)⟩
      have hlen5 : ([V.str (S x1), V.str (S x2)] ++ [V.str (S (rep wd (1 + r1).toNat)), V.str (S (rep wd 2) ++ cutS (S wd) none (some r2')), V.str (S (rep [c0] r3.toNat))]).length = 5 := rfl
      generalize ([V.str (S x1), V.str (S x2)] ++ [V.str (S (rep wd (1 + r1).toNat)), V.str (S (rep wd 2) ++ cutS (S wd) none (some r2')), V.str (S (rep [c0] r3.toNat))]) = txs at t3 hall hlen5
      refine ⟨_, rfl, _, rfl, _, rfl, p3, _, rfl, .inl (.inl upd_same), fun p4 hp4 => ?_⟩
      have t4 := same_upd (o := .lst (cutV txs none (some 1))) hp4
      refine ⟨p3, p4, _, _, rfl, rfl, t4 _ _ upd_same, upd_same, ?_, fun p5 hp5 => ?_⟩
      · have := cutV_length txs none (some 1)
        omega
      have t5 := same_upd (o := .lst (txs ++ cutV txs none (some 1))) hp5
      refine ⟨p5, rfl, ⟨_, .inl (.inl upd_same)⟩, ?_⟩
      have kAll := k3.trans (k4.trans (k5.trans ((Kept.of t1).trans (k6.trans (k7.trans (k8.trans (k9.trans (Kept.of (t2.trans (t3.trans (t4.trans t5)))))))))))
      have hlist := upd_same (H := upd (upd (upd H9 p2 (.lst [V.str (S (rep wd (1 + r1).toNat)), V.str (S (rep wd 2) ++ cutS (S wd) none (some r2')), V.str (S (rep [c0] r3.toNat))])) p3 (.lst txs)) p4 (.lst (cutV txs none (some 1)))) (a := p5) (o := .lst (txs ++ cutV txs none (some 1)))
      revert kAll hlist
      generalize upd (upd (upd (upd H9 p2 (.lst [V.str (S (rep wd (1 + r1).toNat)), V.str (S (rep wd 2) ++ cutS (S wd) none (some r2')), V.str (S (rep [c0] r3.toNat))])) p3 (.lst txs)) p4 (.lst (cutV txs none (some 1)))) p5 (.lst (txs ++ cutV txs none (some 1))) = HX
      intro kAll hlist
      refine for_list (K := K) (a := p5) (xs := txs ++ cutV txs none (some 1)) (fun j σ H3 => ∃ y5 : Option V, σ = [some (.ref a), some (.ref d), some (.ref g), some (.ref p3), some (.str (S wd)), y5] ∧ Same HX H3)
        ⟨y5, rfl, Same.refl _⟩ (fun j σ H3 _ ⟨_, _, z⟩ => .inl (.inl (z _ _ hlist))) ?_ ?_
      · rintro j x σ H3 hx ⟨z5, rfl, sm⟩
        obtain ⟨v, rfl, hv1, hv2⟩ : TextV x := by
          rcases List.mem_append.mp (List.mem_of_getElem? hx) with h | h
          · exact hall x h
          · exact hall x (cutV_mem h)
        exact ⟨_, rfl, v, rfl, hv1, hv2, fun H4 s4 => ⟨_, rfl, iteF ⟨_, rfl, sm.trans s4⟩⟩⟩
      · rintro σ H3 ⟨z5, rfl, sm⟩
        obtain ⟨g1, g2⟩ := dices_after hdi hnd neL hL2 hd2 (kAll.trans (Kept.of sm))
        exact ⟨_, _, _, _, _, rfl, g1, g2⟩
    · rintro σ H2 ⟨y1, y2, y3, y4, y5, rfl, hL2, hd2⟩
      exact q H2
end
end K4
set_option Elab.async false
set_option linter.all false
set_option maxRecDepth 100000
set_option maxHeartbeats 4000000
namespace K4
open PySem PySem.Spec PyProof.Rows L2 K4M
/-- a def as the top has left it -/
def df_mk {K : PySem.W.Frag} {h : Heap} {mg : Str → Option Value} (X : K.In h) (G : h.Ns mainGlobals mg) {x : Str} {st : Stmt} {ps : List Str} {f : Addr} {oc : Value} {od an : Option Addr} {sl : Array (Option Value)} {kV dc pm cd ct : Value}
    (a : PySem.W.nsIn K mainGlobals x = some (some (.ref f))) (l : K.lookup f = some ⟨oc, od, .func (PySem.W.fnOf x x (defArgs st) (defBody st) (defScope st) .none kV dc pm an cd ct), sl⟩) (c : PySem.W.codeIn K cd x = true) (k : PySem.W.keepIn K (.ref f) = true)
    (b : ∀ (kV doc pm : Value) (an : Option Addr) (cdv ct : Value) (us : List Value), us.length = ps.length → bindArgs (PySem.W.fnOf x x (defArgs st) (defBody st) (defScope st) .none kV doc pm an cdv ct) ⟨us, []⟩ = pure (ps.zip us)) : Df K mg x st ps :=
  ⟨f, _, fun_mk (st := st) l c k, (fun_mk (st := st) l c k).binds b, PySem.W.mg_of X G a⟩
theorem all_mk {l : PySem.W.OpenLaw} {w : World} {K : PySem.W.Frag} {h : Heap} {mg : Str → Option Value} {fa f1 : Addr} (X : K.In h) (G : h.Ns mainGlobals mg) (hfa : mg "law" = some (.ref fa))
    {od1 an1 : Option Addr} {sl1 : Array (Option Value)} {oc1 kV1 dc1 pm1 cd1 ct1 : Value}
    (a1 : PySem.W.nsIn K mainGlobals "law" = some (some (.ref f1))) (l1 : K.lookup f1 = some ⟨oc1, od1, .func (PySem.W.fnOf "law" "law" (defArgs st_law) (defBody st_law) (defScope st_law) .none kV1 dc1 pm1 an1 cd1 ct1), sl1⟩) (c1 : PySem.W.codeIn K cd1 "law" = true) (k1 : PySem.W.keepIn K (.ref f1) = true)
    (B : Bi mg) {t : Tok} (lt : PySem.W.nsIn K mainGlobals "LETTERS" = some (some (.str LET t)))
    (d__law_dice : Df K mg "_law_dice" st__law_dice ["script", "at"])
    (d__law_dices : Df K mg "_law_dices" st__law_dices ["script", "few"])
    (d__law_mixed : Df K mg "_law_mixed" st__law_mixed ["seed", "spin", "at"])
    (d__law_draw : Df K mg "_law_draw" st__law_draw ["dice", "many"])
    (d__law_one_of : Df K mg "_law_one_of" st__law_one_of ["dice", "some"])
    (d__law_letters : Df K mg "_law_letters" st__law_letters ["dice", "many"])
    (d__law_ground : Df K mg "_law_ground" st__law_ground ["dice", "most"])
    (d__law_text : Df K mg "_law_text" st__law_text ["dice", "ground", "most"])
    (d_is_made_of : Df K mg "is_made_of" st_is_made_of ["value", "signs"])
    (d_is_text : Df K mg "is_text" st_is_text ["value"])
    (d_check_text : Df K mg "check_text" st_check_text ["value"])
    (d__is_had : Df K mg "_is_had" st__is_had ["text", "period"])
    (d_periods : Df K mg "periods" st_periods ["text"])
    (d_borders : Df K mg "borders" st_borders ["text"])
    (d_is_whole_number : Df K mg "is_whole_number" st_is_whole_number ["value"])
    (d_is_count : Df K mg "is_count" st_is_count ["value"])
    (d_check_number : Df K mg "check_number" st_check_number ["value", "least"])
    (d_has_period : Df K mg "has_period" st_has_period ["text", "period"])
    (d_is_word : Df K mg "is_word" st_is_word ["value"])
    (d_check_word : Df K mg "check_word" st_check_word ["value"])
    (d_least_period : Df K mg "least_period" st_least_period ["word"])
    (d_root : Df K mg "root" st_root ["word"])
    (d__law_text_right : Df K mg "_law_text_right" st__law_text_right ["text"])
    (d__law_exact : Df K mg "_law_exact" st__law_exact ["mine", "theirs"])
    : ∃ fd : FuncData, (∀ (s : Shared) (v : Value), BindsTo s fd ⟨[v], []⟩ [("script", v)]) ∧ ∀ base : Heap, K.In base → base.Ns mainGlobals mg → FnOk l.prog w K mg base CX0 8 fa fd ["script"] (spLaw K) := by
  have e := hfa.symm.trans (PySem.W.mg_of X G a1)
  cases e
  have F1 := fun_mk (st := st_law) l1 c1 k1
  have b1 := F1.binds (ps := ["script"]) fun _ _ _ _ _ _ us hl => match us, hl with | [_], _ => rfl
  refine ⟨PySem.W.fnOf "law" "law" (defArgs st_law) (defBody st_law) (defScope st_law) .none kV1 dc1 pm1 an1 cd1 ct1, fun s v => .of_eq rfl, fun base _ _ => ?_⟩
  have c_exact2 := d__law_exact.cal (P := l.prog) (w := w) (base := base) (ok_exact B d__law_exact 2)
  have c__law_dice := d__law_dice.cal (P := l.prog) (w := w) (base := base) (ok_dice B d__law_dice)
  have c__law_dices := d__law_dices.cal (P := l.prog) (w := w) (base := base) (ok_dices B d__law_dices c__law_dice)
  have c__law_mixed := d__law_mixed.cal (P := l.prog) (w := w) (base := base) (ok_mixed B d__law_mixed)
  have c__law_draw := d__law_draw.cal (P := l.prog) (w := w) (base := base) (ok_draw B d__law_draw c__law_mixed)
  have c__law_one_of := d__law_one_of.cal (P := l.prog) (w := w) (base := base) (ok_one_of B d__law_one_of c__law_draw)
  have c__law_letters := d__law_letters.cal (P := l.prog) (w := w) (base := base) (ok_letters B d__law_letters c__law_draw)
  have c__law_ground := d__law_ground.cal (P := l.prog) (w := w) (base := base) (ok_ground B d__law_ground c__law_draw c__law_one_of c__law_letters)
  have c__law_text := d__law_text.cal (P := l.prog) (w := w) (base := base) (ok_text0 B d__law_text c__law_draw c__law_one_of)
  have c_is_made_of := d_is_made_of.cal (P := l.prog) (w := w) (base := base) (ok_made B d_is_made_of)
  have c_is_text := d_is_text.cal (P := l.prog) (w := w) (base := base) (ok_text (PySem.W.mg_of X G lt) d_is_text c_is_made_of)
  have c_check_text := d_check_text.cal (P := l.prog) (w := w) (base := base) (ok_ctext d_check_text c_is_text)
  have c__is_had := d__is_had.cal (P := l.prog) (w := w) (base := base) (ok_had d__is_had)
  have c_periods := d_periods.cal (P := l.prog) (w := w) (base := base) (ok_periods B d_periods c_check_text c__is_had)
  have c_borders := d_borders.cal (P := l.prog) (w := w) (base := base) (ok_borders B d_borders c_check_text)
  have c_is_whole_number := d_is_whole_number.cal (P := l.prog) (w := w) (base := base) (ok_whole B d_is_whole_number)
  have c_is_count := d_is_count.cal (P := l.prog) (w := w) (base := base) (ok_count B d_is_count c_is_whole_number)
  have c_check_number := d_check_number.cal (P := l.prog) (w := w) (base := base) (ok_cnum d_check_number c_is_count)
  have c_has_period := d_has_period.cal (P := l.prog) (w := w) (base := base) (ok_hasp B d_has_period c_check_text c_check_number c__is_had)
  have c_is_word := d_is_word.cal (P := l.prog) (w := w) (base := base) (ok_word d_is_word c_is_text)
  have c_check_word := d_check_word.cal (P := l.prog) (w := w) (base := base) (ok_cword d_check_word c_is_word)
  have c_least_period := d_least_period.cal (P := l.prog) (w := w) (base := base) (ok_lp B d_least_period c_check_word c__is_had)
  have c_root := d_root.cal (P := l.prog) (w := w) (base := base) (ok_root B d_root c_check_word c_least_period)
  have c__law_text_right := d__law_text_right.cal (P := l.prog) (w := w) (base := base) (ok_tright B d__law_text_right c_periods c_borders c_has_period c_exact2 c_root c_least_period)
  exact ok_law B ⟨_, _, F1, b1, PySem.W.mg_of X G a1⟩ c__law_dices c__law_draw c__law_ground c__law_text c__law_text_right
end K4
open PySem PySem.W PyProof.Rows
set_option maxRecDepth 100000 in
set_option maxHeartbeats 0 in
theorem PySem.Challenge.cw_owncuts_k03_whole_periods_borders_and_ro_holds : PySem.Challenge.rw_owncuts_k03_whole_periods_borders_and_ro.Holds := by
  w_on; o_law; k_head; (case hw => w_witness2)
  k_fill
  refine L2.walk_of (l := PySem.Challenge.rw_owncuts_k03_whole_periods_borders_and_ro) (n := 63) (k := 8) (x := "script") (CX := fun _ => L2.CX0) (sp := fun w => K4.spLaw _) rfl (by decide) rfl ⟨rfl, by decide, by decide⟩ (fun w h Y => PySem.W.kIn_of Y) ?F (fun _ _ a ns hl _ hS => ⟨a, ns, rfl, hS, hl, fun _ => rfl⟩) (fun _ _ _ _ _ h => h)
  case F =>
    intro w mg fa h KX G hmg
    have z_len : mg "len" = none := PySem.W.mg_none_of KX G (by k_is)
    have z_range : mg "range" = none := PySem.W.mg_none_of KX G (by k_is)
    have z_sum : mg "sum" = none := PySem.W.mg_none_of KX G (by k_is)
    have z_max : mg "max" = none := PySem.W.mg_none_of KX G (by k_is)
    have z_min : mg "min" = none := PySem.W.mg_none_of KX G (by k_is)
    have z_int : mg "int" = none := PySem.W.mg_none_of KX G (by k_is)
    have z_isinstance : mg "isinstance" = none := PySem.W.mg_none_of KX G (by k_is)
    have z_list : mg "list" = none := PySem.W.mg_none_of KX G (by k_is)
    have z_any : mg "any" = none := PySem.W.mg_none_of KX G (by k_is)
    have z_all : mg "all" = none := PySem.W.mg_none_of KX G (by k_is)
    have z_zip : mg "zip" = none := PySem.W.mg_none_of KX G (by k_is)
    have z_bool : mg "bool" = none := PySem.W.mg_none_of KX G (by k_is)
    have z_str : mg "str" = none := PySem.W.mg_none_of KX G (by k_is)
    have z_tuple : mg "tuple" = none := PySem.W.mg_none_of KX G (by k_is)
    have z_dict : mg "dict" = none := PySem.W.mg_none_of KX G (by k_is)
    have z_sorted : mg "sorted" = none := PySem.W.mg_none_of KX G (by k_is)
    have z_set : mg "set" = none := PySem.W.mg_none_of KX G (by k_is)
    have z_repr : mg "repr" = none := PySem.W.mg_none_of KX G (by k_is)
    have z_abs : mg "abs" = none := PySem.W.mg_none_of KX G (by k_is)
    have d__law_dice := K4.df_mk (x := "_law_dice") (st := K4.st__law_dice) (ps := ["script", "at"]) KX G (by k_is) (by k_is) (by k_is) (by k_is) (fun _ _ _ _ _ _ us hl => match us, hl with | [_, _], _ => rfl)
    have d__law_dices := K4.df_mk (x := "_law_dices") (st := K4.st__law_dices) (ps := ["script", "few"]) KX G (by k_is) (by k_is) (by k_is) (by k_is) (fun _ _ _ _ _ _ us hl => match us, hl with | [_, _], _ => rfl)
    have d__law_mixed := K4.df_mk (x := "_law_mixed") (st := K4.st__law_mixed) (ps := ["seed", "spin", "at"]) KX G (by k_is) (by k_is) (by k_is) (by k_is) (fun _ _ _ _ _ _ us hl => match us, hl with | [_, _, _], _ => rfl)
    have d__law_draw := K4.df_mk (x := "_law_draw") (st := K4.st__law_draw) (ps := ["dice", "many"]) KX G (by k_is) (by k_is) (by k_is) (by k_is) (fun _ _ _ _ _ _ us hl => match us, hl with | [_, _], _ => rfl)
    have d__law_one_of := K4.df_mk (x := "_law_one_of") (st := K4.st__law_one_of) (ps := ["dice", "some"]) KX G (by k_is) (by k_is) (by k_is) (by k_is) (fun _ _ _ _ _ _ us hl => match us, hl with | [_, _], _ => rfl)
    have d__law_letters := K4.df_mk (x := "_law_letters") (st := K4.st__law_letters) (ps := ["dice", "many"]) KX G (by k_is) (by k_is) (by k_is) (by k_is) (fun _ _ _ _ _ _ us hl => match us, hl with | [_, _], _ => rfl)
    have d__law_ground := K4.df_mk (x := "_law_ground") (st := K4.st__law_ground) (ps := ["dice", "most"]) KX G (by k_is) (by k_is) (by k_is) (by k_is) (fun _ _ _ _ _ _ us hl => match us, hl with | [_, _], _ => rfl)
    have d__law_text := K4.df_mk (x := "_law_text") (st := K4.st__law_text) (ps := ["dice", "ground", "most"]) KX G (by k_is) (by k_is) (by k_is) (by k_is) (fun _ _ _ _ _ _ us hl => match us, hl with | [_, _, _], _ => rfl)
    have d_is_made_of := K4.df_mk (x := "is_made_of") (st := K4.st_is_made_of) (ps := ["value", "signs"]) KX G (by k_is) (by k_is) (by k_is) (by k_is) (fun _ _ _ _ _ _ us hl => match us, hl with | [_, _], _ => rfl)
    have d_is_text := K4.df_mk (x := "is_text") (st := K4.st_is_text) (ps := ["value"]) KX G (by k_is) (by k_is) (by k_is) (by k_is) (fun _ _ _ _ _ _ us hl => match us, hl with | [_], _ => rfl)
    have d_check_text := K4.df_mk (x := "check_text") (st := K4.st_check_text) (ps := ["value"]) KX G (by k_is) (by k_is) (by k_is) (by k_is) (fun _ _ _ _ _ _ us hl => match us, hl with | [_], _ => rfl)
    have d__is_had := K4.df_mk (x := "_is_had") (st := K4.st__is_had) (ps := ["text", "period"]) KX G (by k_is) (by k_is) (by k_is) (by k_is) (fun _ _ _ _ _ _ us hl => match us, hl with | [_, _], _ => rfl)
    have d_periods := K4.df_mk (x := "periods") (st := K4.st_periods) (ps := ["text"]) KX G (by k_is) (by k_is) (by k_is) (by k_is) (fun _ _ _ _ _ _ us hl => match us, hl with | [_], _ => rfl)
    have d_borders := K4.df_mk (x := "borders") (st := K4.st_borders) (ps := ["text"]) KX G (by k_is) (by k_is) (by k_is) (by k_is) (fun _ _ _ _ _ _ us hl => match us, hl with | [_], _ => rfl)
    have d_is_whole_number := K4.df_mk (x := "is_whole_number") (st := K4.st_is_whole_number) (ps := ["value"]) KX G (by k_is) (by k_is) (by k_is) (by k_is) (fun _ _ _ _ _ _ us hl => match us, hl with | [_], _ => rfl)
    have d_is_count := K4.df_mk (x := "is_count") (st := K4.st_is_count) (ps := ["value"]) KX G (by k_is) (by k_is) (by k_is) (by k_is) (fun _ _ _ _ _ _ us hl => match us, hl with | [_], _ => rfl)
    have d_check_number := K4.df_mk (x := "check_number") (st := K4.st_check_number) (ps := ["value", "least"]) KX G (by k_is) (by k_is) (by k_is) (by k_is) (fun _ _ _ _ _ _ us hl => match us, hl with | [_, _], _ => rfl)
    have d_has_period := K4.df_mk (x := "has_period") (st := K4.st_has_period) (ps := ["text", "period"]) KX G (by k_is) (by k_is) (by k_is) (by k_is) (fun _ _ _ _ _ _ us hl => match us, hl with | [_, _], _ => rfl)
    have d_is_word := K4.df_mk (x := "is_word") (st := K4.st_is_word) (ps := ["value"]) KX G (by k_is) (by k_is) (by k_is) (by k_is) (fun _ _ _ _ _ _ us hl => match us, hl with | [_], _ => rfl)
    have d_check_word := K4.df_mk (x := "check_word") (st := K4.st_check_word) (ps := ["value"]) KX G (by k_is) (by k_is) (by k_is) (by k_is) (fun _ _ _ _ _ _ us hl => match us, hl with | [_], _ => rfl)
    have d_least_period := K4.df_mk (x := "least_period") (st := K4.st_least_period) (ps := ["word"]) KX G (by k_is) (by k_is) (by k_is) (by k_is) (fun _ _ _ _ _ _ us hl => match us, hl with | [_], _ => rfl)
    have d_root := K4.df_mk (x := "root") (st := K4.st_root) (ps := ["word"]) KX G (by k_is) (by k_is) (by k_is) (by k_is) (fun _ _ _ _ _ _ us hl => match us, hl with | [_], _ => rfl)
    have d__law_text_right := K4.df_mk (x := "_law_text_right") (st := K4.st__law_text_right) (ps := ["text"]) KX G (by k_is) (by k_is) (by k_is) (by k_is) (fun _ _ _ _ _ _ us hl => match us, hl with | [_], _ => rfl)
    have d__law_exact := K4.df_mk (x := "_law_exact") (st := K4.st__law_exact) (ps := ["mine", "theirs"]) KX G (by k_is) (by k_is) (by k_is) (by k_is) (fun _ _ _ _ _ _ us hl => match us, hl with | [_, _], _ => rfl)
    refine' K4.all_mk KX G hmg ?a1 ?l1 ?c1 ?k1 ⟨z_len, z_range, z_sum, z_max, z_min, z_int, z_isinstance, z_list, z_any, z_all, z_zip, z_bool, z_str, z_tuple, z_dict, z_sorted, z_set, z_repr, z_abs⟩ ?lt d__law_dice d__law_dices d__law_mixed d__law_draw d__law_one_of d__law_letters d__law_ground d__law_text d_is_made_of d_is_text d_check_text d__is_had d_periods d_borders d_is_whole_number d_is_count d_check_number d_has_period d_is_word d_check_word d_least_period d_root d__law_text_right d__law_exact
    (case a1 => k_is); (case l1 => k_is); (case c1 => k_is); (case k1 => k_is); (case lt => k_is)
