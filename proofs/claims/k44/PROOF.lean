import PyProof.Rows.All
import Wide.All
import OpenK.AllK
import Wide.FinOn
import HandS.ForMost
import HandS.Wide
import HandS.WideBits
import HandS.IsInst
import HandS.StrMore
import HandS.Zip
import HandS.Flow
import HandS.Conv
import HandS.Style
import KE.GoesMore
import HandS.Rev
import HandS.Walk
import PySem.Challenge.RW_owncuts_k44_whole_edits_made
set_option Elab.async false
set_option maxRecDepth 100000
namespace K4M
/-! ### periods -/
def had (w : List Nat) (p : Nat) : Bool := (w.drop p).isPrefixOf w
def Per (w : List Nat) (p : Nat) : Prop := ∀ i, i + p < w.length → w[i]? = w[i + p]?
theorem prefix_get {u w : List Nat} : u.isPrefixOf w = true ↔ ∀ i, i < u.length → w[i]? = u[i]? := by
  rw [List.isPrefixOf_iff_prefix]
  constructor
  · rintro ⟨t, rfl⟩ i hi
    rw [List.getElem?_append_left hi]
  · intro h
    have hl : u.length ≤ w.length := by
      apply Nat.le_of_not_lt
      intro hlt
      have := h w.length hlt
      rw [List.getElem?_eq_none (Nat.le_refl _), List.getElem?_eq_getElem hlt] at this
      cases this
    have : w.take u.length = u := by
      apply List.ext_getElem?
      intro i
      by_cases hi : i < u.length
      · rw [List.getElem?_take_of_lt hi]
        exact h i hi
      · rw [List.getElem?_eq_none (by rw [List.length_take]; omega), List.getElem?_eq_none (by omega)]
    rw [← this]
    exact List.take_prefix _ _
theorem had_iff (w : List Nat) (p : Nat) : had w p = true ↔ Per w p := by
  unfold had
  rw [prefix_get]
  constructor
  · intro h i hi
    have := h i (by rw [List.length_drop]; omega)
    rw [List.getElem?_drop, Nat.add_comm p i] at this
    exact this
  · intro h i hi
    rw [List.length_drop] at hi
    rw [List.getElem?_drop, Nat.add_comm p i]
    exact h i (by omega)
/-- two periods, the greater less the lesser -/
theorem per_sub {w : List Nat} {p d : Nat} (hp : Per w p) (hd : Per w d) (hlt : p < d) (hn : p + d ≤ w.length) : Per w (d - p) := by
  intro i hi
  by_cases hip : p ≤ i
  · have h1 := hp (i - p) (by omega)
    have h2 := hd (i - p) (by omega)
    rw [show i - p + p = i by omega] at h1
    rw [show i - p + d = i + (d - p) by omega] at h2
    rw [← h1, h2]
  · have h1 := hd i (by omega)
    have h2 := hp (i + (d - p)) (by omega)
    rw [show i + (d - p) + p = i + d by omega] at h2
    rw [h1, h2]
theorem per_dvd {w : List Nat} {p : Nat} (h0 : 0 < p) (hp : Per w p) (hmin : ∀ q, 0 < q → q < p → ¬ Per w q) : ∀ (d : Nat), 0 < d → Per w d → p + d ≤ w.length → p ∣ d := by
  intro d
  induction d using Nat.strongRecOn with
  | _ d ih =>
    intro hd0 hd hn
    by_cases h1 : d < p
    · exact absurd hd (hmin d hd0 h1)
    by_cases h2 : d = p
    · subst h2
      exact Nat.dvd_refl _
    · have := ih (d - p) (by omega) (by omega) (per_sub hp hd (by omega) hn) (by omega)
      obtain ⟨k, hk⟩ := this
      exact ⟨k + 1, by rw [Nat.mul_add, Nat.mul_one]; omega⟩
/-! ### repeated words -/
def rep (u : List Nat) (k : Nat) : List Nat := (List.replicate k u).flatten
theorem rep_succ (u : List Nat) (k : Nat) : rep u (k + 1) = u ++ rep u k := by
  unfold rep
  rw [List.replicate_succ, List.flatten_cons]
theorem rep_len (u : List Nat) : ∀ k, (rep u k).length = k * u.length
  | 0 => by simp [rep]
  | k + 1 => by rw [rep_succ, List.length_append, rep_len u k, Nat.add_mul]; omega
theorem rep_per {u : List Nat} : ∀ k, Per (rep u k) u.length
  | 0 => fun i hi => by simp [rep] at hi
  | k + 1 => fun i hi => by
    rw [rep_succ] at hi ⊢
    rw [List.length_append] at hi
    by_cases h : i < u.length
    · rw [List.getElem?_append_left h, List.getElem?_append_right (by omega), show i + u.length - u.length = i by omega]
      cases k with
      | zero =>
        exfalso
        have : (rep u 0).length = 0 := by simp [rep]
        omega
      | succ k => rw [rep_succ, List.getElem?_append_left h]
    · rw [List.getElem?_append_right (by omega), List.getElem?_append_right (by omega)]
      have := rep_per (u := u) k (i - u.length) (by omega)
      rw [this, show i - u.length + u.length = i + u.length - u.length by omega]
theorem per_drop {w : List Nat} {s : Nat} (h : Per w s) (m : Nat) : Per (w.drop m) s := fun i hi => by
  rw [List.length_drop] at hi
  rw [List.getElem?_drop, List.getElem?_drop, show m + (i + s) = m + i + s by omega]
  exact h (m + i) (by omega)
theorem rep_of_per : ∀ (k : Nat) {w : List Nat} {s : Nat}, 0 < s → w.length = k * s → Per w s → rep (w.take s) k = w
  | 0, w, s, _, hl, _ => by
    have : w = [] := List.length_eq_zero_iff.mp (by omega)
    subst this
    simp [rep]
  | k + 1, w, s, h0, hl, hp => by
    rw [rep_succ]
    have hl' : w.length = k * s + s := by rw [hl, Nat.add_mul, Nat.one_mul]
    have hd : (w.drop s).length = k * s := by rw [List.length_drop]; omega
    have ih := rep_of_per k h0 hd (per_drop hp s)
    cases k with
    | zero =>
      have e : w.drop s = [] := List.length_eq_zero_iff.mp (by omega)
      rw [show rep (w.take s) 0 = [] by simp [rep], List.append_nil, List.take_of_length_le (by omega)]
    | succ k =>
      have e : (w.drop s).take s = w.take s := by
        apply List.ext_getElem?
        intro i
        by_cases hi : i < s
        · rw [List.getElem?_take_of_lt hi, List.getElem?_take_of_lt hi, List.getElem?_drop, Nat.add_comm s i]
          have : s ≤ (k + 1) * s := Nat.le_mul_of_pos_left s (by omega)
          exact (hp i (by omega)).symm
        · rw [List.getElem?_eq_none (by rw [List.length_take]; omega), List.getElem?_eq_none (by rw [List.length_take]; omega)]
      rw [e] at ih
      rw [ih, List.take_append_drop]
theorem rep_iff {w : List Nat} {s : Nat} (h0 : 0 < s) (hs : w.length % s = 0) (hle : s ≤ w.length) : rep (w.take s) (w.length / s) = w ↔ Per w s := by
  have hk : w.length = w.length / s * s := by
    have := Nat.div_add_mod w.length s
    rw [hs, Nat.add_zero, Nat.mul_comm] at this
    exact this.symm
  constructor
  · intro h
    have hl : (w.take s).length = s := by rw [List.length_take]; omega
    have := rep_per (u := w.take s) (w.length / s)
    rw [h, hl] at this
    exact this
  · exact rep_of_per _ h0 hk
/-! ### the least period, the root -/
def lpFrom (w : List Nat) (n i : Nat) : Nat → Nat
  | 0 => n
  | m + 1 => if had w i then i else lpFrom w n (i + 1) m
def lp (w : List Nat) : Nat := lpFrom w w.length 1 (w.length - 1)
theorem lpFrom_spec (w : List Nat) (n : Nat) : ∀ (m i : Nat), i + m = n → (∀ j, 0 < j → j < i → had w j = false) → (∀ j, 0 < j → j < lpFrom w n i m → had w j = false) ∧ i ≤ lpFrom w n i m ∧ lpFrom w n i m ≤ n ∧ (lpFrom w n i m < n → had w (lpFrom w n i m) = true)
  | 0, i, e, h => by
    unfold lpFrom
    have : i = n := by omega
    subst this
    exact ⟨h, Nat.le_refl _, Nat.le_refl _, fun z => absurd z (Nat.lt_irrefl _)⟩
  | m + 1, i, e, h => by
    unfold lpFrom
    by_cases hi : had w i = true
    · rw [if_pos hi]
      exact ⟨h, Nat.le_refl _, by omega, fun _ => hi⟩
    · rw [if_neg hi]
      have := lpFrom_spec w n m (i + 1) (by omega) fun j h0 hj => by
        by_cases e : j = i
        · subst e
          exact Bool.eq_false_iff.mpr hi
        · exact h j h0 (by omega)
      exact ⟨this.1, by omega, this.2.2⟩
theorem lp_spec (w : List Nat) (h : w ≠ []) : (∀ j, 0 < j → j < lp w → had w j = false) ∧ 1 ≤ lp w ∧ lp w ≤ w.length ∧ (lp w < w.length → had w (lp w) = true) := by
  have hl : 0 < w.length := List.length_pos_iff.mpr h
  exact lpFrom_spec w w.length (w.length - 1) 1 (by omega) fun j h0 hj => by omega
def rootP (w : List Nat) : List Nat × Nat := if w.length % lp w ≠ 0 then (w, 1) else (w.take (lp w), w.length / lp w)
def okSize (w : List Nat) (s : Nat) : Bool := w.length % s == 0 && rep (w.take s) (w.length / s) == w
def sizes (w : List Nat) : List Nat := (List.range' 1 w.length).filter (okSize w)
def rootL (w : List Nat) : List Nat × Nat := (w.take ((sizes w).headD 0), w.length / (sizes w).headD 0)
def isPrim (w : List Nat) : Bool := !(List.range' 1 (w.length - 1)).any (okSize w)
theorem headD_filter {f : Nat → Bool} {d : Nat} : ∀ (n a : Nat), a ≤ d → d < a + n → f d = true → (∀ j, a ≤ j → j < d → f j = false) → ((List.range' a n).filter f).headD 0 = d
  | 0, a, h1, h2, _, _ => by omega
  | n + 1, a, h1, h2, h3, h4 => by
    rw [List.range'_succ]
    by_cases e : a = d
    · subst e
      rw [List.filter_cons_of_pos h3]
      rfl
    · rw [List.filter_cons_of_neg (by rw [h4 a (Nat.le_refl _) (by omega)]; exact Bool.false_ne_true)]
      exact headD_filter n (a + 1) (by omega) (by omega) h3 fun j hj1 hj2 => h4 j (by omega) hj2
theorem okSize_iff {w : List Nat} {s : Nat} (h0 : 0 < s) (hle : s ≤ w.length) : okSize w s = true ↔ w.length % s = 0 ∧ Per w s := by
  unfold okSize
  rw [Bool.and_eq_true, beq_iff_eq, beq_iff_eq]
  constructor
  · rintro ⟨h1, h2⟩
    exact ⟨h1, (rep_iff h0 h1 hle).mp h2⟩
  · rintro ⟨h1, h2⟩
    exact ⟨h1, (rep_iff h0 h1 hle).mpr h2⟩
theorem per_all (w : List Nat) : Per w w.length := fun i hi => by omega
theorem sizes_head (w : List Nat) (h : w ≠ []) : (sizes w).headD 0 = if w.length % lp w ≠ 0 then w.length else lp w := by
  have hl : 0 < w.length := List.length_pos_iff.mpr h
  obtain ⟨a1, a2, a3, a4⟩ := lp_spec w h
  have hp : Per w (lp w) := by
    by_cases e : lp w < w.length
    · exact (had_iff _ _).mp (a4 e)
    · rw [show lp w = w.length by omega]
      exact per_all w
  have hmin : ∀ q, 0 < q → q < lp w → ¬ Per w q := fun q h0 hq hper => by
    have := a1 q h0 hq
    rw [(had_iff w q).mpr hper] at this
    cases this
  by_cases hm : w.length % lp w = 0
  · rw [if_neg (by omega)]
    refine headD_filter _ 1 a2 (by omega) ((okSize_iff a2 a3).mpr ⟨hm, hp⟩) fun j h1 h2 => ?_
    cases e : okSize w j with
    | false => rfl
    | true => exact absurd ((okSize_iff h1 (by omega)).mp e).2 (hmin j h1 h2)
  · rw [if_pos hm]
    refine headD_filter _ 1 hl (by omega) ((okSize_iff hl (Nat.le_refl _)).mpr ⟨Nat.mod_self _, per_all w⟩) fun j h1 h2 => ?_
    cases e : okSize w j with
    | false => rfl
    | true =>
      exfalso
      obtain ⟨e1, e2⟩ := (okSize_iff h1 (by omega)).mp e
      obtain ⟨k, hk⟩ := Nat.dvd_of_mod_eq_zero e1
      have hk2 : 2 ≤ k := by
        rcases k with _ | _ | k
        · omega
        · omega
        · omega
      have hj2 : j + j ≤ w.length := by
        have : j * 2 ≤ j * k := Nat.mul_le_mul_left j hk2
        omega
      have hpj : lp w ≤ j := by
        apply Nat.le_of_not_lt
        intro z
        exact hmin j h1 z e2
      have := per_dvd a2 hp hmin j h1 e2 (by omega)
      exact hm (Nat.mod_eq_zero_of_dvd (Nat.dvd_trans this ⟨k, hk⟩))
theorem root_eq (w : List Nat) (h : w ≠ []) : rootL w = rootP w := by
  have hl : 0 < w.length := List.length_pos_iff.mpr h
  unfold rootL rootP
  rw [sizes_head w h]
  by_cases hm : w.length % lp w ≠ 0
  · rw [if_pos hm, if_pos hm, List.take_length, Nat.div_self hl]
  · rw [if_neg hm, if_neg hm]
/-! ### how many primitive words -/
def divs (n i : Nat) : List Nat := (List.range' 1 i).filter (fun d => n % d == 0)
/-- the values at 1, 2, .. n -/
def allP (s : Int) : Nat → List Int
  | 0 => []
  | n + 1 => allP s n ++ [s ^ (n + 1) - ((divs (n + 1) n).map fun d => (allP s n).getD (d - 1) 0).sum]
def prims (s : Int) (n : Nat) : Int := (allP s n).getD (n - 1) 0
theorem allP_len (s : Int) : ∀ n, (allP s n).length = n
  | 0 => rfl
  | n + 1 => by
    show (allP s n ++ _).length = _
    rw [List.length_append, allP_len s n]
    rfl
theorem allP_get (s : Int) : ∀ (n d : Nat), 0 < d → d ≤ n → (allP s n).getD (d - 1) 0 = prims s d
  | 0, d, h1, h2 => by omega
  | n + 1, d, h1, h2 => by
    by_cases e : d = n + 1
    · subst e
      rfl
    · show (allP s n ++ _).getD (d - 1) 0 = _
      rw [List.getD_eq_getElem?_getD, List.getElem?_append_left (by rw [allP_len]; omega), ← List.getD_eq_getElem?_getD]
      exact allP_get s n d h1 (by omega)
theorem divs_mem {n i d : Nat} : d ∈ divs n i ↔ 0 < d ∧ d ≤ i ∧ n % d = 0 := by
  unfold divs
  rw [List.mem_filter, List.mem_range'_1, beq_iff_eq]
  constructor
  · rintro ⟨⟨h1, h2⟩, h3⟩
    exact ⟨h1, by omega, h3⟩
  · rintro ⟨h1, h2, h3⟩
    exact ⟨⟨h1, by omega⟩, h3⟩
theorem prims_eq (s : Int) (n : Nat) (h : 0 < n) : prims s n = s ^ n - ((divs n (n - 1)).map (prims s)).sum := by
  obtain ⟨m, rfl⟩ : ∃ m, n = m + 1 := ⟨n - 1, by omega⟩
  show (allP s m ++ [_]).getD m 0 = _
  rw [List.getD_eq_getElem?_getD, List.getElem?_append_right (by rw [allP_len]; omega), allP_len, Nat.sub_self]
  show s ^ (m + 1) - _ = s ^ (m + 1) - _
  congr 2
  apply List.map_congr_left
  intro d hd
  rw [divs_mem] at hd
  exact allP_get s m d hd.1 hd.2.1
theorem divs_succ_of {n i : Nat} (h : n % (i + 1) = 0) : divs n (i + 1) = divs n i ++ [i + 1] := by
  unfold divs
  rw [List.range'_1_concat, List.filter_append, Nat.add_comm 1 i, List.filter_cons_of_pos (by rw [h]; rfl)]
  rfl
theorem divs_succ_not {n i : Nat} (h : n % (i + 1) ≠ 0) : divs n (i + 1) = divs n i := by
  unfold divs
  rw [List.range'_1_concat, List.filter_append, Nat.add_comm 1 i, List.filter_cons_of_neg (by rw [beq_iff_eq]; exact h)]
  exact List.append_nil _
theorem divs_filter {n i : Nat} (h : n % (i + 1) = 0) : (divs n i).filter (fun d => (i + 1) % d == 0) = divs (i + 1) i := by
  unfold divs
  rw [List.filter_filter]
  apply List.filter_congr
  intro d hd
  rw [Bool.eq_iff_iff, Bool.and_eq_true, beq_iff_eq, beq_iff_eq]
  constructor
  · exact fun z => z.1
  · intro z
    exact ⟨z, Nat.mod_eq_zero_of_dvd (Nat.dvd_trans (Nat.dvd_of_mod_eq_zero z) (Nat.dvd_of_mod_eq_zero h))⟩
theorem prims_one (s : Int) : prims s 1 = s := by
  rw [prims_eq s 1 (by decide)]
  show s ^ 1 - (0 : Int) = s
  rw [Int.pow_succ, Int.pow_zero, Int.one_mul, Int.sub_zero]
theorem prims_prime (s : Int) {p : Nat} (h0 : 0 < p) (h : divs p (p - 1) = [1]) : prims s p = s ^ p - s := by
  rw [prims_eq s p h0, h]
  show s ^ p - (prims s 1 + 0) = _
  rw [prims_one, Int.add_zero]
theorem prims_square (s : Int) {p : Nat} (h0 : 0 < p) (h : divs p (p - 1) = [1]) (h2 : divs (p * p) (p * p - 1) = [1, p]) : prims s (p * p) = s ^ (p * p) - s ^ p := by
  rw [prims_eq s (p * p) (Nat.mul_pos h0 h0), h2]
  show s ^ (p * p) - (prims s 1 + (prims s p + 0)) = _
  rw [prims_one, prims_prime s h0 h, Int.add_zero]
  omega
/-! ### all words -/
def wordsOf (cs : List Nat) : Nat → List (List Nat)
  | 0 => [[]]
  | n + 1 => (wordsOf cs n).flatMap fun w => cs.map fun c => w ++ [c]
theorem wordsOf_mem {cs : List Nat} : ∀ {n : Nat} {w : List Nat}, w ∈ wordsOf cs n → w.length = n ∧ ∀ c ∈ w, c ∈ cs
  | 0, w, h => by
    have : w = [] := List.mem_singleton.mp h
    subst this
    exact ⟨rfl, fun _ h => nomatch h⟩
  | n + 1, w, h => by
    obtain ⟨u, hu, hw⟩ := List.mem_flatMap.mp h
    obtain ⟨c, hc, rfl⟩ := List.mem_map.mp hw
    obtain ⟨h1, h2⟩ := wordsOf_mem hu
    refine ⟨by rw [List.length_append, h1]; rfl, fun d hd => ?_⟩
    rcases List.mem_append.mp hd with hd | hd
    · exact h2 d hd
    · rw [List.mem_singleton.mp hd]
      exact hc
def countP (k n : Nat) : Nat := ((wordsOf ([97, 98, 99, 100].take k) n).filter isPrim).length
theorem count_small : (List.range' 1 3).all (fun k => (List.range' 1 6).all fun n => ((countP k n : Nat) : Int) == prims k n) = true := by decide +kernel
theorem count_four : (List.range' 1 4).all (fun n => ((countP 4 n : Nat) : Int) == prims 4 n) = true := by decide +kernel
theorem count_two : (List.range' 6 2).all (fun n => ((countP 2 n : Nat) : Int) == prims 2 n) = true := by decide +kernel
theorem prims_112 : prims 1 12 = 0 := by decide +kernel
theorem prims_24 : prims 2 4 = 12 := by decide +kernel
end K4M
set_option Elab.async false
set_option linter.all false
set_option maxRecDepth 100000
set_option maxHeartbeats 4000000
namespace K4
open PySem PySem.Spec PyProof.Rows L2 K4M
/-! ### texts as lists of signs -/
def S (w : List Nat) : Str := ⟨w.toArray⟩
theorem S_inj {u v : List Nat} (h : S u = S v) : u = v := by
  have := congrArg Str.cps h
  have := congrArg Array.toList this
  simpa [S] using this
theorem S_len (w : List Nat) : (S w).length = w.length := by
  show w.toArray.size = _
  rw [List.size_toArray]
theorem S_app (u v : List Nat) : S u ++ S v = S (u ++ v) := by
  show (⟨u.toArray ++ v.toArray⟩ : Str) = ⟨(u ++ v).toArray⟩
  rw [List.append_toArray]
theorem S_empty : (Str.empty) = S [] := rfl
theorem S_dec (u v : List Nat) : decide (S u = S v) = (u == v) := by
  by_cases h : u = v
  · subst h
    simp
  · rw [decide_eq_false fun z => h (S_inj z)]
    exact (beq_eq_false_iff_ne.mpr h).symm
theorem V_dec (u v : List Nat) : decide (V.str (S u) = V.str (S v)) = (u == v) := by
  by_cases h : u = v
  · subst h
    simp
  · rw [decide_eq_false fun z => h (S_inj (V.str.inj z))]
    exact (beq_eq_false_iff_ne.mpr h).symm
theorem cut_drop (w : List Nat) (p : Nat) : cutS (S w) (some (p : Int)) none = S (w.drop p) := by
  unfold cutS
  rw [HT.sIx_none, HT.sIx_nat, S_len]
  show (⟨((w.drop (min p w.length)).take (w.length - min p w.length)).toArray⟩ : Str) = ⟨(w.drop p).toArray⟩
  congr 2
  by_cases h : p ≤ w.length
  · rw [Nat.min_eq_left h, List.take_of_length_le (by rw [List.length_drop]; omega)]
  · rw [Nat.min_eq_right (by omega), Nat.sub_self, List.take_zero, List.drop_of_length_le (by omega)]
theorem cut_take (w : List Nat) (p : Nat) : cutS (S w) none (some (p : Int)) = S (w.take p) := by
  unfold cutS
  rw [HT.sIx_none, HT.sIx_nat, S_len]
  show (⟨((w.drop 0).take (min p w.length - 0)).toArray⟩ : Str) = ⟨(w.take p).toArray⟩
  rw [List.drop_zero, Nat.sub_zero]
  congr 2
  by_cases h : p ≤ w.length
  · rw [Nat.min_eq_left h]
  · rw [Nat.min_eq_right (by omega), List.take_length, List.take_of_length_le (by omega)]
theorem starts (w u : List Nat) : Txt.startswith (S w) (S u) = u.isPrefixOf w := by
  unfold Txt.startswith
  rw [PySem.StrLaws.subAt_eq, S_len, S_len, Nat.zero_add]
  show (decide (u.length ≤ w.length) && (((w.drop 0).take (S u).length) == u)) = _
  rw [List.drop_zero, S_len, Bool.eq_iff_iff, Bool.and_eq_true, decide_eq_true_eq, beq_iff_eq, List.isPrefixOf_iff_prefix]
  constructor
  · rintro ⟨_, h⟩
    rw [← h]
    exact List.take_prefix _ _
  · rintro ⟨t, rfl⟩
    exact ⟨by rw [List.length_append]; omega, by rw [List.take_left]⟩
theorem strip_all {w : List Nat} {y : Str} (h : ∀ c ∈ w, y.cps.contains c = true) : Txt.stripChars (S w) y = S [] := by
  have lo : (List.takeWhile y.cps.contains w) = w := by
    induction w with
    | nil => rfl
    | cons a r ih =>
      rw [List.takeWhile_cons, if_pos (h a (List.mem_cons_self ..)), ih fun c hc => h c (List.mem_cons_of_mem _ hc)]
  have e1 : stripLo y.cps.contains true (S w) = w.length := by
    show (List.takeWhile y.cps.contains w).length = _
    rw [lo]
  have e2 : stripHi y.cps.contains true (S w) w.length = w.length := by
    show (S w).length - ((w.drop w.length).reverse.takeWhile y.cps.contains).length = _
    rw [List.drop_length, S_len]
    rfl
  unfold Txt.stripChars Txt.stripBy
  by_cases h0 : w = []
  · subst h0
    split <;> rfl
  · have hl : 0 < w.length := List.length_pos_iff.mpr h0
    rw [if_neg]
    · unfold stripped
      rw [e1, e2]
      show (⟨w.toArray.extract w.length w.length⟩ : Str) = ⟨[].toArray⟩
      congr 1
      apply Array.toList_inj.mp
      simp
    · unfold stripSame
      rw [e1, Bool.and_eq_true, beq_iff_eq]
      omega
theorem foldl_rep (u : List Nat) : ∀ (k : Nat) (acc : List Nat), (List.replicate k u.toArray).foldl (· ++ ·) acc.toArray = (acc ++ rep u k).toArray
  | 0, acc => by simp [rep]
  | k + 1, acc => by
    rw [List.replicate_succ, List.foldl_cons, List.append_toArray, foldl_rep u k, rep_succ, List.append_assoc]
theorem S_mul (u : List Nat) (k : Nat) : Txt.mul (S u) (k : Int) = S (rep u k) := by
  unfold Txt.mul
  by_cases h1 : (k : Int) < 1
  · rw [if_pos h1]
    have : k = 0 := by omega
    subst this
    rfl
  · rw [if_neg h1]
    by_cases h2 : ((k : Int) == 1 || (S u).length == 0) = true
    · rw [if_pos h2]
      rw [Bool.or_eq_true, beq_iff_eq, beq_iff_eq, S_len] at h2
      rcases h2 with h2 | h2
      · have : k = 1 := by omega
        subst this
        congr 1
        simp [rep]
      · have : u = [] := List.length_eq_zero_iff.mp h2
        subst this
        congr 1
        simp [rep]
    · rw [if_neg h2, Int.toNat_natCast]
      have := foldl_rep u k []
      rw [List.nil_append] at this
      show (⟨(List.replicate k u.toArray).foldl (· ++ ·) (#[] : Array Nat)⟩ : Str) = _
      exact congrArg Str.mk this
/-! ### rules of my own -/
section
variable {X : Cx}
def CPowW (i j : Int) : Prop := 0 ≤ j ∧ (Builtin.Int.intBits i : Int) * j ≤ 2 ^ 27
theorem op_powW : OpR X (binaryOp .Pow) (rI CPowW fun i j => .int (i ^ j.toNat)) := opI fun _ _ _ _ _ _ _ hc q => pow_int hc.1 hc.2 q
/-- text * number -/
theorem op_mulS : OpR X (binaryOp .Mult) (fun x y H Q => ∃ (u : List Nat) (k : Nat), x = .str (S u) ∧ y = .int (k : Int) ∧ u.length * k ≤ 100000 ∧ k ≤ 100000 ∧ u.length ≤ 100000 ∧ Q (.str (S (rep u k))) H) := by
  intro pins s σ H x y v u Q I rx ry h
  obtain ⟨w, k, rfl, rfl, hz, hk, hw, q⟩ := h
  obtain ⟨t, rfl⟩ := rx
  obtain ⟨t', rfl⟩ := ry
  refine SB.mul ⟨?_, fun h1 h2 => ?_, fun h1 h2 => ?_⟩ fun t1 k1 => ?_
  · rw [Bool.or_eq_false_iff]
    exact ⟨decide_eq_false (by omega), decide_eq_false (by omega)⟩
  · rw [S_len]
    have h3 : (100000 : Int) ≤ (2 ^ 63 - 1) / (k : Int) := by
      apply Int.le_ediv_of_mul_le (by omega)
      omega
    omega
  · rw [S_len, Int.toNat_natCast]
    have e : sizeLine = 16777216 := by decide
    unfold Builtin.Str.tooLong
    exact decide_eq_false (by omega)
  · rw [S_mul]
    exact ⟨.str (S (rep w k)), H, I.tok _, ⟨_, rfl⟩, q⟩
def signsV (w : List Nat) : List V := w.map fun c => V.str (S [c])
theorem vals_signs {its : List Value} {w : List Nat} (hl : its.length = w.length) (h : ∀ (j : Nat) (v : Value), its[j]? = some v → ∃ c u, w[j]? = some c ∧ v = .str ⟨#[c]⟩ u) : Vals (signsV w) its := by
  induction w generalizing its with
  | nil =>
    have : its = [] := List.length_eq_zero_iff.mp hl
    subst this
    exact .nil
  | cons c r ih =>
    cases its with
    | nil => cases hl
    | cons v rest =>
      obtain ⟨c', u, e1, e2⟩ := h 0 v rfl
      cases e1
      refine .cons ⟨u, e2⟩ (ih (Nat.succ.inj hl) fun j v hv => h (j + 1) v hv)
/-- list(text) -/
theorem call_listS (hc : X.calm = true) : CallR X (.type "list") (fun xs H Q => ∃ w : List Nat, xs = [.str (S w)] ∧ w.length ≤ 1000 ∧ ∀ l, H l = none → Q (.ref l) (upd H l (.lst (signsV w)))) := by
  intro pins s σ H xs us Q I r h
  obtain ⟨w, rfl, hw, q⟩ := h
  obtain ⟨u, rfl, rx⟩ := vals1 r
  obtain ⟨t, rfl⟩ := rx
  have e : sizeLine = 16777216 := by decide
  have hn : (S w).cps.size ≤ sizeLine := by
    show w.toArray.size ≤ _
    rw [List.size_toArray]
    omega
  refine call_list_str (I.ok.hd hc) (S w) t (hn := hn) fun h' tk acc' c' kp e' hi => ?_
  have hv : Vals (signsV w) acc'.toList := by
    refine vals_signs ?_ fun j v hv => ?_
    · rw [Array.length_toList, hi.1]
      exact List.size_toArray ..
    · obtain ⟨c, u, h1, h2⟩ := hi.2 j v (by simpa using hv)
      exact ⟨c, u, by simpa [S] using h1, h2⟩
  refine ⟨.ref s.heap.objs.size, _, I.laid (t' := tk) kp (Nat.le_refl _) (show ObjOk X.prog X.w _ h' _ (.lst (signsV w)) from ⟨?_, acc'.toList, c', hv, e'⟩), rfl, q _ (I.hok.fresh (Nat.le_refl _))⟩
  unfold signsV
  rw [List.length_map]
  omega
end
theorem filter_take {α : Type} {f : α → Bool} {l : List α} {j : Nat} {x : α} (h : l[j]? = some x) : (l.take (j + 1)).filter f = (l.take j).filter f ++ (if f x = true then [x] else []) := by
  rw [List.take_add_one, h, List.filter_append]
  congr 1
  show List.filter f [x] = _
  cases e : f x with
  | true => rw [List.filter_cons_of_pos e]; rfl
  | false => rw [List.filter_cons_of_neg (by rw [e]; exact Bool.false_ne_true)]; rfl
theorem range_snoc' (i : Nat) : List.range' 1 (i + 1) = List.range' 1 i ++ [i + 1] := by
  rw [List.range'_1_concat, Nat.add_comm 1 i]
def natsV (l : List Nat) : List V := l.map fun (d : Nat) => V.int (d : Int)
theorem int_mod_beq (a b : Nat) : ((a : Int) % (b : Int) == 0) = (a % b == 0) := by
  rw [Bool.eq_iff_iff, beq_iff_eq, beq_iff_eq]
  omega
theorem take_mul_le (u : List Nat) (s : Nat) : (u.take s).length * (u.length / s) ≤ u.length := by
  have h1 : (u.take s).length ≤ s := by rw [List.length_take]; omega
  exact Nat.le_trans (Nat.mul_le_mul_right _ h1) (Nat.mul_div_le _ _)
theorem sizes_cons {u : List Nat} (h : u ≠ []) : ∃ r, sizes u = (sizes u).headD 0 :: r ∧ 0 < (sizes u).headD 0 ∧ (sizes u).headD 0 ≤ u.length := by
  have hl : 0 < u.length := List.length_pos_iff.mpr h
  obtain ⟨_, a2, a3, _⟩ := lp_spec u h
  have e := sizes_head u h
  have hb : 0 < (sizes u).headD 0 ∧ (sizes u).headD 0 ≤ u.length := by
    rw [e]
    split <;> omega
  cases hs : sizes u with
  | nil =>
    rw [hs] at hb
    exact absurd hb.1 (by decide)
  | cons a r =>
    rw [hs] at hb
    exact ⟨r, rfl, hb⟩
theorem same_upd {H : Hp} {p : Addr} {o : HO} (h : H p = none) : Same H (upd H p o) := fun b x e => by
  rw [upd_ne (ne_of_none e h)]
  exact e
end K4
set_option maxRecDepth 100000
namespace K4
open PySem L2
def topS (i : Nat) : Stmt := PySem.Challenge.pw_owncuts_k44_whole_edits_made.main.body.getD i (.Pass ⟨0, 0, 0, 0⟩)
abbrev st_is_whole_number : Stmt := topS 6
abbrev st_is_count : Stmt := topS 7
abbrev st_is_made_of : Stmt := topS 8
abbrev st_is_text : Stmt := topS 9
abbrev st_check_text : Stmt := topS 10
abbrev st_is_edit_of : Stmt := topS 12
abbrev st__check_edit : Stmt := topS 13
abbrev st_text_edited : Stmt := topS 14
abbrev st_edited : Stmt := topS 15
abbrev st_edit_back : Stmt := topS 16
abbrev st__alike_ahead : Stmt := topS 17
abbrev st_edit_between : Stmt := topS 18
abbrev st__law_dice : Stmt := topS 20
abbrev st__law_mixed : Stmt := topS 21
abbrev st__law_draw : Stmt := topS 22
abbrev st__law_one_of : Stmt := topS 23
abbrev st__law_exact : Stmt := topS 24
abbrev st__law_dices : Stmt := topS 25
abbrev st__law_letters : Stmt := topS 26
abbrev st__law_text : Stmt := topS 27
abbrev st__law_edit : Stmt := topS 28
abbrev st__law_like : Stmt := topS 29
abbrev st__law_changed : Stmt := topS 30
abbrev st__law_between : Stmt := topS 31
abbrev st_law : Stmt := topS 32
abbrev cl_CutError : Stmt := topS 1
abbrev st_CutError___init__ : Stmt := inClass (topS 1) 0
abbrev cl_InvalidText : Stmt := topS 2
abbrev st_InvalidText___init__ : Stmt := inClass (topS 2) 0
abbrev cl_InvalidEdit : Stmt := topS 3
abbrev st_InvalidEdit___init__ : Stmt := inClass (topS 3) 0
end K4
set_option Elab.async false
set_option linter.all false
set_option maxRecDepth 100000
set_option maxHeartbeats 4000000
namespace K4
open PySem PySem.Spec PyProof.Rows L2 K4M
/-- a def of the top that may be called: where it stands, and its promise -/
structure Cal (P : Program) (w : World) (K : PySem.W.Frag) (mg : Str → Option Value) (base : Heap) (k : Nat) (x : Str) (ps : List Str) (sp : Sp) where
  f : Addr
  fd : FuncData
  ok : FnOk P w K mg base CX0 k f fd ps sp
  g : mg x = some (.ref f)
  kp : PySem.W.keepIn K (.ref f) = true
  b : Binds K fd ps []
structure Df (K : PySem.W.Frag) (mg : Str → Option Value) (x : Str) (st : Stmt) (ps : List Str) where
  f : Addr
  fd : FuncData
  F : Fun K x x st f fd
  b : Binds K fd ps []
  g : mg x = some (.ref f)
  sh : ∃ (kV dc pm cd ct : Value) (an : Option Addr), fd = PySem.W.fnOf x x (defArgs st) (defBody st) (defScope st) .none kV dc pm an cd ct
theorem pcall {X : Cx} {k : Nat} {x : Str} {ps : List Str} {sp : Sp} {e : Expr} {es : List Expr} {t : TA} {p pos : Pos} (C : Cal X.prog X.w X.K X.mg X.base k x ps sp) (hr : Room k X.A) (hg : Gl X x) (ha : PA X (e :: es) t)
    (hdb : (x == ("__debug__" : Str)) = false := by decide) (he : starEach (e :: es) X.env = (false, eval e X.env) :: starEach es X.env := by rfl) (hpl : (backTo pos (starEach es X.env)).any (·.1) = false := by rfl) :
    PE X (.Call (.Name x p) (e :: es) [] pos) (tCall sp [] E0 t) := pe_call C.ok hr hg C.g C.kp C.b .nil pass0 ha hdb he hpl
/-- the built-ins that the text leaves as they are -/
structure Bi (mg : Str → Option Value) : Prop where
  len : mg "len" = none
  range : mg "range" = none
  sum : mg "sum" = none
  max : mg "max" = none
  min : mg "min" = none
  int : mg "int" = none
  isi : mg "isinstance" = none
  list : mg "list" = none
  any : mg "any" = none
  all : mg "all" = none
  zip : mg "zip" = none
  bool : mg "bool" = none
  str : mg "str" = none
  tuple : mg "tuple" = none
  dict : mg "dict" = none
  sorted : mg "sorted" = none
  set : mg "set" = none
  repr : mg "repr" = none
  abs : mg "abs" = none
  enum : mg "enumerate" = none
section
variable {P : Program} {w : World} {K : PySem.W.Frag} {mg : Str → Option Value} {base : Heap}
def Df.cal {x : Str} {st : Stmt} {ps : List Str} {k : Nat} {sp : Sp} (D : Df K mg x st ps) (h : FnOk P w K mg base CX0 k D.f D.fd ps sp) : Cal P w K mg base k x ps sp := ⟨D.f, D.fd, h, D.g, D.F.kp, D.b⟩
/-! ### the draws -/
theorem sc_mixed : FnScope ["seed", "spin", "at", "mixed"] ["seed", "spin", "at"] (defScope st__law_mixed) := ⟨rfl, rfl, rfl, by decide +kernel, rfl, by decide +kernel, by decide +kernel⟩
def spMixed : Sp := fun vs H Q _ => ∃ a b c : Int, vs = [.int a, .int b, .int c] ∧ (-(2 ^ 60) < b ∧ b < 2 ^ 60) ∧ (-(2 ^ 60) < c ∧ c < 2 ^ 60) ∧ ∀ m : Int, 0 ≤ m → m < 2147483587 → Q (.int m) H
theorem ok_mixed (B : Bi mg) (D : Df K mg "_law_mixed" st__law_mixed ["seed", "spin", "at"]) : FnOk P w K mg base CX0 1 D.f D.fd ["seed", "spin", "at"] spMixed := by
  refine D.F.ok sc_mixed (fun vs H Q E h => ?_) (fun cdv A outer s H vs Q E hr h => ?_)
  · obtain ⟨a, b, c, rfl, _⟩ := h
    rfl
  · obtain ⟨a, b, c, rfl, hb, hc, q⟩ := h
    refine ⟨_, pss_cons (ps_set (i := 3) sc_mixed.nd rfl (.inl rfl) (pe_op op_add (pe_op op_mul (pv 0) pe_int) (pe_op op_mul (pe_op op_mul pe_int (pv 1)) (pv 1))))
      (pss_cons (ps_set (i := 3) sc_mixed.nd rfl (.inl rfl) (pe_op op_mod (pe_callTy call_int1 (by rfl) B.int (by decide +kernel) (pa_cons (pe_op op_add (pe_op op_add (pv 3) (pe_op op_mul pe_int (pv 2))) (pv 1)) pa_nil)) pe_int))
      (pss_cons (ps_set (i := 3) sc_mixed.nd rfl (.inl rfl) (pe_op op_mod (pe_callTy call_int1 (by rfl) B.int (by decide +kernel) (pa_cons (pe_op op_add (pe_op op_mul (pv 3) (pv 3)) pe_int) pa_nil)) pe_int))
      (pss_one (ps_ret (pe_op op_mod (pe_callTy call_int1 (by rfl) B.int (by decide +kernel) (pa_cons (pe_op op_mul (pv 3) pe_int) pa_nil)) pe_int))))), ?_⟩
    refine ⟨_, rfl, _, _, rfl, rfl, .inr ⟨by decide, by decide⟩, _, rfl, _, _, rfl, rfl, .inl ⟨by decide, by decide⟩, _, rfl, _, _, rfl, rfl, .inr ⟨by omega, by omega⟩, _, _, rfl, rfl, ?_⟩
    refine ⟨_, rfl, _, rfl, _, _, rfl, rfl, .inl ⟨by decide, by decide⟩, _, _, rfl, rfl, _, rfl, _, _, rfl, rfl, .inl ⟨_, rfl, _, _, rfl, rfl, (by show (0 : Int) < 2147483647; decide), ?_⟩⟩
    generalize (a * 69069 + 104729 * b * b + 7919 * c + b) = z
    have h1 : 0 ≤ z % 2147483647 := Int.emod_nonneg _ (by decide)
    have h2 : z % 2147483647 < 2147483647 := Int.emod_lt_of_pos _ (by decide)
    refine ⟨_, rfl, _, rfl, _, _, rfl, rfl, .inr ⟨by omega, by omega⟩, _, _, rfl, rfl, .inl ⟨_, rfl, _, _, rfl, rfl, (by show (0 : Int) < 2147483629; decide), ?_⟩⟩
    generalize (z % 2147483647 * (z % 2147483647) + 40503) = y
    refine ⟨_, rfl, _, _, rfl, rfl, .inr ⟨by decide, by decide⟩, .inl ⟨_, rfl, _, _, rfl, rfl, (by show (0 : Int) < 2147483587; decide), ?_⟩⟩
    exact q _ (Int.emod_nonneg _ (by decide)) (Int.emod_lt_of_pos _ (by decide))
/-- all but what stands at d is as it was -/
def Kept (H H' : Hp) (d : Addr) : Prop := ∀ b o, b ≠ d → H b = some o → H' b = some o
theorem Kept.trans {H H1 H2 : Hp} {d : Addr} (a : Kept H H1 d) (b : Kept H1 H2 d) : Kept H H2 d := fun c o hc e => b c o hc (a c o hc e)
theorem Kept.of {H H1 : Hp} {d : Addr} (a : Same H H1) : Kept H H1 d := fun c o _ e => a c o e
theorem Kept.upd {H : Hp} {d : Addr} {o : HO} : Kept H (upd H d o) d := fun c u hc e => by
  rw [upd_ne hc]
  exact e
/-- the dice at d; at most n were drawn of its second source -/
def Dice (H : Hp) (d : Addr) (n : Nat) : Prop := ∃ a b c e : Int, H d = some (.lst [.int a, .int b, .int c, .int e]) ∧ (0 ≤ c ∧ c ≤ n) ∧ (-(2 ^ 60) < e ∧ e < 2 ^ 60)
theorem bits_small {m : Int} (h1 : 1 ≤ m) (h2 : m < 134217728) : (1 + (Builtin.Int.intBits m : Int) / 28) = 1 := by
  have : Builtin.Int.intBits m ≤ 27 := by
    unfold Builtin.Int.intBits
    split
    · omega
    · have : m.natAbs.log2 < 27 := PySem.Flt.log2_lt_of (by decide) (by omega)
      omega
  omega
theorem sc_draw : FnScope ["dice", "many", "drawn", "found", "piece"] ["dice", "many"] (defScope st__law_draw) := ⟨rfl, rfl, rfl, by decide +kernel, rfl, by decide +kernel, by decide +kernel⟩
def spDraw : Sp := fun vs H Q _ => ∃ (d : Addr) (m : Int) (n : Nat), vs = [.ref d, .int m] ∧ Dice H d n ∧ n < 2 ^ 59 ∧ 1 ≤ m ∧ m < 134217728 ∧ ∀ (r : Int) (H' : Hp), 0 ≤ r → r < m → Dice H' d (n + 1) → Kept H H' d → Q (.int r) H'
theorem ok_draw (B : Bi mg) (D : Df K mg "_law_draw" st__law_draw ["dice", "many"]) (CM : Cal P w K mg base 1 "_law_mixed" ["seed", "spin", "at"] spMixed) : FnOk P w K mg base CX0 2 D.f D.fd ["dice", "many"] spDraw := by
  refine D.F.ok sc_draw (fun vs H Q E h => ?_) (fun cdv A outer s H vs Q E hr h => ?_)
  · obtain ⟨d, m, n, rfl, _⟩ := h
    rfl
  · obtain ⟨d, m, n, rfl, ⟨a, b, c, e, hd, hc, he⟩, hn, hm1, hm2, q⟩ := h
    refine ⟨_, pss_cons (ps_if (pt_cmpR op_gt (pe_ix ix_list (pv 0) pe_int (fun _ _ => rfl)) pe_int (nomark _))
        (pss_cons (ps_set (i := 2) sc_draw.nd rfl (.inl rfl) (pe_op op_mod (pe_callTy call_int1 (by rfl) B.int (by decide +kernel) (pa_cons (pe_ix ix_list (pv 0) pe_int (fun _ _ => rfl)) pa_nil)) (pv 1)))
        (pss_cons (ps_asg (pe_op op_fdiv (pe_ix ix_list (pv 0) pe_int (fun _ _ => rfl)) (pv 1)) (pg_sub (pv 0) pe_int set_list))
        (pss_one (ps_ret (pv 2))))) pss_nil)
      (pss_cons (ps_set (i := 3) sc_draw.nd rfl (.inl rfl) pe_int)
      (pss_cons (ps_for PassesOwn.never rfl (pi_range1 rfl B.range (pa_cons (pe_op op_add pe_int (pe_op op_fdiv (pe_bits (pv 1)) pe_int)) pa_nil)) (pg_name (i := 4) sc_draw.nd rfl (.inl rfl))
        (pss_cons (ps_asg (pe_op op_add (pe_ix ix_list (pv 0) pe_int (fun _ _ => rfl)) pe_int) (pg_sub (pv 0) pe_int set_list))
        (pss_one (ps_set (i := 3) sc_draw.nd rfl (.inl rfl) (pe_op op_add (pe_op op_mul (pv 3) pe_int) (pcall CM hr (by rfl) (pa_cons (pe_ix ix_list (pv 0) pe_int (fun _ _ => rfl)) (pa_cons (pe_ix ix_list (pv 0) pe_int (fun _ _ => rfl)) (pa_cons (pe_ix ix_list (pv 0) pe_int (fun _ _ => rfl)) pa_nil)))))))))
      (pss_one (ps_ret (pe_op op_mod (pe_callTy call_int1 (by rfl) B.int (by decide +kernel) (pa_cons (pv 3) pa_nil)) (pv 1)))))), ?_⟩
    have hS : SqL K H d [.int a, .int b, .int c, .int e] := .inl (.inl hd)
    refine ⟨_, rfl, d, _, 0, _, rfl, rfl, hS, atI_nat (j := 0) rfl, _, _, rfl, rfl, _, rfl, ite2 (fun _ => ?_) (fun _ => ?_)⟩
    · refine ⟨_, rfl, d, _, 0, _, rfl, rfl, hS, atI_nat (j := 0) rfl, .inl ⟨_, rfl, _, rfl, _, _, rfl, rfl, (by show 0 < m; omega), ?_⟩⟩
      refine ⟨_, rfl, d, _, 0, _, rfl, rfl, hS, atI_nat (j := 0) rfl, _, rfl, _, _, rfl, rfl, ⟨by omega, by omega⟩, _, rfl, d, _, 0, 0, rfl, rfl, hd, rfl, _, rfl, ?_⟩
      refine q _ _ (Int.emod_nonneg _ (by omega)) (Int.emod_lt_of_pos _ (by omega)) ⟨_, _, _, _, upd_same, ⟨hc.1, by omega⟩, he⟩ Kept.upd
    · refine ⟨_, rfl, _, rfl, _, _, rfl, rfl, ⟨by decide, by decide⟩, _, _, rfl, rfl, ?_⟩
      refine ⟨(1 : Int), congrArg (fun z => [V.int z]) (bits_small hm1 hm2), by decide, by decide, for_range (lo := 0) (n := 1) (fun i σ H2 => ∃ (f c' : Int) (y : Option V), σ = [some (.ref d), some (.int m), none, some (.int f), y] ∧ (0 ≤ c' ∧ c' ≤ n + i) ∧ H2 d = some (.lst [.int a, .int b, .int c', .int e]) ∧ Kept H H2 d)
        ⟨0, c, none, rfl, ⟨hc.1, by omega⟩, hd, fun _ _ _ z => z⟩ ?_ ?_⟩
      · rintro i σ H2 hi ⟨f, c', y, rfl, hc', hd2, hk⟩
        have hS2 : SqL K H2 d [.int a, .int b, .int c', .int e] := .inl (.inl hd2)
        refine ⟨_, rfl, d, _, 2, _, rfl, rfl, hS2, atI_nat (j := 2) rfl, _, _, rfl, rfl, _, rfl, d, _, 2, 2, rfl, rfl, hd2, rfl, ?_⟩
        have hS3 : SqL K (upd H2 d (.lst [.int a, .int b, .int (c' + 1), .int e])) d [.int a, .int b, .int (c' + 1), .int e] := .inl (.inl upd_same)
        refine ⟨_, rfl, _, _, rfl, rfl, .inr ⟨by decide, by decide⟩, _, rfl, d, _, 1, _, rfl, rfl, hS3, atI_nat (j := 1) rfl, _, rfl, d, _, 2, _, rfl, rfl, hS3, atI_nat (j := 2) rfl, _, rfl, d, _, 3, _, rfl, rfl, hS3, atI_nat (j := 3) rfl, ?_⟩
        refine ⟨_, _, _, rfl, ⟨by omega, by omega⟩, he, fun r h1 h2 => ⟨_, _, rfl, rfl, ?_⟩⟩
        exact ⟨_, _, _, rfl, ⟨by omega, by omega⟩, upd_same, hk.trans Kept.upd⟩
      · rintro σ H2 ⟨f, c', y, rfl, hc', hd2, hk⟩
        refine ⟨_, rfl, .inl ⟨_, rfl, _, rfl, _, _, rfl, rfl, (by show 0 < m; omega), ?_⟩⟩
        exact q _ _ (Int.emod_nonneg _ (by omega)) (Int.emod_lt_of_pos _ (by omega)) ⟨_, _, _, _, hd2, ⟨hc'.1, by omega⟩, he⟩ hk
end
end K4
set_option Elab.async false
set_option linter.all false
set_option maxRecDepth 100000
set_option maxHeartbeats 4000000
namespace K4
open PySem PySem.Spec PyProof.Rows L2 K4M
/-! ### values that are compared deeply -/
def Flat : V → Prop
  | .non => True
  | .bl _ => True
  | .int _ => True
  | .str _ => True
  | _ => False
def tn : V → String
  | .non => "NoneType"
  | .bl _ => "bool"
  | .int _ => "int"
  | _ => "str"
def isInt : V → Bool
  | .int _ => true
  | .bl _ => true
  | _ => false
def isBl : V → Bool
  | .bl _ => true
  | _ => false
def isStr : V → Bool
  | .str _ => true
  | _ => false
section
variable {K : PySem.W.Frag} {H : Hp} {x : V}
theorem Flat.ty (h : Flat x) : TyX K H x (.type (tn x)) := by
  cases x with
  | non => exact .base .non
  | bl b => exact .base (.bl b)
  | int i => exact .base (.int i)
  | str y => exact .base (.str y)
  | _ => exact h.elim
theorem Flat.no (h : Flat x) {c : String} (hc : c = "list" ∨ c = "tuple" ∨ c = "dict") : PySem.W.kitOne K (.type (tn x)) (.type c) = some false := by
  cases x with
  | non => rcases hc with rfl | rfl | rfl <;> exact kit_ty (a := "NoneType") (r := false) (by decide +kernel)
  | bl b => rcases hc with rfl | rfl | rfl <;> exact kit_ty (a := "bool") (r := false) (by decide +kernel)
  | int i => rcases hc with rfl | rfl | rfl <;> exact kit_ty (a := "int") (r := false) (by decide +kernel)
  | str y => rcases hc with rfl | rfl | rfl <;> exact kit_ty (a := "str") (r := false) (by decide +kernel)
  | _ => exact h.elim
theorem Flat.kInt (h : Flat x) : PySem.W.kitOne K (.type (tn x)) (.type "int") = some (isInt x) := by
  cases x with
  | non => exact kit_ty (a := "NoneType") (r := false) (by decide +kernel)
  | bl b => exact kit_ty (a := "bool") (r := true) (by decide +kernel)
  | int i => exact kit_ty (a := "int") (r := true) (by decide +kernel)
  | str y => exact kit_ty (a := "str") (r := false) (by decide +kernel)
  | _ => exact h.elim
theorem Flat.kStr (h : Flat x) : PySem.W.kitOne K (.type (tn x)) (.type "str") = some (isStr x) := by
  cases x with
  | non => exact kit_ty (a := "NoneType") (r := false) (by decide +kernel)
  | bl b => exact kit_ty (a := "bool") (r := false) (by decide +kernel)
  | int i => exact kit_ty (a := "int") (r := false) (by decide +kernel)
  | str y => exact kit_ty (a := "str") (r := true) (by decide +kernel)
  | _ => exact h.elim
theorem Flat.kBl (h : Flat x) : PySem.W.kitOne K (.type (tn x)) (.type "bool") = some (isBl x) := by
  cases x with
  | non => exact kit_ty (a := "NoneType") (r := false) (by decide +kernel)
  | bl b => exact kit_ty (a := "bool") (r := true) (by decide +kernel)
  | int i => exact kit_ty (a := "int") (r := false) (by decide +kernel)
  | str y => exact kit_ty (a := "str") (r := false) (by decide +kernel)
  | _ => exact h.elim
theorem Flat.scal (h : Flat x) : scal x x = true := by
  cases x with
  | non => rfl
  | bl b => rfl
  | int i => rfl
  | str y => rfl
  | _ => exact h.elim
theorem sql_ty {a : Addr} {xs : List V} (h : SqL K H a xs) : TyX K H (.ref a) (.type "list") := by
  rcases h with (h | ⟨o, h⟩) | ⟨o, its, n, h, hc, _⟩
  · exact .base (.lst h)
  · exact .base (.frz h)
  · exact .kList h hc
theorem sqt_ty {a : Addr} {xs : List V} (h : SqT K H a xs) : TyX K H (.ref a) (.type "tuple") := by
  rcases h with (h | ⟨o, h⟩) | ⟨o, its, n, h, hc, _⟩
  · exact .base (.tup h)
  · exact .fTuple h
  · exact .kTuple h hc
theorem Same.sqt {H' : Hp} {a : Addr} {xs : List V} (e : Same H H') (h : SqT K H a xs) : SqT K H' a xs := by
  rcases h with (h | ⟨o, h⟩) | h
  · exact .inl (.inl (e _ _ h))
  · exact .inl (.inr ⟨o, e _ _ h⟩)
  · exact .inr h
end
/-- x and y tell the same, n deep -/
def Eqv (K : PySem.W.Frag) (H : Hp) : Nat → V → V → Prop
  | 0, x, y => x = y ∧ Flat x
  | n + 1, x, y => (x = y ∧ Flat x) ∨ ∃ (a b : Addr) (xs ys : List V), x = .ref a ∧ y = .ref b ∧ xs.length ≤ 100000 ∧ xs.length = ys.length ∧ ((SqL K H a xs ∧ SqL K H b ys) ∨ (SqT K H a xs ∧ SqT K H b ys)) ∧
      ∀ (i : Nat) (u v : V), xs[i]? = some u → ys[i]? = some v → Eqv K H n u v
theorem Eqv.same {K : PySem.W.Frag} {H H' : Hp} (e : Same H H') : ∀ {n : Nat} {x y : V}, Eqv K H n x y → Eqv K H' n x y
  | 0, _, _, h => h
  | n + 1, x, y, h => by
    rcases h with h | ⟨a, b, xs, ys, rfl, rfl, h1, h2, h3, h4⟩
    · exact .inl h
    · refine .inr ⟨a, b, xs, ys, rfl, rfl, h1, h2, ?_, fun i u v hu hv => (h4 i u v hu hv).same e⟩
      rcases h3 with ⟨q1, q2⟩ | ⟨q1, q2⟩
      · exact .inl ⟨e.seq q1, e.seq q2⟩
      · exact .inr ⟨Same.sqt e q1, Same.sqt e q2⟩
theorem Eqv.flat {K : PySem.W.Frag} {H : Hp} {n : Nat} {x : V} (h : Flat x) : Eqv K H n x x := by
  cases n with
  | zero => exact ⟨rfl, h⟩
  | succ n => exact .inl ⟨rfl, h⟩
theorem Eqv.list {K : PySem.W.Frag} {H : Hp} {n : Nat} {a b : Addr} {xs : List V} (ha : SqL K H a xs) (hb : SqL K H b xs) (hl : xs.length ≤ 100000) (hf : ∀ x ∈ xs, Flat x) : Eqv K H (n + 1) (.ref a) (.ref b) :=
  .inr ⟨a, b, xs, xs, rfl, rfl, hl, rfl, .inl ⟨ha, hb⟩, fun i u v hu hv => by
    rw [hu] at hv
    cases hv
    exact Eqv.flat (hf u (List.mem_of_getElem? hu))⟩
theorem Eqv.tup {K : PySem.W.Frag} {H : Hp} {n : Nat} {a b : Addr} {xs : List V} (ha : SqT K H a xs) (hb : SqT K H b xs) (hl : xs.length ≤ 100000) (hf : ∀ x ∈ xs, Flat x) : Eqv K H (n + 1) (.ref a) (.ref b) :=
  .inr ⟨a, b, xs, xs, rfl, rfl, hl, rfl, .inr ⟨ha, hb⟩, fun i u v hu hv => by
    rw [hu] at hv
    cases hv
    exact Eqv.flat (hf u (List.mem_of_getElem? hu))⟩
theorem dec_self (x : V) : decide (x = x) = true := decide_eq_true rfl
/-! ### a comprehension over zip -/
theorem lc_zipL {K : PySem.W.Frag} {a b : Addr} {xs ys : List V} {g : TG} {tt : TT} {te : TE} {vs : List Nat} {σ : L2.St} {H1 : Hp} {D : Addr} {Qd : Hp → Prop} (hl : xs.length = ys.length) (Pv : Nat → Hp → Prop) (h0 : Pv 0 (upd H1 D (.lst []))) (hq : ∀ i H, Pv i H → SqL K H a xs ∧ SqL K H b ys)
    (hs : ∀ (i : Nat) (x y : V) (T : Addr) (H : Hp), xs[i]? = some x → ys[i]? = some y → Pv i H → H T = none → g (.ref T) (wipe σ vs) (upd H T (.tup [x, y])) fun σ2 H2 => wipe σ2 vs = wipe σ vs ∧ tt σ2 H2 fun c H3 =>
      if c = true then te σ2 H3 fun y H4 => ∃ acc, H4 D = some (.lst acc) ∧ acc.length < sizeLine ∧ Pv (i + 1) (upd H4 D (.lst (acc ++ [y]))) else Pv (i + 1) H3) (hd : ∀ H, Pv xs.length H → Qd H) :
    ∃ W : Nat → Nat → Hp → Prop, (∃ m, W 0 m (upd H1 D (.lst []))) ∧ ∀ i m H, W i m H →
      ((Itz K a b).stop i H ∧ Qd H) ∨ ((Itz K a b).go i H ∧ ∃ Nx : Hp → Prop, (∀ H', Nx H' → ∃ m', m' < m ∧ W (i + 1) m' H') ∧ ∀ x H', (Itz K a b).yld i H x H' → g x (wipe σ vs) H' fun σ2 H2 => wipe σ2 vs = wipe σ vs ∧ tt σ2 H2 fun c H3 =>
        if c = true then te σ2 H3 fun y H4 => ∃ acc, H4 D = some (.lst acc) ∧ acc.length < sizeLine ∧ Nx (upd H4 D (.lst (acc ++ [y]))) else Nx H3) := by
  refine ⟨fun i m H => m = xs.length - i ∧ i ≤ xs.length ∧ Pv i H, ⟨xs.length, rfl, Nat.zero_le _, h0⟩, ?_⟩
  rintro i m H ⟨rfl, hi, p⟩
  obtain ⟨qx, qy⟩ := hq i H p
  by_cases hlt : i < xs.length
  · have hx : xs[i]? = some xs[i] := List.getElem?_eq_getElem hlt
    have hlt2 : i < ys.length := by omega
    have hy : ys[i]? = some ys[i] := List.getElem?_eq_getElem hlt2
    refine .inr ⟨⟨xs, ys, _, _, qx, qy, hx, hy⟩, Pv (i + 1), fun H' p' => ⟨xs.length - (i + 1), by omega, rfl, hlt, p'⟩, fun v H' y => ?_⟩
    obtain ⟨T, x', y', rfl, hT, rfl, f1, f2⟩ := y
    exact hs i x' y' T H (f1 xs qx) (f2 ys qy) p hT
  · have e : i = xs.length := by omega
    subst e
    exact .inl ⟨⟨xs, ys, qx, qy, Or.inl (Nat.le_refl _)⟩, hd H p⟩
theorem lc_zipT {K : PySem.W.Frag} {a b : Addr} {xs ys : List V} {g : TG} {tt : TT} {te : TE} {vs : List Nat} {σ : L2.St} {H1 : Hp} {D : Addr} {Qd : Hp → Prop} (hl : xs.length = ys.length) (Pv : Nat → Hp → Prop) (h0 : Pv 0 (upd H1 D (.lst []))) (hq : ∀ i H, Pv i H → SqT K H a xs ∧ SqT K H b ys)
    (hs : ∀ (i : Nat) (x y : V) (T : Addr) (H : Hp), xs[i]? = some x → ys[i]? = some y → Pv i H → H T = none → g (.ref T) (wipe σ vs) (upd H T (.tup [x, y])) fun σ2 H2 => wipe σ2 vs = wipe σ vs ∧ tt σ2 H2 fun c H3 =>
      if c = true then te σ2 H3 fun y H4 => ∃ acc, H4 D = some (.lst acc) ∧ acc.length < sizeLine ∧ Pv (i + 1) (upd H4 D (.lst (acc ++ [y]))) else Pv (i + 1) H3) (hd : ∀ H, Pv xs.length H → Qd H) :
    ∃ W : Nat → Nat → Hp → Prop, (∃ m, W 0 m (upd H1 D (.lst []))) ∧ ∀ i m H, W i m H →
      ((RZ.ItzT K a b).stop i H ∧ Qd H) ∨ ((RZ.ItzT K a b).go i H ∧ ∃ Nx : Hp → Prop, (∀ H', Nx H' → ∃ m', m' < m ∧ W (i + 1) m' H') ∧ ∀ x H', (RZ.ItzT K a b).yld i H x H' → g x (wipe σ vs) H' fun σ2 H2 => wipe σ2 vs = wipe σ vs ∧ tt σ2 H2 fun c H3 =>
        if c = true then te σ2 H3 fun y H4 => ∃ acc, H4 D = some (.lst acc) ∧ acc.length < sizeLine ∧ Nx (upd H4 D (.lst (acc ++ [y]))) else Nx H3) := by
  refine ⟨fun i m H => m = xs.length - i ∧ i ≤ xs.length ∧ Pv i H, ⟨xs.length, rfl, Nat.zero_le _, h0⟩, ?_⟩
  rintro i m H ⟨rfl, hi, p⟩
  obtain ⟨qx, qy⟩ := hq i H p
  by_cases hlt : i < xs.length
  · have hx : xs[i]? = some xs[i] := List.getElem?_eq_getElem hlt
    have hlt2 : i < ys.length := by omega
    have hy : ys[i]? = some ys[i] := List.getElem?_eq_getElem hlt2
    refine .inr ⟨⟨xs, ys, _, _, qx, qy, hx, hy⟩, Pv (i + 1), fun H' p' => ⟨xs.length - (i + 1), by omega, rfl, hlt, p'⟩, fun v H' y => ?_⟩
    obtain ⟨T, x', y', rfl, hT, rfl, f1, f2⟩ := y
    exact hs i x' y' T H (f1 xs qx) (f2 ys qy) p hT
  · have e : i = xs.length := by omega
    subst e
    exact .inl ⟨⟨xs, ys, qx, qy, Or.inl (Nat.le_refl _)⟩, hd H p⟩
section
variable {P : Program} {w : World} {K : PySem.W.Frag} {mg : Str → Option Value} {base : Heap}
/-! ### exact -/
theorem sc_exact : FnScope ["mine", "theirs", "is_like", "a", "b", "key"] ["mine", "theirs"] (defScope st__law_exact) := ⟨rfl, rfl, rfl, by decide +kernel, rfl, by decide +kernel, by decide +kernel⟩
def spExact (K : PySem.W.Frag) (n : Nat) : Sp := fun vs H Q _ => ∃ x y : V, vs = [x, y] ∧ Eqv K H n x y ∧ ∀ H', Same H H' → Q (.bl true) H'
theorem lcls (a b : String) : Paired ClsV [.ty a, .ty b] [.type a, .type b] := .cons (.ty _) (.cons (.ty _) .nil)
theorem lcls3 (a b c : String) : Paired ClsV [.ty a, .ty b, .ty c] [.type a, .type b, .type c] := .cons (.ty _) (.cons (.ty _) (.cons (.ty _) .nil))
theorem exact_flat (B : Bi mg) (D : Df K mg "_law_exact" st__law_exact ["mine", "theirs"]) {k : Nat} {cdv : Value} {A : Around} {outer : List Env} {s : Shared} {H : Hp} {x : V} {Q : VK} {E : XK} (hf : Flat x) (q : ∀ H', Same H H' → Q (.bl true) H') :
    ∃ t, PSs (cxOf CX0 P w K mg base ["mine", "theirs", "is_like", "a", "b", "key"] "_law_exact" (defScope st__law_exact) D.f cdv A outer s H E).nox (defBody st__law_exact) t ∧ t { nx := fun _ H' => Q .non H', rt := Q } (start ["mine", "theirs", "is_like", "a", "b", "key"] [x, x]) H := by
  refine ⟨_, pss_cons (ps_if (pt_val (pe_callB call_isiT (by rfl) B.isi (by decide +kernel) (pa_cons (pv 0) (pa_cons (pe_tup (pa_cons (pe_bltn (v := .ty "list") (by rfl) B.list (by decide +kernel) rfl) (pa_cons (pe_bltn (v := .ty "tuple") (by rfl) B.tuple (by decide +kernel) rfl) pa_nil))) pa_nil)))) pss_never pss_nil)
    (pss_cons (ps_if (pt_val (pe_callB call_isi (by rfl) B.isi (by decide +kernel) (pa_cons (pv 0) (pa_cons (pe_bltn (v := .ty "dict") (by rfl) B.dict (by decide +kernel) rfl) pa_nil)))) pss_never pss_nil)
    (pss_cons (ps_if (PW.pt (pw_or (pt_val (pe_callB call_isiT (by rfl) B.isi (by decide +kernel) (pa_cons (pv 1) (pa_cons (pe_tup (pa_cons (pe_bltn (v := .ty "list") (by rfl) B.list (by decide +kernel) rfl) (pa_cons (pe_bltn (v := .ty "tuple") (by rfl) B.tuple (by decide +kernel) rfl) (pa_cons (pe_bltn (v := .ty "dict") (by rfl) B.dict (by decide +kernel) rfl) pa_nil)))) pa_nil))))
        (pw_or1 (pt_cmpR op_ne (pe_cmpR op_isN (pv 0) pe_non (nomark _)) (pe_cmpR op_isN (pv 1) pe_non (nomark _)) (nomark _))))) pss_never pss_nil)
    (pss_cons (ps_set (i := 2) sc_exact.nd rfl (.inl rfl) (pe_and (pe_cmpR op_eq (pe_callB call_isi (by rfl) B.isi (by decide +kernel) (pa_cons (pv 0) (pa_cons (pe_bltn (v := .ty "int") (by rfl) B.int (by decide +kernel) rfl) pa_nil))) (pe_callB call_isi (by rfl) B.isi (by decide +kernel) (pa_cons (pv 1) (pa_cons (pe_bltn (v := .ty "int") (by rfl) B.int (by decide +kernel) rfl) pa_nil))) (nomark _))
        (pe_one (pe_cmpR op_eq (pe_callB call_isi (by rfl) B.isi (by decide +kernel) (pa_cons (pv 0) (pa_cons (pe_bltn (v := .ty "str") (by rfl) B.str (by decide +kernel) rfl) pa_nil))) (pe_callB call_isi (by rfl) B.isi (by decide +kernel) (pa_cons (pv 1) (pa_cons (pe_bltn (v := .ty "str") (by rfl) B.str (by decide +kernel) rfl) pa_nil))) (nomark _)))))
    (pss_one (ps_ret (pe_and (pv 2) (pe_and (pe_cmpR op_eq (pe_callB call_isi (by rfl) B.isi (by decide +kernel) (pa_cons (pv 0) (pa_cons (pe_bltn (v := .ty "bool") (by rfl) B.bool (by decide +kernel) rfl) pa_nil))) (pe_callB call_isi (by rfl) B.isi (by decide +kernel) (pa_cons (pv 1) (pa_cons (pe_bltn (v := .ty "bool") (by rfl) B.bool (by decide +kernel) rfl) pa_nil))) (nomark _))
        (pe_one (pe_cmpR op_eq (pv 0) (pv 1) (nomark _)))))))))), ?_⟩
  refine ⟨x, rfl, (by decide), fun p hp => ?_⟩
  refine ⟨x, p, _, _, _, false, rfl, upd_same, lcls _ _, hf.ty, kitAny_cons (hf.no (.inl rfl)) (fun _ => kitAny_cons (hf.no (.inr (.inl rfl))) (fun _ => kitAny_nil) (fun z => nomatch z)) (fun z => nomatch z), _, rfl, iteF ?_⟩
  refine ⟨x, rfl, x, _, _, _, false, rfl, .ty _, hf.ty, hf.no (.inr (.inr rfl)), _, rfl, iteF ?_⟩
  refine ⟨x, rfl, (by decide), fun p2 hp2 => ?_⟩
  refine ⟨x, p2, _, _, _, false, rfl, upd_same, lcls3 _ _ _, hf.ty, kitAny_cons (hf.no (.inl rfl)) (fun _ => kitAny_cons (hf.no (.inr (.inl rfl))) (fun _ => kitAny_cons (hf.no (.inr (.inr rfl))) (fun _ => kitAny_nil) (fun z => nomatch z)) (fun z => nomatch z)) (fun z => nomatch z), _, rfl, iteF ?_⟩
  refine ⟨x, rfl, rfl, x, rfl, rfl, rfl, _, rfl, ?_⟩
  rw [dec_self]
  refine iteF ?_
  refine ⟨x, rfl, x, _, _, _, isInt x, rfl, .ty _, hf.ty, hf.kInt, x, rfl, x, _, _, _, isInt x, rfl, .ty _, hf.ty, hf.kInt, rfl, _, rfl, ?_⟩
  rw [dec_self]
  refine iteT ?_
  refine ⟨x, rfl, x, _, _, _, isStr x, rfl, .ty _, hf.ty, hf.kStr, x, rfl, x, _, _, _, isStr x, rfl, .ty _, hf.ty, hf.kStr, rfl, ?_⟩
  rw [dec_self]
  refine ⟨_, rfl, _, rfl, iteT ?_⟩
  refine ⟨x, rfl, x, _, _, _, isBl x, rfl, .ty _, hf.ty, hf.kBl, x, rfl, x, _, _, _, isBl x, rfl, .ty _, hf.ty, hf.kBl, rfl, _, rfl, ?_⟩
  rw [dec_self]
  refine iteT ?_
  refine ⟨x, rfl, x, rfl, hf.scal, ?_⟩
  rw [dec_self]
  exact q _ ((same_upd hp).trans (same_upd hp2))
end
end K4
set_option Elab.async false
set_option linter.all false
set_option maxRecDepth 100000
set_option maxHeartbeats 4000000
namespace K4
open PySem PySem.Spec PyProof.Rows L2 K4M
theorem kit_ll {K : PySem.W.Frag} {a : String} (h : kitB a a = some true) : PySem.W.kitOne K (.type a) (.type a) = some true := kit_ty h
theorem Kept.seq {K : PySem.W.Frag} {H H' : Hp} {d a : Addr} {xs : List V} (e : Kept H H' d) (hne : a ≠ d) (h : SqL K H a xs) : SqL K H' a xs := by
  rcases h with (h | ⟨o, h⟩) | h
  · exact .inl (.inl (e _ _ hne h))
  · exact .inl (.inr ⟨o, e _ _ hne h⟩)
  · exact .inr h
theorem Same.dice {H H' : Hp} {d : Addr} {n : Nat} (e : Same H H') (h : Dice H d n) : Dice H' d n := by
  obtain ⟨a, b, c, x, hd, r⟩ := h
  exact ⟨a, b, c, x, e _ _ hd, r⟩
theorem Dice.more {H : Hp} {d : Addr} {n m : Nat} (h : Dice H d n) (hm : n ≤ m) : Dice H d m := by
  obtain ⟨a, b, c, x, hd, r, z⟩ := h
  exact ⟨a, b, c, x, hd, ⟨r.1, by omega⟩, z⟩
theorem Dice.some {H : Hp} {d : Addr} {n : Nat} (h : Dice H d n) : ∃ o, H d = some o := by
  obtain ⟨a, b, c, x, hd, _⟩ := h
  exact ⟨_, hd⟩
theorem cutV_map {α : Type} (f : α → V) (ns : List α) (lo hi : Option Int) : ∃ ms : List α, cutV (ns.map f) lo hi = ms.map f := by
  unfold cutV
  rw [← List.map_drop, ← List.map_take]
  exact ⟨_, rfl⟩
section
variable {P : Program} {w : World} {K : PySem.W.Frag} {mg : Str → Option Value} {base : Heap}
theorem ok_exact (B : Bi mg) (D : Df K mg "_law_exact" st__law_exact ["mine", "theirs"]) : ∀ n : Nat, FnOk P w K mg base CX0 (n + 1) D.f D.fd ["mine", "theirs"] (spExact K n)
  | 0 => by
    refine D.F.ok sc_exact (fun vs H Q E h => ?_) (fun cdv A outer s H vs Q E hr h => ?_)
    · obtain ⟨x, y, rfl, _⟩ := h
      rfl
    · obtain ⟨x, y, rfl, ⟨rfl, hf⟩, q⟩ := h
      exact exact_flat B D (k := 0) hf q
  | n + 1 => by
    have C : Cal P w K mg base (n + 1) "_law_exact" ["mine", "theirs"] (spExact K n) := D.cal (ok_exact B D n)
    refine D.F.ok sc_exact (fun vs H Q E h => ?_) (fun cdv A outer s H vs Q E hr h => ?_)
    · obtain ⟨x, y, rfl, _⟩ := h
      rfl
    · obtain ⟨x, y, rfl, h, q⟩ := h
      rcases h with ⟨rfl, hf⟩ | ⟨a, b, xs, ys, rfl, rfl, h1, h2, h3, h4⟩
      · exact exact_flat B D (k := n + 1) hf q
      · refine ⟨_, pss_cons (ps_if (pt_val (pe_callB call_isiT (by rfl) B.isi (by decide +kernel) (pa_cons (pv 0) (pa_cons (pe_tup (pa_cons (pe_bltn (v := .ty "list") (by rfl) B.list (by decide +kernel) rfl) (pa_cons (pe_bltn (v := .ty "tuple") (by rfl) B.tuple (by decide +kernel) rfl) pa_nil))) pa_nil))))
            (pss_cons (ps_set (i := 2) sc_exact.nd rfl (.inl rfl) (pe_and (pe_cmpR op_eq (pe_callB call_isi (by rfl) B.isi (by decide +kernel) (pa_cons (pv 1) (pa_cons (pe_bltn (v := .ty "list") (by rfl) B.list (by decide +kernel) rfl) pa_nil))) (pe_callB call_isi (by rfl) B.isi (by decide +kernel) (pa_cons (pv 0) (pa_cons (pe_bltn (v := .ty "list") (by rfl) B.list (by decide +kernel) rfl) pa_nil))) (nomark _))
              (pe_one (pe_cmpR op_eq (pe_callB call_isi (by rfl) B.isi (by decide +kernel) (pa_cons (pv 1) (pa_cons (pe_bltn (v := .ty "tuple") (by rfl) B.tuple (by decide +kernel) rfl) pa_nil))) (pe_callB call_isi (by rfl) B.isi (by decide +kernel) (pa_cons (pv 0) (pa_cons (pe_bltn (v := .ty "tuple") (by rfl) B.tuple (by decide +kernel) rfl) pa_nil))) (nomark _)))))
            (pss_one (ps_ret (pe_and (pv 2) (pe_and (pe_cmpR op_eq (pe_callB call_len_seq (by rfl) B.len PySem.boot_len (pa_cons (pv 0) pa_nil)) (pe_callB call_len_seq (by rfl) B.len PySem.boot_len (pa_cons (pv 1) pa_nil)) (nomark _))
              (pe_one (pe_callB (cr_all rfl) (by rfl) B.all (by decide +kernel) (pa_cons (pe_lc (own := [("a", 3), ("b", 4)]) (g := gTup K 2 (gCons (gName 3) (gCons (gName 4) gNil))) (tt := tYes) (by rfl) sc_exact.nd
                (RZ.pi_zipA (by rfl) B.zip (pa_cons (pv 0) (pa_cons (pv 1) pa_nil))) (blkOk_by (N := ["mine", "theirs", "is_like", "a", "b", "key"]) (sc := defScope st__law_exact) (by decide +kernel))
                (fun _ _ _ _ _ => pg_tup rfl (pgs_cons (pg_name (i := 3) sc_exact.nd rfl (.inl rfl)) (pgs_cons (pg_name (i := 4) sc_exact.nd rfl (.inl rfl)) pgs_nil)))
                (fun _ _ _ _ _ => pts_nil)
                (fun _ _ _ _ _ => pcall C hr (by rfl) (pa_cons (pv 3) (pa_cons (pv 4) pa_nil)))) pa_nil)))))))) pss_nil)
          pss_never, ?_⟩
        have eb : ∃ bL bT : Bool, ∃ T : Value, ∀ H', Same H H' → TyX K H' (.ref a) T ∧ TyX K H' (.ref b) T ∧ PySem.W.kitOne K T (.type "list") = some bL ∧ PySem.W.kitOne K T (.type "tuple") = some bT ∧ PySem.W.kitAny K T [.type "list", .type "tuple"] = some true := by
          rcases h3 with ⟨q1, q2⟩ | ⟨q1, q2⟩
          · refine ⟨true, false, .type "list", fun H' sm => ⟨sql_ty (sm.seq q1), sql_ty (sm.seq q2), kit_ty (by decide +kernel), kit_ty (by decide +kernel), kitAny_cons (b := true) (kit_ty (by decide +kernel)) (fun z => nomatch z) (fun _ => rfl)⟩⟩
          · refine ⟨false, true, .type "tuple", fun H' sm => ⟨sqt_ty (Same.sqt sm q1), sqt_ty (Same.sqt sm q2), kit_ty (by decide +kernel), kit_ty (by decide +kernel), kitAny_cons (b := false) (kit_ty (by decide +kernel)) (fun _ => kitAny_cons (b := true) (kit_ty (by decide +kernel)) (fun z => nomatch z) (fun _ => rfl)) (fun z => nomatch z)⟩⟩
        obtain ⟨bL, bT, T, hT⟩ := eb
        refine ⟨.ref a, rfl, (by decide), fun p hp => ?_⟩
        have s1 : Same H (upd H p (.tup [.ty "list", .ty "tuple"])) := same_upd hp
        obtain ⟨ta, tb, kL, kT, kA⟩ := hT _ s1
        refine ⟨.ref a, p, _, T, _, true, rfl, upd_same, lcls _ _, ta, kA, _, rfl, iteT ?_⟩
        refine ⟨.ref b, rfl, .ref b, _, T, _, bL, rfl, .ty _, tb, kL, .ref a, rfl, .ref a, _, T, _, bL, rfl, .ty _, ta, kL, rfl, _, rfl, ?_⟩
        rw [dec_self]
        refine iteT ?_
        refine ⟨.ref b, rfl, .ref b, _, T, _, bT, rfl, .ty _, tb, kT, .ref a, rfl, .ref a, _, T, _, bT, rfl, .ty _, ta, kT, rfl, ?_⟩
        rw [dec_self]
        refine ⟨_, rfl, _, rfl, iteT ?_⟩
        have hq : ∀ H', Same H H' → (SqL K H' a xs ∨ SqT K H' a xs) ∧ (SqL K H' b ys ∨ SqT K H' b ys) := fun H' sm => by
          rcases h3 with ⟨q1, q2⟩ | ⟨q1, q2⟩
          · exact ⟨.inl (sm.seq q1), .inl (sm.seq q2)⟩
          · exact ⟨.inr (Same.sqt sm q1), .inr (Same.sqt sm q2)⟩
        refine ⟨.ref a, rfl, a, xs, rfl, (hq _ s1).1, .ref b, rfl, b, ys, rfl, (hq _ s1).2, rfl, _, rfl, ?_⟩
        rw [← h2, dec_self]
        refine iteT ?_
        have key : ∀ {H2 : Hp} {DD : Addr}, Same H H2 → H2 DD = some (.lst ((List.replicate xs.length true).map V.bl)) → rAll K [.ref DD] H2 fun v H3 => Q v H3 := fun {H2 DD} sm hD => by
          refine ⟨DD, _, rfl, .inl (.inl hD), ?_⟩
          rw [show (List.replicate xs.length true).all id = true by simp]
          exact q _ sm
        have turn : ∀ (DD : Addr) (i : Nat) (u v : V) (T : Addr) (H3 : Hp) , H DD = none → xs[i]? = some u → ys[i]? = some v → (Same H H3 ∧ H3 DD = some (.lst ((List.replicate i true).map V.bl))) → H3 T = none →
            spExact K n [u, v] (upd H3 T (.tup [u, v])) (fun y H4 => ∃ acc, H4 DD = some (.lst acc) ∧ acc.length < sizeLine ∧ (Same H (upd H4 DD (.lst (acc ++ [y]))) ∧ (upd H4 DD (.lst (acc ++ [y]))) DD = some (.lst ((List.replicate (i + 1) true).map V.bl)))) E0 := fun DD i u v T H3 hDn hu hv ⟨sm, hD⟩ hTn => by
          have sT : Same H3 (upd H3 T (.tup [u, v])) := same_upd hTn
          refine ⟨u, v, rfl, (h4 i u v hu hv).same (sm.trans sT), fun H4 s4 => ?_⟩
          have hi : i < xs.length := (List.getElem?_eq_some_iff.mp hu).1
          refine ⟨_, s4 _ _ (sT _ _ hD), ?_, fun c o e => ?_, ?_⟩
          · rw [List.length_map, List.length_replicate]
            have e : sizeLine = 16777216 := by decide
            omega
          · have hc : c ≠ DD := ne_of_none e hDn
            rw [upd_ne hc]
            exact s4 _ _ (sT _ _ (sm _ _ e))
          · rw [upd_same, List.replicate_succ', List.map_append]
            rfl
        refine ⟨.ref a, rfl, .ref b, rfl, a, b, xs, ys, rfl, ?_⟩
        rcases h3 with ⟨q1, q2⟩ | ⟨q1, q2⟩
        · refine .inl ⟨s1.seq q1, s1.seq q2, fun DD hD => ?_⟩
          have hDn : H DD = none := s1.free hD
          refine lc_zipL h2 (fun i H3 => Same H H3 ∧ H3 DD = some (.lst ((List.replicate i true).map V.bl))) ⟨s1.trans (same_upd hD), upd_same⟩ (fun i H3 z => ⟨z.1.seq q1, z.1.seq q2⟩) (fun i u v T H3 hu hv z hTn => ?_) (fun H3 z => key z.1 z.2)
          refine ⟨T, [u, v], rfl, .inl (.inl upd_same), rfl, u, [v], rfl, v, [], rfl, rfl, rfl, ?_⟩
          exact ⟨u, rfl, v, rfl, turn DD i u v T H3 hDn hu hv z hTn⟩
        · refine .inr ⟨Same.sqt s1 q1, Same.sqt s1 q2, fun DD hD => ?_⟩
          have hDn : H DD = none := s1.free hD
          refine lc_zipT h2 (fun i H3 => Same H H3 ∧ H3 DD = some (.lst ((List.replicate i true).map V.bl))) ⟨s1.trans (same_upd hD), upd_same⟩ (fun i H3 z => ⟨Same.sqt z.1 q1, Same.sqt z.1 q2⟩) (fun i u v T H3 hu hv z hTn => ?_) (fun H3 z => key z.1 z.2)
          refine ⟨T, [u, v], rfl, .inl (.inl upd_same), rfl, u, [v], rfl, v, [], rfl, rfl, rfl, ?_⟩
          exact ⟨u, rfl, v, rfl, turn DD i u v T H3 hDn hu hv z hTn⟩
/-! ### one of some -/
theorem sc_one_of : FnScope ["dice", "some"] ["dice", "some"] (defScope st__law_one_of) := ⟨rfl, rfl, rfl, by decide +kernel, rfl, by decide +kernel, by decide +kernel⟩
def spOne (K : PySem.W.Frag) : Sp := fun vs H Q _ => ∃ (d l : Addr) (n : Nat) (xs : List V), vs = [.ref d, .ref l] ∧ Dice H d n ∧ n < 2 ^ 59 ∧ l ≠ d ∧ SqL K H l xs ∧ 0 < xs.length ∧ xs.length < 100000 ∧ ∀ (i : Nat) (x : V) (H' : Hp), xs[i]? = some x → Dice H' d (n + 1) → Kept H H' d → Q x H'
theorem ok_one_of (B : Bi mg) (D : Df K mg "_law_one_of" st__law_one_of ["dice", "some"]) (CD : Cal P w K mg base 2 "_law_draw" ["dice", "many"] spDraw) : FnOk P w K mg base CX0 3 D.f D.fd ["dice", "some"] (spOne K) := by
  refine D.F.ok sc_one_of (fun vs H Q E h => ?_) (fun cdv A outer s H vs Q E hr h => ?_)
  · obtain ⟨d, l, n, xs, rfl, _⟩ := h
    rfl
  · obtain ⟨d, l, n, xs, rfl, hd, hn, hne, hl, h0, h1, q⟩ := h
    refine ⟨_, pss_one (ps_ret (pe_ix ix_list (pv 1) (pcall CD hr (by rfl) (pa_cons (pv 0) (pa_cons (pe_callB call_len_seq (by rfl) B.len PySem.boot_len (pa_cons (pv 1) pa_nil)) pa_nil))) (fun _ _ => rfl))), ?_⟩
    refine ⟨_, rfl, _, rfl, _, rfl, l, xs, rfl, .inl hl, d, _, n, rfl, hd, hn, by omega, by omega, fun r H' r0 r1 hD hk => ?_⟩
    have hi : r.toNat < xs.length := by omega
    have er : (r : Int) = ((r.toNat : Nat) : Int) := by omega
    refine ⟨l, xs, r, xs[r.toNat], rfl, rfl, hk.seq hne hl, ?_, ?_⟩
    · have z := atI_nat (List.getElem?_eq_getElem hi)
      rw [← er] at z
      exact z
    · exact q r.toNat _ _ (List.getElem?_eq_getElem hi) hD hk
/-! ### a dice -/
theorem sc_dice : FnScope ["script", "at", "seed"] ["script", "at"] (defScope st__law_dice) := ⟨rfl, rfl, rfl, by decide +kernel, rfl, by decide +kernel, by decide +kernel⟩
def spDice (K : PySem.W.Frag) : Sp := fun vs H Q _ => ∃ (a : Addr) (ns : List Int) (e : Int), vs = [.ref a, .int e] ∧ SqL K H a (ns.map V.int) ∧ 0 ≤ e ∧ e < 1000 ∧ ∀ (p : Addr) (H' : Hp), H p = none → Same H H' → Dice H' p 0 → Q (.ref p) H'
theorem ok_dice (B : Bi mg) (D : Df K mg "_law_dice" st__law_dice ["script", "at"]) : FnOk P w K mg base CX0 1 D.f D.fd ["script", "at"] (spDice K) := by
  refine D.F.ok sc_dice (fun vs H Q E h => ?_) (fun cdv A outer s H vs Q E hr h => ?_)
  · obtain ⟨a, ns, e, rfl, _⟩ := h
    rfl
  · obtain ⟨a, ns, e, rfl, hS, he0, he1, q⟩ := h
    refine ⟨_, pss_cons (ps_set (i := 2) sc_dice.nd rfl (.inl rfl) (pe_callB (cr_sum rfl) (by rfl) B.sum (by decide +kernel) (pa_cons (pe_slice sl_list (pv 0) (po_some (pv 1)) (po_some (pe_op op_add (pv 1) pe_int))) pa_nil)))
      (pss_one (ps_ret (pe_lst (pa_cons (pe_op op_mod (pe_callTy call_int1 (by rfl) B.int (by decide +kernel) (pa_cons (pe_callB (call_max2 rfl) (by rfl) B.max (by decide +kernel) (pa_cons (pe_op op_sub (pv 2) (pe_op op_pow pe_int pe_int)) (pa_cons pe_int pa_nil))) pa_nil)) (pe_op op_powW (pe_op op_pow pe_int pe_int) pe_int))
        (pa_cons (pe_op op_mod (pe_callTy call_int1 (by rfl) B.int (by decide +kernel) (pa_cons (pv 2) pa_nil)) pe_int) (pa_cons pe_int (pa_cons (pv 1) pa_nil))))))), ?_⟩
    refine ⟨_, rfl, _, rfl, _, rfl, _, rfl, _, _, rfl, rfl, _, rfl, a, _, rfl, hS, fun p hp => ?_⟩
    obtain ⟨ms, em⟩ := cutV_map V.int ns (some e) (some (e + 1))
    refine ⟨p, ms, rfl, .inl (.inl ?_), ?_⟩
    · rw [upd_same, ← em]
    refine ⟨_, rfl, _, _, rfl, rfl, ⟨by decide, by decide, by decide⟩, _, _, rfl, rfl, _, _, rfl, .inl ⟨_, rfl, _, _, rfl, rfl, ⟨by decide, by decide, by decide⟩, _, _, rfl, rfl, ⟨by decide, by decide +kernel⟩, _, _, rfl, rfl, (by show (0 : Int) < ((10 : Int) ^ (60 : Int).toNat) ^ (8 : Int).toNat; decide +kernel), ?_⟩⟩
    refine ⟨_, rfl, .inl ⟨_, rfl, _, _, rfl, rfl, (by show (0 : Int) < 2147483629; decide), _, rfl, (by show 4 ≤ sizeLine; decide), fun p2 hp2 => ?_⟩⟩
    have s1 : Same H (upd H p (.lst (cutV (ns.map V.int) (some e) (some (e + 1))))) := same_upd hp
    exact q p2 _ (s1.free hp2) (s1.trans (same_upd hp2)) ⟨_, _, _, _, upd_same, ⟨Int.le_refl _, Int.le_refl _⟩, by omega⟩
end
end K4
set_option Elab.async false
set_option linter.all false
set_option maxRecDepth 100000
set_option maxHeartbeats 4000000
namespace K4
open PySem PySem.Spec PyProof.Rows L2 K4M
section
variable {P : Program} {w : World} {K : PySem.W.Frag} {mg : Str → Option Value} {base : Heap}
theorem sc_dices : FnScope ["script", "few", "at"] ["script", "few"] (defScope st__law_dices) := ⟨rfl, rfl, rfl, by decide +kernel, rfl, by decide +kernel, by decide +kernel⟩
def spDices (K : PySem.W.Frag) : Sp := fun vs H Q _ => ∃ (a : Addr) (ns : List Int) (few : Int), vs = [.ref a, .int few] ∧ SqL K H a (ns.map V.int) ∧ few ≤ 10 ∧
  ∀ (L : Addr) (ds : List Addr) (H' : Hp), H L = none → Same H H' → H' L = some (.lst (ds.map V.ref)) → ds.length ≤ 10 → (∀ d ∈ ds, Dice H' d 0 ∧ H d = none) → ds.Nodup → Q (.ref L) H'
theorem ok_dices (B : Bi mg) (D : Df K mg "_law_dices" st__law_dices ["script", "few"]) (CD : Cal P w K mg base 1 "_law_dice" ["script", "at"] (spDice K)) : FnOk P w K mg base CX0 2 D.f D.fd ["script", "few"] (spDices K) := by
  refine D.F.ok sc_dices (fun vs H Q E h => ?_) (fun cdv A outer s H vs Q E hr h => ?_)
  · obtain ⟨a, ns, few, rfl, _⟩ := h
    rfl
  · obtain ⟨a, ns, few, rfl, hS, hf, q⟩ := h
    refine ⟨_, pss_one (ps_ret (pe_lc (own := [("at", 2)]) (g := gName 2) (tt := tYes) rfl sc_dices.nd
      (pi_range1 rfl B.range (pa_cons (pe_callB (call_max2 rfl) (by rfl) B.max (by decide +kernel) (pa_cons pe_int (pa_cons (pe_callB (call_min2 rfl) (by rfl) B.min (by decide +kernel) (pa_cons (pv 1) (pa_cons (pe_callB call_len_seq (by rfl) B.len PySem.boot_len (pa_cons (pv 0) pa_nil)) pa_nil))) pa_nil))) pa_nil))
      (blkOk_by (N := ["script", "few", "at"]) (sc := defScope st__law_dices) (by decide +kernel))
      (fun _ _ _ _ _ => pg_name (i := 2) sc_dices.nd rfl (.inl rfl))
      (fun _ _ _ _ _ => pts_nil)
      (fun _ _ _ _ _ => pcall CD hr (by rfl) (pa_cons (pv 0) (pa_cons (pv 2) pa_nil))))), ?_⟩
    refine ⟨_, rfl, .ref a, rfl, a, _, rfl, .inl hS, _, _, rfl, _, _, rfl, _, rfl, by split <;> (try split) <;> omega, by split <;> (try split) <;> omega, fun DD hD => ?_⟩
    have hc : ∀ c : Int, c ≤ 10 → c.toNat ≤ 10 := fun c h => by omega
    refine lc_range (lo := 0) (fun i H3 => ∃ ds : List Addr, ds.length = i ∧ Same H H3 ∧ H3 DD = some (.lst (ds.map V.ref)) ∧ (∀ d ∈ ds, Dice H3 d 0 ∧ H d = none) ∧ ds.Nodup)
      ⟨[], rfl, same_upd hD, upd_same, (fun _ h => by cases h), List.nodup_nil⟩ ?_ ?_
    · rintro i H3 hi ⟨ds, hl, sm, hDD, hds, nd⟩
      have hi10 : i < 10 := Nat.lt_of_lt_of_le hi (hc _ (by split <;> (try split) <;> omega))
      refine ⟨rfl, .ref a, rfl, .int (0 + i), rfl, a, ns, _, rfl, sm.seq hS, by omega, by omega, fun p H4 hp s4 hdi => ?_⟩
      have e16 : sizeLine = 16777216 := by decide
      have hpD : p ≠ DD := fun z => by
        rw [z, hDD] at hp
        cases hp
      refine ⟨ds.map V.ref, s4 _ _ hDD, by rw [List.length_map]; omega, ds ++ [p], by rw [List.length_append, hl]; rfl, fun c o e => ?_, ?_, fun d hd => ?_, ?_⟩
      · rw [upd_ne (ne_of_none e hD)]
        exact s4 _ _ (sm _ _ e)
      · rw [upd_same, List.map_append]
        rfl
      · rcases List.mem_append.mp hd with hd | hd
        · obtain ⟨x1, x2⟩ := hds d hd
          obtain ⟨a1, a2, a3, a4, e1, r⟩ := x1
          refine ⟨⟨a1, a2, a3, a4, ?_, r⟩, x2⟩
          rw [upd_ne]
          · exact s4 _ _ e1
          · intro z
            rw [z, hDD] at e1
            injection e1 with e1
            injection e1 with e1
            cases ds with
            | nil => cases hd
            | cons _ _ => simp at e1
        · rw [List.mem_singleton.mp hd]
          obtain ⟨a1, a2, a3, a4, e1, r⟩ := hdi
          refine ⟨⟨a1, a2, a3, a4, ?_, r⟩, sm.free hp⟩
          rw [upd_ne hpD]
          exact e1
      · rw [List.nodup_append]
        refine ⟨nd, List.nodup_cons.mpr ⟨List.not_mem_nil, List.nodup_nil⟩, fun x hx y hy => ?_⟩
        rw [List.mem_singleton.mp hy]
        intro z
        rw [z] at hx
        obtain ⟨o, ho⟩ := (hds p hx).1.some
        rw [hp] at ho
        cases ho
    · rintro H3 ⟨ds, hl, sm, hDD, hds, nd⟩
      refine q DD ds H3 hD sm hDD (by rw [hl]; exact hc _ (by split <;> (try split) <;> omega)) hds nd
/-! ### the checks -/
theorem sc_whole : FnScope ["value"] ["value"] (defScope st_is_whole_number) := ⟨rfl, rfl, rfl, by decide +kernel, rfl, by decide +kernel, by decide +kernel⟩
def spWhole : Sp := fun vs H Q _ => ∃ i : Int, vs = [.int i] ∧ Q (.bl true) H
theorem ok_whole (B : Bi mg) (D : Df K mg "is_whole_number" st_is_whole_number ["value"]) : FnOk P w K mg base CX0 1 D.f D.fd ["value"] spWhole := by
  refine D.F.ok sc_whole (fun vs H Q E h => ?_) (fun cdv A outer s H vs Q E hr h => ?_)
  · obtain ⟨i, rfl, _⟩ := h
    rfl
  · obtain ⟨i, rfl, q⟩ := h
    refine ⟨_, pss_one (ps_ret (pe_and (pe_callB call_isi (by rfl) B.isi (by decide +kernel) (pa_cons (pv 0) (pa_cons (pe_bltn (v := .ty "int") (by rfl) B.int (by decide +kernel) rfl) pa_nil)))
      (pe_one (pe_not (pe_callB call_isi (by rfl) B.isi (by decide +kernel) (pa_cons (pv 0) (pa_cons (pe_bltn (v := .ty "bool") (by rfl) B.bool (by decide +kernel) rfl) pa_nil))))))), ?_⟩
    have f : Flat (.int i) := True.intro
    refine ⟨_, rfl, .int i, _, _, _, true, rfl, .ty _, f.ty, f.kInt, _, rfl, iteT ?_⟩
    exact ⟨_, rfl, .int i, _, _, _, false, rfl, .ty _, f.ty, f.kBl, _, rfl, q⟩
theorem sc_count : FnScope ["value"] ["value"] (defScope st_is_count) := ⟨rfl, rfl, rfl, by decide +kernel, rfl, by decide +kernel, by decide +kernel⟩
def spCount : Sp := fun vs H Q _ => ∃ i : Int, vs = [.int i] ∧ 0 ≤ i ∧ Q (.bl true) H
theorem ok_count (B : Bi mg) (D : Df K mg "is_count" st_is_count ["value"]) (C : Cal P w K mg base 1 "is_whole_number" ["value"] spWhole) : FnOk P w K mg base CX0 2 D.f D.fd ["value"] spCount := by
  refine D.F.ok sc_count (fun vs H Q E h => ?_) (fun cdv A outer s H vs Q E hr h => ?_)
  · obtain ⟨i, rfl, _⟩ := h
    rfl
  · obtain ⟨i, rfl, h0, q⟩ := h
    refine ⟨_, pss_one (ps_ret (pe_and (pcall C hr (by rfl) (pa_cons (pv 0) pa_nil)) (pe_one (pe_cmpR op_ge (pv 0) pe_int (nomark _))))), ?_⟩
    refine ⟨_, rfl, i, rfl, _, rfl, iteT ?_⟩
    refine ⟨_, rfl, _, _, rfl, rfl, ?_⟩
    have e : decide ((0 : Int) ≤ i) = true := decide_eq_true h0
    exact (congrArg (fun b => Q (.bl b) H) e).mpr q
theorem sc_made : FnScope ["value", "signs"] ["value", "signs"] (defScope st_is_made_of) := ⟨rfl, rfl, rfl, by decide +kernel, rfl, by decide +kernel, by decide +kernel⟩
def spMade : Sp := fun vs H Q _ => ∃ (u : List Nat) (y : Str), vs = [.str (S u), .str y] ∧ u.length ≤ 100000 ∧ (∀ c ∈ u, y.cps.contains c = true) ∧ Q (.bl true) H
theorem ok_made (B : Bi mg) (D : Df K mg "is_made_of" st_is_made_of ["value", "signs"]) : FnOk P w K mg base CX0 1 D.f D.fd ["value", "signs"] spMade := by
  refine D.F.ok sc_made (fun vs H Q E h => ?_) (fun cdv A outer s H vs Q E hr h => ?_)
  · obtain ⟨u, y, rfl, _⟩ := h
    rfl
  · obtain ⟨u, y, rfl, hl, hc, q⟩ := h
    refine ⟨_, pss_one (ps_ret (pe_and (pe_callB call_isi (by rfl) B.isi (by decide +kernel) (pa_cons (pv 0) (pa_cons (pe_bltn (v := .ty "str") (by rfl) B.str (by decide +kernel) rfl) pa_nil)))
      (pe_one (pe_cmpR op_eq (pe_bm PySem.F.plainAttrs_str PySem.F.slot_str_strip PySem.F.type_str_strip mt_stripChars (pv 0) (pa_cons (pv 1) pa_nil)) pe_str (nomark _))))), ?_⟩
    have f : Flat (.str (S u)) := True.intro
    have e16 : sizeLine = 16777216 := by decide
    refine ⟨_, rfl, .str (S u), _, _, _, true, rfl, .ty _, f.ty, f.kStr, _, rfl, iteT ?_⟩
    refine ⟨_, rfl, rfl, _, rfl, S u, y, rfl, rfl, by rw [S_len]; omega, ?_⟩
    rw [strip_all hc]
    refine ⟨rfl, ?_⟩
    exact (congrArg (fun b => Q (.bl b) H) (decide_eq_true rfl)).mpr q
end
end K4
set_option Elab.async false
set_option linter.all false
set_option maxRecDepth 100000
set_option maxHeartbeats 4000000
namespace K4
open PySem PySem.Spec PyProof.Rows L2 K4M
abbrev LET : Str := Str.ofString "abcdefghijklmnopqrstuvwxyz"
def Low (u : List Nat) : Prop := ∀ c ∈ u, 97 ≤ c ∧ c ≤ 122
theorem low_has {c : Nat} (h1 : 97 ≤ c) (h2 : c ≤ 122) : LET.cps.contains c = true := by
  have all : ∀ k : Fin 26, LET.cps.contains (97 + k.val) = true := by decide +kernel
  have := all ⟨c - 97, by omega⟩
  rw [show 97 + (⟨c - 97, by omega⟩ : Fin 26).val = c by show 97 + (c - 97) = c; omega] at this
  exact this
theorem lp_unique {u : List Nat} (h : u ≠ []) {d : Nat} (h1 : 1 ≤ d) (h2 : d ≤ u.length) (h3 : ∀ j, 0 < j → j < d → had u j = false) (h4 : d < u.length → had u d = true) : lp u = d := by
  obtain ⟨a1, a2, a3, a4⟩ := lp_spec u h
  rcases Nat.lt_trichotomy (lp u) d with z | z | z
  · have x1 := a4 (by omega)
    rw [h3 _ (by omega) z] at x1
    cases x1
  · exact z
  · have x1 := h4 (by omega)
    rw [a1 _ (by omega) z] at x1
    cases x1
theorem bl_q {Q : VK} {H : Hp} {a b : Bool} (e : a = b) (q : Q (.bl b) H) : Q (.bl a) H := e ▸ q
theorem int_q {Q : VK} {H : Hp} {a b : Int} (e : a = b) (q : Q (.int b) H) : Q (.int a) H := e ▸ q
theorem pow_abs {s : Int} (h : s.natAbs < 2 ^ 100) : ∀ i : Nat, (s ^ i).natAbs < 2 ^ (100 * i + 1)
  | 0 => by simp
  | i + 1 => by
    rw [Int.pow_succ, Int.natAbs_mul, show 100 * (i + 1) + 1 = (100 * i + 1) + 100 by omega, Nat.pow_add]
    exact Nat.mul_lt_mul'' (pow_abs h i) h
section
variable {P : Program} {w : World} {K : PySem.W.Frag} {mg : Str → Option Value} {base : Heap}
theorem sc_text : FnScope ["value"] ["value"] (defScope st_is_text) := ⟨rfl, rfl, rfl, by decide +kernel, rfl, by decide +kernel, by decide +kernel⟩
def spText : Sp := fun vs H Q _ => ∃ u : List Nat, vs = [.str (S u)] ∧ u.length ≤ 100000 ∧ Low u ∧ Q (.bl true) H
theorem ok_text {t : Tok} (lt : mg "LETTERS" = some (.str LET t)) (D : Df K mg "is_text" st_is_text ["value"]) (C : Cal P w K mg base 1 "is_made_of" ["value", "signs"] spMade) : FnOk P w K mg base CX0 2 D.f D.fd ["value"] spText := by
  refine D.F.ok sc_text (fun vs H Q E h => ?_) (fun cdv A outer s H vs Q E hr h => ?_)
  · obtain ⟨u, rfl, _⟩ := h
    rfl
  · obtain ⟨u, rfl, hl, hw, q⟩ := h
    refine ⟨_, pss_one (ps_ret (pcall C hr (by rfl) (pa_cons (pv 0) (pa_cons (pe_glob (v := .str LET) rfl lt ⟨_, rfl⟩) pa_nil)))), ?_⟩
    exact ⟨_, rfl, u, LET, rfl, hl, fun c hc => low_has (hw c hc).1 (hw c hc).2, q⟩
def spWord : Sp := fun vs H Q _ => ∃ u : List Nat, vs = [.str (S u)] ∧ u.length ≤ 100000 ∧ Low u ∧ u ≠ [] ∧ Q (.bl true) H
def spCword : Sp := fun vs H Q _ => ∃ u : List Nat, vs = [.str (S u)] ∧ u.length ≤ 100000 ∧ Low u ∧ u ≠ [] ∧ Q .non H
def spCnum : Sp := fun vs H Q _ => ∃ i l : Int, vs = [.int i, .int l] ∧ 0 ≤ i ∧ l ≤ i ∧ Q .non H
/-! ### periods -/
def spHad : Sp := fun vs H Q _ => ∃ (u : List Nat) (p : Nat), vs = [.str (S u), .int (p : Int)] ∧ u.length ≤ 100000 ∧ Q (.bl (had u p)) H
def spLp : Sp := fun vs H Q _ => ∃ u : List Nat, vs = [.str (S u)] ∧ u.length ≤ 100000 ∧ Low u ∧ u ≠ [] ∧ Q (.int (lp u : Int)) H
def rootV (r : List Nat × Nat) : List V := [.str (S r.1), .int (r.2 : Int)]
def spRoot : Sp := fun vs H Q _ => ∃ u : List Nat, vs = [.str (S u)] ∧ u.length ≤ 100000 ∧ Low u ∧ u ≠ [] ∧ ∀ (p : Addr) (H' : Hp), H p = none → Same H H' → H' p = some (.tup (rootV (rootP u))) → Q (.ref p) H'
/-! ### powers -/
def spPow : Sp := fun vs H Q _ => ∃ (s : Int) (n : Nat), vs = [.int s, .int (n : Int)] ∧ s.natAbs < 2 ^ 100 ∧ n ≤ 1000 ∧ Q (.int (s ^ n)) H
end
end K4
set_option Elab.async false
set_option linter.all false
set_option maxRecDepth 100000
set_option maxHeartbeats 8000000
namespace K4
open PySem PySem.Spec PyProof.Rows L2 K4M
/-- behind the turn of one dice the others stand as they stood -/
theorem dices_after {ds : List Addr} {L d : Addr} {i : Nat} {H2 H9 : Hp} (hdi : ds[i]? = some d) (hnd : ds.Nodup) (neL : L ≠ d) (hL2 : H2 L = some (.lst (ds.map V.ref))) (hd2 : ∀ j d, i ≤ j → ds[j]? = some d → Dice H2 d 0) (kp : Kept H2 H9 d) :
    H9 L = some (.lst (ds.map V.ref)) ∧ ∀ j d', i + 1 ≤ j → ds[j]? = some d' → Dice H9 d' 0 := by
  refine ⟨kp _ _ neL hL2, fun j d' hj hjd => ?_⟩
  obtain ⟨b1, b2, b3, b4, e1, r⟩ := hd2 j d' (by omega) hjd
  refine ⟨b1, b2, b3, b4, kp _ _ (fun z => ?_) e1, r⟩
  have hj2 : j < ds.length := (List.getElem?_eq_some_iff.mp hjd).1
  have hi2 : i < ds.length := (List.getElem?_eq_some_iff.mp hdi).1
  have := (List.getElem?_inj hi2 hnd).mp (hdi.trans (hjd.trans (congrArg some z)).symm)
  omega
theorem dices_ne {ds : List Addr} {L : Addr} {H1 : Hp} (hLs : H1 L = some (.lst (ds.map V.ref))) {d : Addr} (hd : d ∈ ds) {n : Nat} (h : Dice H1 d n) : L ≠ d := fun z => by
  obtain ⟨b1, b2, b3, b4, e, _⟩ := h
  rw [← z, hLs] at e
  cases ds with
  | nil => cases hd
  | cons _ _ => simp at e
def spLaw (K : PySem.W.Frag) : Sp := fun vs H Q _ => ∃ (a : Addr) (ns : List Int), vs = [.ref a] ∧ SqL K H a (ns.map V.int) ∧ ns.length ≤ 63 ∧ ∀ H', Q (.bl true) H'
theorem atI_eq {α : Type} {xs : List α} {i : Int} {k : Nat} {v : α} (e : i = (k : Int)) (h : xs[k]? = some v) : atI xs i = some v := by
  rw [e]
  exact atI_nat h
theorem nats_at {ns : List Nat} {i : Nat} {x : V} (h : (natsV ns)[i]? = some x) : ∃ m, ns[i]? = some m ∧ x = V.int (m : Int) := by
  unfold natsV at h
  rw [List.getElem?_map] at h
  cases e : ns[i]? with
  | none => rw [e] at h; cases h
  | some m => rw [e] at h; exact ⟨m, rfl, (Option.some.inj h).symm⟩
theorem nats_len (l : List Nat) : (natsV l).length = l.length := List.length_map _
theorem nats_app (a b : List Nat) : natsV (a ++ b) = natsV a ++ natsV b := List.map_append
theorem refs_at {ds : List Addr} {i : Nat} {x : V} (hx : (ds.map V.ref)[i]? = some x) : ∃ d, ds[i]? = some d ∧ x = V.ref d := by
  rw [List.getElem?_map] at hx
  cases e : ds[i]? with
  | none => rw [e] at hx; cases hx
  | some d => rw [e] at hx; exact ⟨d, rfl, (Option.some.inj hx).symm⟩
theorem Dice.upd {H : Hp} {d p : Addr} {n : Nat} {o : HO} (h : Dice H d n) (hp : p ≠ d) : Dice (upd H p o) d n := by
  obtain ⟨a, b, c, e, e1, r⟩ := h
  refine ⟨a, b, c, e, ?_, r⟩
  rw [upd_ne (fun z => hp z.symm)]
  exact e1
theorem Dice.ne' {H : Hp} {d p : Addr} {n : Nat} (h : Dice H d n) (hp : H p = none) : p ≠ d := fun z => by
  obtain ⟨a, b, c, e, e1, r⟩ := h
  rw [z, e1] at hp
  cases hp
end K4
set_option Elab.async false
set_option linter.all false
set_option maxRecDepth 100000
set_option maxHeartbeats 4000000
namespace K4
open PySem PySem.Spec PyProof.Rows L2 K4M
theorem gne : ¬ (("_signs" : Str) = "_gap") := by decide +kernel
def gf (u : List Nat) (g : Nat) : List (Str × V) := putF "_gap" (.int (g : Int)) (putF "_signs" (.str (S u)) [])
theorem gf_s {u : List Nat} {g : Nat} : (gf u g).lookup ("_signs" : Str) = some (V.str (S u)) := by
  unfold gf
  rw [lookup_putF, if_neg gne, lookup_putF, if_pos rfl]
theorem gf_g {u : List Nat} {g : Nat} : (gf u g).lookup ("_gap" : Str) = some (V.int (g : Int)) := by
  unfold gf
  rw [lookup_putF, if_pos rfl]
theorem gf_no {u : List Nat} {g : Nat} {m : Str} (h1 : ¬ m = "_gap") (h2 : ¬ m = "_signs") : (gf u g).lookup m = none := by
  unfold gf
  rw [lookup_putF, if_neg h1, lookup_putF, if_neg h2]
  rfl
/-- a ground stands at p -/
def GAt (C : Addr) (H : Hp) (p : Addr) (u : List Nat) (g : Nat) : Prop := ∃ dx, H p = some (.ins C dx (gf u g))
theorem GAt.same {C p : Addr} {H H' : Hp} {u : List Nat} {g : Nat} (h : GAt C H p u g) (s : Same H H') : GAt C H' p u g := by
  obtain ⟨dx, e⟩ := h
  exact ⟨dx, s _ _ e⟩
/-- signs and a gap as a ground has them -/
structure Gd (u : List Nat) (g : Nat) : Prop where
  low : Low u
  up : u.Pairwise (· < ·)
  two : 2 ≤ u.length
  few : u.length ≤ 26
  gap : 2 ≤ g
  max : g ≤ 1000
end K4
set_option Elab.async false
set_option linter.all false
set_option maxRecDepth 100000
set_option maxHeartbeats 4000000
namespace K4
open PySem PySem.Spec PyProof.Rows L2 K4M
/-! ### data: what a value is, the heap left out -/
inductive D where
  | non | bl (b : Bool) | int (i : Int) | str (w : List Nat) | lst (xs : List D) | tup (xs : List D) | dic (kds : List (D × D)) | gnd (u : List Nat) (g : Nat)
/-- what a slot may own: a list or a dict that no other one holds -/
inductive OD where
  | lst (xs : List D) | dic (kds : List (D × D))
def OD.d : OD → D
  | .lst xs => .lst xs
  | .dic kds => .dic kds
def keyD : Key → D
  | .inl i => .int i
  | .inr x => .str x.cps.toList
abbrev GA (C : Addr) (H : Hp) (p : Addr) (u : List Nat) (g : Nat) : Prop := GAt C H p u g
mutual
inductive Rep (C : Addr) (F : Hp) : V → D → Prop
  | non : Rep C F .non .non
  | bl (b : Bool) : Rep C F (.bl b) (.bl b)
  | int (i : Int) : Rep C F (.int i) (.int i)
  | str (w : List Nat) : Rep C F (.str (S w)) (.str w)
  | lst {a : Addr} {vs : List V} {ds : List D} : F a = some (.lst vs) → RepAll C F vs ds → Rep C F (.ref a) (.lst ds)
  | tup {a : Addr} {vs : List V} {ds : List D} : F a = some (.tup vs) → RepAll C F vs ds → Rep C F (.ref a) (.tup ds)
  | dic {a : Addr} {kvs : List (Key × V)} {kds : List (D × D)} : F a = some (.dK kvs) → RepKV C F kvs kds → Rep C F (.ref a) (.dic kds)
  | gnd {p : Addr} {u : List Nat} {g : Nat} : GA C F p u g → Rep C F (.ref p) (.gnd u g)
inductive RepAll (C : Addr) (F : Hp) : List V → List D → Prop
  | nil : RepAll C F [] []
  | cons {v : V} {vs : List V} {d : D} {ds : List D} : Rep C F v d → RepAll C F vs ds → RepAll C F (v :: vs) (d :: ds)
inductive RepKV (C : Addr) (F : Hp) : List (Key × V) → List (D × D) → Prop
  | nil : RepKV C F [] []
  | cons {k : Key} {v : V} {kvs : List (Key × V)} {d : D} {kds : List (D × D)} : Rep C F v d → RepKV C F kvs kds → RepKV C F ((k, v) :: kvs) ((keyD k, d) :: kds)
end
section
variable {C : Addr} {F F' H H' : Hp}
mutual
theorem Rep.mono (s : Same F F') : ∀ {v : V} {d : D}, Rep C F v d → Rep C F' v d
  | _, _, .non => .non
  | _, _, .bl b => .bl b
  | _, _, .int i => .int i
  | _, _, .str w => .str w
  | _, _, .lst h r => .lst (s _ _ h) (RepAll.mono s r)
  | _, _, .tup h r => .tup (s _ _ h) (RepAll.mono s r)
  | _, _, .dic h r => .dic (s _ _ h) (RepKV.mono s r)
  | _, _, .gnd ⟨dx, h⟩ => .gnd ⟨dx, s _ _ h⟩
theorem RepAll.mono (s : Same F F') : ∀ {vs : List V} {ds : List D}, RepAll C F vs ds → RepAll C F' vs ds
  | _, _, .nil => .nil
  | _, _, .cons h r => .cons (Rep.mono s h) (RepAll.mono s r)
theorem RepKV.mono (s : Same F F') : ∀ {kvs : List (Key × V)} {kds : List (D × D)}, RepKV C F kvs kds → RepKV C F' kvs kds
  | _, _, .nil => .nil
  | _, _, .cons h r => .cons (Rep.mono s h) (RepKV.mono s r)
end
theorem RepAll.len {vs : List V} {ds : List D} (r : RepAll C F vs ds) : vs.length = ds.length := by
  induction vs generalizing ds with
  | nil => cases r; rfl
  | cons v vs ih => cases r with | cons h r => rw [List.length_cons, List.length_cons, ih r]
theorem RepAll.at {vs : List V} {ds : List D} (r : RepAll C F vs ds) {i : Nat} {v : V} (e : vs[i]? = some v) : ∃ d, ds[i]? = some d ∧ Rep C F v d := by
  induction vs generalizing ds i with
  | nil => simp at e
  | cons w vs ih =>
    cases r with
    | cons h r =>
      cases i with
      | zero => simp at e; subst e; exact ⟨_, rfl, h⟩
      | succ i => exact ih r (by simpa using e)
theorem RepAll.at' {vs : List V} {ds : List D} (r : RepAll C F vs ds) {i : Nat} {d : D} (e : ds[i]? = some d) : ∃ v, vs[i]? = some v ∧ Rep C F v d := by
  have hl := r.len
  have hi : i < vs.length := by rw [hl]; exact (List.getElem?_eq_some_iff.mp e).1
  obtain ⟨d', e', h⟩ := r.at (List.getElem?_eq_getElem hi)
  rw [e] at e'
  cases e'
  exact ⟨_, List.getElem?_eq_getElem hi, h⟩
theorem RepAll.app {vs ws : List V} {ds es : List D} (r : RepAll C F vs ds) (q : RepAll C F ws es) : RepAll C F (vs ++ ws) (ds ++ es) := by
  induction vs generalizing ds with
  | nil => cases r; exact q
  | cons v vs ih => cases r with | cons h r => exact .cons h (ih r)
theorem RepAll.drop {vs : List V} {ds : List D} (r : RepAll C F vs ds) : ∀ n, RepAll C F (vs.drop n) (ds.drop n) := by
  induction vs generalizing ds with
  | nil => cases r; intro n; rw [List.drop_nil, List.drop_nil]; exact .nil
  | cons v vs ih =>
    cases r with
    | cons h r =>
      intro n
      cases n with
      | zero => exact .cons h r
      | succ n => exact ih r n
theorem RepAll.take {vs : List V} {ds : List D} (r : RepAll C F vs ds) : ∀ n, RepAll C F (vs.take n) (ds.take n) := by
  induction vs generalizing ds with
  | nil => cases r; intro n; rw [List.take_nil, List.take_nil]; exact .nil
  | cons v vs ih =>
    cases r with
    | cons h r =>
      intro n
      cases n with
      | zero => exact .nil
      | succ n => exact .cons h (ih r n)
theorem RepAll.snoc {vs : List V} {ds : List D} {v : V} {d : D} (r : RepAll C F vs ds) (h : Rep C F v d) : RepAll C F (vs ++ [v]) (ds ++ [d]) := r.app (.cons h .nil)
theorem RepAll.set {vs : List V} {ds : List D} {v : V} {d : D} (r : RepAll C F vs ds) (h : Rep C F v d) : ∀ j, RepAll C F (vs.set j v) (ds.set j d) := by
  induction vs generalizing ds with
  | nil => cases r; intro j; exact .nil
  | cons w vs ih =>
    cases r with
    | cons h' r =>
      intro j
      cases j with
      | zero => exact .cons h r
      | succ j => exact .cons h' (ih r j)
theorem RepAll.ints {vs : List V} : ∀ {ns : List Int}, RepAll C F vs (ns.map D.int) → vs = ns.map V.int := by
  induction vs with
  | nil => intro ns r; cases ns with | nil => rfl | cons _ _ => cases r
  | cons v vs ih =>
    intro ns r
    cases ns with
    | nil => cases r
    | cons n ns =>
      cases r with
      | cons h r =>
        cases h
        rw [ih r]
        rfl
theorem RepAll.bls {vs : List V} : ∀ {ns : List Bool}, RepAll C F vs (ns.map D.bl) → vs = ns.map V.bl := by
  induction vs with
  | nil => intro ns r; cases ns with | nil => rfl | cons _ _ => cases r
  | cons v vs ih =>
    intro ns r
    cases ns with
    | nil => cases r
    | cons n ns =>
      cases r with
      | cons h r =>
        cases h
        rw [ih r]
        rfl
theorem RepAll.strs {vs : List V} : ∀ {ns : List (List Nat)}, RepAll C F vs (ns.map D.str) → vs = ns.map fun w => V.str (S w) := by
  induction vs with
  | nil => intro ns r; cases ns with | nil => rfl | cons _ _ => cases r
  | cons v vs ih =>
    intro ns r
    cases ns with
    | nil => cases r
    | cons n ns =>
      cases r with
      | cons h r =>
        cases h
        rw [ih r]
        rfl
theorem RepAll.ofInts (ns : List Int) : RepAll C F (ns.map V.int) (ns.map D.int) := by
  induction ns with
  | nil => exact .nil
  | cons n r ih => exact .cons (.int n) ih
theorem RepAll.ofStrs (ns : List (List Nat)) : RepAll C F (ns.map fun w => V.str (S w)) (ns.map D.str) := by
  induction ns with
  | nil => exact .nil
  | cons n r ih => exact .cons (.str n) ih
theorem RepAll.ofBls (ns : List Bool) : RepAll C F (ns.map V.bl) (ns.map D.bl) := by
  induction ns with
  | nil => exact .nil
  | cons n r ih => exact .cons (.bl n) ih
end
/-- what stands in the heap is what is owned -/
def RepO (C : Addr) (F : Hp) : HO → OD → Prop
  | .lst vs, .lst ds => RepAll C F vs ds
  | .dK kvs, .dic kds => RepKV C F kvs kds
  | _, _ => False
theorem RepO.mono {C : Addr} {F F' : Hp} (s : Same F F') : ∀ {ho : HO} {o : OD}, RepO C F ho o → RepO C F' ho o
  | .lst _, .lst _, h => RepAll.mono s h
  | .dK _, .dic _, h => RepKV.mono s h
  | .lst _, .dic _, h => h.elim
  | .dK _, .lst _, h => h.elim
  | .tup _, _, h => h.elim
  | .dT _, _, h => h.elim
  | .set _ _, _, h => h.elim
  | .ins _ _ _, _, h => h.elim
  | .own _, _, h => h.elim
  | .xd _, _, h => h.elim
  | .met _ _, _, h => h.elim
  | .rng _ _, _, h => h.elim
  | .frz _ _, _, h => h.elim
  | .tbl _, _, h => h.elim
  | .ext _, _, h => h.elim
theorem RepO.rep {C : Addr} {F : Hp} {p : Addr} : ∀ {ho : HO} {o : OD}, F p = some ho → RepO C F ho o → Rep C F (.ref p) o.d
  | .lst _, .lst _, e, h => .lst e h
  | .dK _, .dic _, e, h => .dic e h
  | .lst _, .dic _, _, h => h.elim
  | .dK _, .lst _, _, h => h.elim
  | .tup _, _, _, h => h.elim
  | .dT _, _, _, h => h.elim
  | .set _ _, _, _, h => h.elim
  | .ins _ _ _, _, _, h => h.elim
  | .own _, _, _, h => h.elim
  | .xd _, _, _, h => h.elim
  | .met _ _, _, _, h => h.elim
  | .rng _ _, _, _, h => h.elim
  | .frz _ _, _, _, h => h.elim
  | .tbl _, _, _, h => h.elim
  | .ext _, _, _, h => h.elim
theorem RepO.lst {C : Addr} {F : Hp} {ho : HO} {ds : List D} (h : RepO C F ho (.lst ds)) : ∃ vs, ho = .lst vs ∧ RepAll C F vs ds := by
  cases ho <;> first | exact ⟨_, rfl, h⟩ | exact h.elim
theorem RepO.dic {C : Addr} {F : Hp} {ho : HO} {ds : List (D × D)} (h : RepO C F ho (.dic ds)) : ∃ vs, ho = .dK vs ∧ RepKV C F vs ds := by
  cases ho <;> first | exact ⟨_, rfl, h⟩ | exact h.elim
/-- a slot -/
inductive Ent where
  | un | sh (d : D) | own (o : OD) | die
/-- an expression's end -/
inductive Rs where
  | sh (d : D) | own (o : OD) | loc (o : OD) | die
def Rs.d : Rs → D
  | .sh d => d
  | .own o => o.d
  | .loc o => o.d
  | .die => .non
def Ent.rs : Ent → Option Rs
  | .un => none
  | .sh d => some (.sh d)
  | .own o => some (.loc o)
  | .die => some .die
def Rs.fz : Rs → Rs
  | .own o => .sh o.d
  | r => r
def DieOk (M : Option Addr) (F H : Hp) (n : Nat) : Prop := ∀ d, M = some d → Dice H d n ∧ F d = none
def EntOk (C : Addr) (M : Option Addr) (F H : Hp) (x : Option (Option V)) : Ent → Prop
  | .un => True
  | .sh d => ∃ v, x = some (some v) ∧ Rep C F v d
  | .own o => ∃ p ho, x = some (some (.ref p)) ∧ F p = none ∧ M ≠ some p ∧ H p = some ho ∧ RepO C F ho o
  | .die => ∃ d, M = some d ∧ x = some (some (.ref d))
/-- where an expression starts -/
structure StE (C : Addr) (M : Option Addr) (F H : Hp) (σ : L2.St) (env : List Ent) (n : Nat) : Prop where
  len : σ.length = env.length
  fh : Same F H
  ent : ∀ (i : Nat) (e : Ent), env[i]? = some e → EntOk C M F H (σ[i]?) e
  die : DieOk M F H n
/-- what an expression may do -/
structure Ext (M : Option Addr) (F H F' H' : Hp) (n' : Nat) : Prop where
  ff : Same F F'
  fh : Same F' H'
  keep : ∀ b o, M ≠ some b → H b = some o → H' b = some o
  new : ∀ b o, F b = none → H b = some o → F' b = none
  die : DieOk M F' H' n'
/-- the end of an expression that started at Hs -/
def RsOk (C : Addr) (M : Option Addr) (Hs F H : Hp) (v : V) : Rs → Prop
  | .sh d => Rep C F v d
  | .own o => ∃ p ho, v = .ref p ∧ Hs p = none ∧ F p = none ∧ H p = some ho ∧ RepO C F ho o
  | .loc o => ∃ p ho, v = .ref p ∧ F p = none ∧ M ≠ some p ∧ H p = some ho ∧ RepO C F ho o
  | .die => ∃ d, M = some d ∧ v = .ref d
/-- a value as it may be looked at -/
def View (C : Addr) (M : Option Addr) (F H : Hp) (v : V) : D → Prop
  | .lst ds => ∃ p vs, v = .ref p ∧ M ≠ some p ∧ H p = some (.lst vs) ∧ RepAll C F vs ds
  | .dic kds => ∃ p kvs, v = .ref p ∧ M ≠ some p ∧ H p = some (.dK kvs) ∧ RepKV C F kvs kds
  | d => Rep C F v d
section
variable {C : Addr} {M : Option Addr} {F H F1 H1 F2 H2 Hs : Hp} {σ : L2.St} {env : List Ent} {n n1 n2 : Nat} {v : V}
theorem die_ne (h : DieOk M F H n) {p : Addr} (hp : H p = none) : M ≠ some p := fun z => by
  obtain ⟨⟨_, _, _, _, e, _⟩, _⟩ := h p z
  rw [e] at hp
  cases hp
theorem die_ne' (h : DieOk M F H n) {p : Addr} {o : HO} (hp : F p = some o) : M ≠ some p := fun z => by
  rw [(h p z).2] at hp
  cases hp
theorem Ext.refl (fh : Same F H) (d : DieOk M F H n) : Ext M F H F H n := ⟨Same.refl _, fh, fun _ _ _ h => h, fun _ _ h _ => h, d⟩
theorem Ext.trans (a : Ext M F H F1 H1 n1) (b : Ext M F1 H1 F2 H2 n2) : Ext M F H F2 H2 n2 where
  ff := a.ff.trans b.ff
  fh := b.fh
  keep := fun c o hm h => b.keep c o hm (a.keep c o hm h)
  new := fun c o hf h => by
    by_cases hm : M = some c
    · exact (b.die c hm).2
    · exact b.new c o (a.new c o hf h) (a.keep c o hm h)
  die := b.die
theorem StE.ext (s : StE C M F H σ env n) (x : Ext M F H F1 H1 n1) : StE C M F1 H1 σ env n1 where
  len := s.len
  fh := x.fh
  ent := fun i e he => by
    have := s.ent i e he
    cases e with
    | un => exact True.intro
    | sh d =>
      obtain ⟨v, h1, h2⟩ := this
      exact ⟨v, h1, h2.mono x.ff⟩
    | own o =>
      obtain ⟨p, ho, h1, h2, h3, h4, h5⟩ := this
      exact ⟨p, ho, h1, x.new p ho h2 h4, h3, x.keep p ho h3 h4, h5.mono x.ff⟩
    | die => exact this
  die := x.die
/-- a new object, frozen at once -/
theorem Ext.alloc (fh : Same F H) (d : DieOk M F H n) {p : Addr} (hp : H p = none) (o : HO) : Ext M F H (upd F p o) (upd H p o) n where
  ff := fun b u e => by
    rw [upd_ne (ne_of_none (fh _ _ e) hp)]
    exact e
  fh := fun b u e => by
    by_cases z : b = p
    · subst z
      rw [upd_same] at e ⊢
      exact e
    · rw [upd_ne z] at e ⊢
      exact fh _ _ e
  keep := fun b u _ e => by
    rw [upd_ne (ne_of_none e hp)]
    exact e
  new := fun b u hf e => by
    rw [upd_ne (ne_of_none e hp)]
    exact hf
  die := fun b hm => by
    have hb := die_ne d hp
    have : b ≠ p := fun z => hb (by rw [← z]; exact hm)
    exact ⟨(d b hm).1.upd (fun z => this z.symm), by rw [upd_ne this]; exact (d b hm).2⟩
/-- a new object of one's own -/
theorem Ext.allocOwn (fh : Same F H) (d : DieOk M F H n) {p : Addr} (hp : H p = none) (o : HO) : Ext M F H F (upd H p o) n where
  ff := Same.refl _
  fh := fun b u e => by
    rw [upd_ne (ne_of_none (fh _ _ e) hp)]
    exact fh _ _ e
  keep := fun b u _ e => by
    rw [upd_ne (ne_of_none e hp)]
    exact e
  new := fun b u hf _ => hf
  die := fun b hm => by
    have hb := die_ne d hp
    have : b ≠ p := fun z => hb (by rw [← z]; exact hm)
    exact ⟨(d b hm).1.upd (fun z => this z.symm), (d b hm).2⟩
/-- what is one's own may be frozen -/
theorem Ext.freeze (x : Ext M Hs H F1 H1 n1) {p : Addr} {ho : HO} (h0 : H p = none) (h1 : F1 p = none) (h2 : H1 p = some ho) (hm : M ≠ some p) : Ext M Hs H (upd F1 p ho) H1 n1 where
  ff := x.ff.trans (same_upd h1)
  fh := fun b u e => by
    by_cases z : b = p
    · subst z
      rw [upd_same] at e
      rw [h2]
      exact e
    · rw [upd_ne z] at e
      exact x.fh _ _ e
  keep := x.keep
  new := fun b u hf e => by
    rw [upd_ne (ne_of_none e h0)]
    exact x.new b u hf e
  die := fun b hb => by
    refine ⟨(x.die b hb).1, ?_⟩
    rw [upd_ne (fun z => hm (by rw [← z]; exact hb))]
    exact (x.die b hb).2
theorem own_ne (x : Ext M F H F1 H1 n1) (d : DieOk M F H n) {p : Addr} (h0 : H p = none) : M ≠ some p := die_ne d h0
/-- an end that is one's own is frozen -/
theorem fz_ok (x : Ext M F H F1 H1 n1) (d : DieOk M F H n) {r : Rs} (h : RsOk C M H F1 H1 v r) : ∃ F2, Ext M F H F2 H1 n1 ∧ Same F1 F2 ∧ RsOk C M H F2 H1 v r.fz := by
  cases r with
  | sh a => exact ⟨F1, x, Same.refl _, h⟩
  | loc o => exact ⟨F1, x, Same.refl _, h⟩
  | die => exact ⟨F1, x, Same.refl _, h⟩
  | own o =>
    obtain ⟨p, ho, rfl, h0, h1, h2, h3⟩ := h
    have s := same_upd (o := ho) h1
    exact ⟨upd F1 p ho, x.freeze h0 h1 h2 (die_ne d h0), s, RepO.rep upd_same (h3.mono s)⟩
/-- it stays as it is while others are reckoned -/
theorem rs_keep (x : Ext M F1 H1 F2 H2 n2) {r : Rs} (h : RsOk C M H F1 H1 v r.fz) : RsOk C M H F2 H2 v r.fz := by
  cases r with
  | sh a => exact Rep.mono x.ff h
  | own o => exact Rep.mono x.ff h
  | die => exact h
  | loc o =>
    obtain ⟨p, ho, h0, h1, h2, h3, h4⟩ := h
    exact ⟨p, ho, h0, x.new p ho h1 h3, h2, x.keep p ho h2 h3, h4.mono x.ff⟩
theorem rs_view (fh : Same F H) (d : DieOk M F H n) {r : Rs} (h : RsOk C M Hs F H v r.fz) (hd : r ≠ .die) : View C M F H v r.d := by
  have key : ∀ {d : D}, Rep C F v d → View C M F H v d := fun {d} h => by
    cases d with
    | lst ds =>
      cases h with
      | lst e r => exact ⟨_, _, rfl, die_ne' ‹_› e, fh _ _ e, r⟩
    | dic kds =>
      cases h with
      | dic e r => exact ⟨_, _, rfl, die_ne' ‹_› e, fh _ _ e, r⟩
    | _ => exact h
  cases r with
  | sh a => exact key h
  | own o => exact key h
  | die => exact absurd rfl hd
  | loc o =>
    obtain ⟨p, ho, rfl, h1, h2, h3, h4⟩ := h
    cases o with
    | lst xs =>
      obtain ⟨vs, rfl, q⟩ := h4.lst
      exact ⟨p, vs, rfl, h2, h3, q⟩
    | dic xs =>
      obtain ⟨vs, rfl, q⟩ := h4.dic
      exact ⟨p, vs, rfl, h2, h3, q⟩
end
/-! ### readings of data -/
abbrev TDE := List Ent → Nat → (Rs → Nat → Prop) → Prop
abbrev TDT := List Ent → Nat → (Bool → Nat → Prop) → Prop
abbrev TDA := List Ent → Nat → (List Rs → Nat → Prop) → Prop
structure DEnds where
  nx : List Ent → Nat → Prop
  rt : Rs → Nat → Prop
  bk : List Ent → Nat → Prop := fun _ _ => False
  ct : List Ent → Nat → Prop := fun _ _ => False
abbrev TDS := DEnds → List Ent → Nat → Prop
def Sim (C : Addr) (te : TE) (t : TDE) : Prop := ∀ (M : Option Addr) (F H : Hp) (σ : L2.St) (env : List Ent) (n : Nat) (Q : VK) (k : Rs → Nat → Prop), StE C M F H σ env n → t env n k → (∀ r n' v F' H', k r n' → Ext M F H F' H' n' → RsOk C M H F' H' v r → Q v H') → te σ H Q
def SimT (C : Addr) (tt : TT) (t : TDT) : Prop := ∀ (M : Option Addr) (F H : Hp) (σ : L2.St) (env : List Ent) (n : Nat) (Q : Bool → Hp → Prop) (k : Bool → Nat → Prop), StE C M F H σ env n → t env n k → (∀ b n' F' H', k b n' → Ext M F H F' H' n' → Q b H') → tt σ H Q
/-- arguments: each one frozen where it is one's own -/
inductive RsAll (C : Addr) (M : Option Addr) (Hs F H : Hp) : List V → List Rs → Prop
  | nil : RsAll C M Hs F H [] []
  | cons {v : V} {vs : List V} {r : Rs} {rs : List Rs} : RsOk C M Hs F H v r.fz → RsAll C M Hs F H vs rs → RsAll C M Hs F H (v :: vs) (r :: rs)
def SimA (C : Addr) (ta : TA) (t : TDA) : Prop := ∀ (M : Option Addr) (F H : Hp) (σ : L2.St) (env : List Ent) (n : Nat) (Q : List V → Hp → Prop) (k : List Rs → Nat → Prop), StE C M F H σ env n → t env n k → (∀ rs n' vs F' H', k rs n' → Ext M F H F' H' n' → RsAll C M H F' H' vs rs → Q vs H') → ta σ H Q
def OpS (C : Addr) (r : R2) (f : D → D → (Rs → Prop) → Prop) : Prop := ∀ (M : Option Addr) (F H : Hp) (n : Nat) (x y : V) (a b : D) (Q : VK) (k : Rs → Prop), Same F H → DieOk M F H n → View C M F H x a → View C M F H y b → f a b k → (∀ z v F' H', k z → Ext M F H F' H' n → RsOk C M H F' H' v z → Q v H') → r x y H Q
def UnS (C : Addr) (r : V → Hp → VK → Prop) (f : D → (Rs → Prop) → Prop) : Prop := ∀ (M : Option Addr) (F H : Hp) (n : Nat) (x : V) (a : D) (Q : VK) (k : Rs → Prop), Same F H → DieOk M F H n → View C M F H x a → f a k → (∀ z v F' H', k z → Ext M F H F' H' n → RsOk C M H F' H' v z → Q v H') → r x H Q
inductive ViewAll (C : Addr) (M : Option Addr) (F H : Hp) : List V → List D → Prop
  | nil : ViewAll C M F H [] []
  | cons {v : V} {vs : List V} {d : D} {ds : List D} : View C M F H v d → ViewAll C M F H vs ds → ViewAll C M F H (v :: vs) (d :: ds)
def CallS (C : Addr) (r : List V → Hp → VK → Prop) (f : List D → (Rs → Prop) → Prop) : Prop := ∀ (M : Option Addr) (F H : Hp) (n : Nat) (xs : List V) (as : List D) (Q : VK) (k : Rs → Prop), Same F H → DieOk M F H n → ViewAll C M F H xs as → f as k → (∀ z v F' H', k z → Ext M F H F' H' n → RsOk C M H F' H' v z → Q v H') → r xs H Q
section
variable {C : Addr} {ta tb tc te : TE} {a b c e : TDE} {tt tt' : TT} {p q : TDT}
def dVar (i : Nat) : TDE := fun env n k => ∃ r, (env[i]?.bind Ent.rs) = some r ∧ k r n
theorem sim_var (i : Nat) : Sim C (tVar i) (dVar i) := fun M F H σ env n Q k s h hk => by
  obtain ⟨r, e, h⟩ := h
  cases e1 : env[i]? with
  | none => rw [e1] at e; cases e
  | some x =>
    rw [e1] at e
    have ok := s.ent i x e1
    have x0 := Ext.refl s.fh s.die
    cases x with
    | un => cases e
    | sh d =>
      cases e
      obtain ⟨v, ev, hv⟩ := ok
      exact ⟨v, ev, hk _ _ v F H h x0 hv⟩
    | own o =>
      cases e
      obtain ⟨p, ho, ev, h1, h2, h3, h4⟩ := ok
      exact ⟨_, ev, hk _ _ _ F H h x0 ⟨p, ho, rfl, h1, h2, h3, h4⟩⟩
    | die =>
      cases e
      obtain ⟨d, hm, ev⟩ := ok
      exact ⟨_, ev, hk _ _ _ F H h x0 ⟨d, hm, rfl⟩⟩
def dC (d : D) : TDE := fun _ n k => k (.sh d) n
theorem sim_int (i : Int) : Sim C (tC (.int i)) (dC (.int i)) := fun M F H σ env n Q k s h hk => hk _ _ _ F H h (Ext.refl s.fh s.die) (.int i)
theorem sim_bl (i : Bool) : Sim C (tC (.bl i)) (dC (.bl i)) := fun M F H σ env n Q k s h hk => hk _ _ _ F H h (Ext.refl s.fh s.die) (.bl i)
theorem sim_non : Sim C (tC .non) (dC .non) := fun M F H σ env n Q k s h hk => hk _ _ _ F H h (Ext.refl s.fh s.die) .non
theorem sim_str {z : Str} {w : List Nat} (e : z = S w) : Sim C (tC (.str z)) (dC (.str w)) := fun M F H σ env n Q k s h hk => by
  subst e
  exact hk _ _ _ F H h (Ext.refl s.fh s.die) (.str w)
/-- one that is looked at alone: frozen, as data -/
theorem look {M : Option Addr} {F H : Hp} {σ : L2.St} {env : List Ent} {n : Nat} {Q : VK} {k : Rs → Nat → Prop} (ha : Sim C ta a) (s : StE C M F H σ env n) (h : a env n k) (hk : ∀ r n' v F' H', k r n' → Ext M F H F' H' n' → RsOk C M H F' H' v r.fz → Q v H') : ta σ H Q :=
  ha M F H σ env n _ _ s h fun r n1 v F1 H1 h1 x1 o1 => by
    obtain ⟨F2, x2, s2, o2⟩ := fz_ok x1 s.die o1
    exact hk r n1 v F2 H1 h1 x2 o2
def dOp (f : D → D → (Rs → Prop) → Prop) (a b : TDE) : TDE := fun env n k => a env n fun x n1 => x ≠ .die ∧ b env n1 fun y n2 => y ≠ .die ∧ f x.d y.d fun z => k z n2
/-- the start of a later part lies in the start -/
theorem rs_from {M : Option Addr} {F H F1 H1 F2 H2 : Hp} {n1 n2 : Nat} {v : V} (x : Ext M F H F1 H1 n1) (d : DieOk M F H n1) {r : Rs} (h : RsOk C M H1 F2 H2 v r) : RsOk C M H F2 H2 v r := by
  cases r with
  | own o =>
    obtain ⟨p, ho, rfl, h0, h1⟩ := h
    refine ⟨p, ho, rfl, ?_, h1⟩
    cases e : H p with
    | none => rfl
    | some u =>
      by_cases hm : M = some p
      · obtain ⟨⟨_, _, _, _, e', _⟩, _⟩ := x.die p hm
        rw [e'] at h0
        cases h0
      · rw [x.keep p u hm e] at h0
        cases h0
  | _ => exact h
theorem rs_from' {M : Option Addr} {F H F1 H1 F2 H2 : Hp} {n1 : Nat} {v : V} (x : Ext M F H F1 H1 n1) {r : Rs} (h : RsOk C M H1 F2 H2 v r) : RsOk C M H F2 H2 v r := by
  cases r with
  | own o =>
    obtain ⟨p, ho, rfl, h0, h1⟩ := h
    refine ⟨p, ho, rfl, ?_, h1⟩
    cases e : H p with
    | none => rfl
    | some u =>
      by_cases hm : M = some p
      · obtain ⟨⟨_, _, _, _, e', _⟩, _⟩ := x.die p hm
        rw [e'] at h0
        cases h0
      · rw [x.keep p u hm e] at h0
        cases h0
  | _ => exact h
theorem sim_op {r : R2} {f : D → D → (Rs → Prop) → Prop} (hr : OpS C r f) (ha : Sim C ta a) (hb : Sim C tb b) : Sim C (tOp r ta tb) (dOp f a b) := fun M F H σ env n Q k s h hk => by
  refine look (ta := ta) ha s h fun x n1 v F1 H1 h1 x1 o1 => ?_
  obtain ⟨hx, h1⟩ := h1
  refine look (ta := tb) hb (s.ext x1) h1 fun y n2 w F2 H2 h2 x2 o2 => ?_
  obtain ⟨hy, h2⟩ := h2
  have vx := rs_view x2.fh x2.die (rs_keep x2 o1) hx
  have vy := rs_view x2.fh x2.die o2 hy
  refine hr M F2 H2 n2 v w _ _ Q _ x2.fh x2.die vx vy h2 fun z u F3 H3 h3 x3 o3 => ?_
  exact hk z n2 u F3 H3 h3 (x1.trans (x2.trans x3)) (rs_from' (x1.trans x2) o3)
def dUn (f : D → (Rs → Prop) → Prop) (a : TDE) : TDE := fun env n k => a env n fun x n1 => x ≠ .die ∧ f x.d fun z => k z n1
theorem sim_un {r : V → Hp → VK → Prop} {f : D → (Rs → Prop) → Prop} (hr : UnS C r f) (ha : Sim C ta a) : Sim C (tUn r ta) (dUn f a) := fun M F H σ env n Q k s h hk => by
  refine look (ta := ta) ha s h fun x n1 v F1 H1 h1 x1 o1 => ?_
  obtain ⟨hx, h1⟩ := h1
  refine hr M F1 H1 n1 v _ Q _ x1.fh x1.die (rs_view x1.fh x1.die o1 hx) h1 fun z u F3 H3 h3 x3 o3 => ?_
  exact hk z n1 u F3 H3 h3 (x1.trans x3) (rs_from' x1 o3)
/-! ### truth -/
theorem view_bl {M : Option Addr} {F H : Hp} {v : V} {b : Bool} (h : View C M F H v (.bl b)) : v = .bl b := by cases h; rfl
theorem view_int {M : Option Addr} {F H : Hp} {v : V} {b : Int} (h : View C M F H v (.int b)) : v = .int b := by cases h; rfl
theorem view_str {M : Option Addr} {F H : Hp} {v : V} {b : List Nat} (h : View C M F H v (.str b)) : v = .str (S b) := by cases h; rfl
theorem view_non {M : Option Addr} {F H : Hp} {v : V} (h : View C M F H v .non) : v = .non := by cases h; rfl
theorem view_tup {M : Option Addr} {F H : Hp} (fh : Same F H) {v : V} {ds : List D} (h : View C M F H v (.tup ds)) : ∃ p vs, v = .ref p ∧ H p = some (.tup vs) ∧ F p = some (.tup vs) ∧ RepAll C F vs ds := by
  cases h with
  | tup e r => exact ⟨_, _, rfl, fh _ _ e, e, r⟩
theorem rs_bl {M : Option Addr} {Hs F H : Hp} {v : V} {r : Rs} {b : Bool} (h : RsOk C M Hs F H v r.fz) (e : r.d = .bl b) (hd : r ≠ .die) : v = .bl b := by
  cases r with
  | sh d => cases e; cases h; rfl
  | own o => cases o <;> cases e
  | loc o => cases o <;> cases e
  | die => exact absurd rfl hd
def isB (x : Rs) (k : Bool → Prop) : Prop := ∃ b, x = .sh (.bl b) ∧ k b
def dTest (a : TDE) : TDT := fun env n k => a env n fun x n1 => isB x fun b => k b n1
theorem sim_tB (ha : Sim C ta a) : SimT C (tB ta) (dTest a) := fun M F H σ env n Q k s h hk => by
  refine look (ta := ta) ha s h fun x n1 v F1 H1 h1 x1 o1 => ?_
  obtain ⟨b, rfl, h1⟩ := h1
  cases o1
  exact ⟨b, rfl, hk b n1 F1 H1 h1 x1⟩
theorem sim_tTest (ha : Sim C ta a) : SimT C (tTest ta) (dTest a) := sim_tB ha
def dAnd (p q : TDT) : TDT := fun env n k => p env n fun b n1 => if b = true then q env n1 k else k false n1
def dOr (p q : TDT) : TDT := fun env n k => p env n fun b n1 => if b = true then k true n1 else q env n1 k
def dNot (p : TDT) : TDT := fun env n k => p env n fun b n1 => k (!b) n1
theorem sim_and (hp : SimT C tt p) (hq : SimT C tt' q) : SimT C (tAnd tt tt') (dAnd p q) := fun M F H σ env n Q k s h hk => by
  refine hp M F H σ env n _ _ s h fun b n1 F1 H1 h1 x1 => ?_
  cases b with
  | true => exact iteT (hq M F1 H1 σ env n1 _ _ (s.ext x1) (by exact (if_pos rfl).mp h1) fun b n2 F2 H2 h2 x2 => hk b n2 F2 H2 h2 (x1.trans x2))
  | false => exact iteF (hk false n1 F1 H1 (by simpa using h1) x1)
theorem sim_or (hp : SimT C tt p) (hq : SimT C tt' q) : SimT C (tOr tt tt') (dOr p q) := fun M F H σ env n Q k s h hk => by
  refine hp M F H σ env n _ _ s h fun b n1 F1 H1 h1 x1 => ?_
  cases b with
  | false => exact iteF (hq M F1 H1 σ env n1 _ _ (s.ext x1) (by simpa using h1) fun b n2 F2 H2 h2 x2 => hk b n2 F2 H2 h2 (x1.trans x2))
  | true => exact iteT (hk true n1 F1 H1 (by simpa using h1) x1)
theorem sim_not (hp : SimT C tt p) : SimT C (tNot tt) (dNot p) := fun M F H σ env n Q k s h hk => hp M F H σ env n _ _ s h fun b n1 F1 H1 h1 x1 => hk _ n1 F1 H1 h1 x1
def dAndV (a b : TDE) : TDE := fun env n k => a env n fun x n1 => isB x fun c => if c = true then b env n1 k else k (.sh (.bl false)) n1
def dOrV (a b : TDE) : TDE := fun env n k => a env n fun x n1 => isB x fun c => if c = true then k (.sh (.bl true)) n1 else b env n1 k
def dNotV (a : TDE) : TDE := fun env n k => a env n fun x n1 => isB x fun c => k (.sh (.bl (!c))) n1
theorem sim_andV (ha : Sim C ta a) (hb : Sim C tb b) : Sim C (tAndV ta tb) (dAndV a b) := fun M F H σ env n Q k s h hk => by
  refine look (ta := ta) ha s h fun x n1 v F1 H1 h1 x1 o1 => ?_
  obtain ⟨c, rfl, h1⟩ := h1
  cases o1
  cases c with
  | true => exact ⟨true, rfl, iteT (hb M F1 H1 σ env n1 _ _ (s.ext x1) (by simpa using h1) fun r n2 v F2 H2 h2 x2 o2 => hk r n2 v F2 H2 h2 (x1.trans x2) (rs_from' x1 o2))⟩
  | false => exact ⟨false, rfl, iteF (hk (.sh (.bl false)) n1 _ F1 H1 (by simpa using h1) x1 (Rep.bl false))⟩
theorem sim_orV (ha : Sim C ta a) (hb : Sim C tb b) : Sim C (tOrV ta tb) (dOrV a b) := fun M F H σ env n Q k s h hk => by
  refine look (ta := ta) ha s h fun x n1 v F1 H1 h1 x1 o1 => ?_
  obtain ⟨c, rfl, h1⟩ := h1
  cases o1
  cases c with
  | false => exact ⟨false, rfl, iteF (hb M F1 H1 σ env n1 _ _ (s.ext x1) (by simpa using h1) fun r n2 v F2 H2 h2 x2 o2 => hk r n2 v F2 H2 h2 (x1.trans x2) (rs_from' x1 o2))⟩
  | true => exact ⟨true, rfl, iteT (hk (.sh (.bl true)) n1 _ F1 H1 (by simpa using h1) x1 (Rep.bl true))⟩
theorem sim_notV (ha : Sim C ta a) : Sim C (tNotV ta) (dNotV a) := fun M F H σ env n Q k s h hk => by
  refine look (ta := ta) ha s h fun x n1 v F1 H1 h1 x1 o1 => ?_
  obtain ⟨c, rfl, h1⟩ := h1
  cases o1
  exact ⟨c, rfl, hk _ n1 _ F1 H1 h1 x1 (Rep.bl _)⟩
def dIf (p : TDT) (a b : TDE) : TDE := fun env n k => p env n fun c n1 => if c = true then a env n1 k else b env n1 k
theorem sim_ifx (hp : SimT C tt p) (ha : Sim C ta a) (hb : Sim C tb b) : Sim C (tIf tt ta tb) (dIf p a b) := fun M F H σ env n Q k s h hk => by
  refine hp M F H σ env n _ _ s h fun c n1 F1 H1 h1 x1 => ?_
  cases c with
  | true => exact iteT (ha M F1 H1 σ env n1 _ _ (s.ext x1) (by simpa using h1) fun r n2 v F2 H2 h2 x2 o2 => hk r n2 v F2 H2 h2 (x1.trans x2) (rs_from' x1 o2))
  | false => exact iteF (hb M F1 H1 σ env n1 _ _ (s.ext x1) (by simpa using h1) fun r n2 v F2 H2 h2 x2 o2 => hk r n2 v F2 H2 h2 (x1.trans x2) (rs_from' x1 o2))
/-! ### arguments, displays, calls -/
def dNil : TDA := fun _ n k => k [] n
def dCons (a : TDE) (t : TDA) : TDA := fun env n k => a env n fun x n1 => t env n1 fun xs n2 => k (x :: xs) n2
theorem sim_nil : SimA C tNil dNil := fun M F H σ env n Q k s h hk => hk [] n [] F H h (Ext.refl s.fh s.die) .nil
theorem rsAll_from {M : Option Addr} {F H F1 H1 F2 H2 : Hp} {n1 : Nat} {vs : List V} {rs : List Rs} (x : Ext M F H F1 H1 n1) (h : RsAll C M H1 F2 H2 vs rs) : RsAll C M H F2 H2 vs rs := by
  induction h with
  | nil => exact .nil
  | cons h _ ih => exact .cons (rs_from' x h) ih
theorem sim_cons {tr : TA} {t : TDA} (ha : Sim C ta a) (hr : SimA C tr t) : SimA C (tCons ta tr) (dCons a t) := fun M F H σ env n Q k s h hk => by
  refine look (ta := ta) ha s h fun x n1 v F1 H1 h1 x1 o1 => ?_
  refine hr M F1 H1 σ env n1 _ _ (s.ext x1) h1 fun rs n2 vs F2 H2 h2 x2 o2 => ?_
  exact hk _ n2 _ F2 H2 h2 (x1.trans x2) (.cons (rs_keep x2 o1) (rsAll_from x1 o2))
/-- what may be laid elsewhere -/
def Rs.ok : Rs → Bool
  | .sh _ => true
  | .own _ => true
  | _ => false
theorem rs_rep {M : Option Addr} {Hs F H : Hp} {v : V} {r : Rs} (h : RsOk C M Hs F H v r.fz) (ok : r.ok = true) : Rep C F v r.d := by
  cases r with
  | sh d => exact h
  | own o => exact h
  | loc o => cases ok
  | die => cases ok
theorem rsAll_rep {M : Option Addr} {Hs F H : Hp} {vs : List V} {rs : List Rs} (h : RsAll C M Hs F H vs rs) (ok : rs.all Rs.ok = true) : RepAll C F vs (rs.map Rs.d) := by
  induction h with
  | nil => exact .nil
  | cons h _ ih =>
    rw [List.all_cons, Bool.and_eq_true] at ok
    exact .cons (rs_rep h ok.1) (ih ok.2)
theorem rsAll_len {M : Option Addr} {Hs F H : Hp} {vs : List V} {rs : List Rs} (h : RsAll C M Hs F H vs rs) : vs.length = rs.length := by
  induction h with
  | nil => rfl
  | cons h _ ih => rw [List.length_cons, List.length_cons, ih]
def dTup (t : TDA) : TDE := fun env n k => t env n fun rs n1 => rs.all Rs.ok = true ∧ rs.length ≤ 1000000 ∧ k (.sh (.tup (rs.map Rs.d))) n1
def dLst (t : TDA) : TDE := fun env n k => t env n fun rs n1 => rs.all Rs.ok = true ∧ rs.length ≤ 1000000 ∧ k (.own (.lst (rs.map Rs.d))) n1
theorem e16 : sizeLine = 16777216 := by decide
theorem sim_tup {tr : TA} {t : TDA} (hr : SimA C tr t) : Sim C (tTup tr) (dTup t) := fun M F H σ env n Q k s h hk => by
  refine hr M F H σ env n _ _ s h fun rs n1 vs F1 H1 h1 x1 o1 => ?_
  obtain ⟨ok, hl, h1⟩ := h1
  have e := rsAll_len o1
  have e2 := e16
  refine ⟨by omega, fun p hp => ?_⟩
  have x2 := Ext.alloc x1.fh x1.die hp (.tup vs)
  exact hk _ n1 _ _ _ h1 (x1.trans x2) (.tup upd_same ((rsAll_rep o1 ok).mono x2.ff))
theorem sim_lst {tr : TA} {t : TDA} (hr : SimA C tr t) : Sim C (tLst tr) (dLst t) := fun M F H σ env n Q k s h hk => by
  refine hr M F H σ env n _ _ s h fun rs n1 vs F1 H1 h1 x1 o1 => ?_
  obtain ⟨ok, hl, h1⟩ := h1
  have e := rsAll_len o1
  have e2 := e16
  refine ⟨by omega, fun p hp => ?_⟩
  have x2 := Ext.allocOwn x1.fh x1.die hp (.lst vs)
  have hF : F1 p = none := by
    cases q : F1 p with
    | none => rfl
    | some u =>
      rw [x1.fh _ _ q] at hp
      cases hp
  exact hk _ n1 _ _ _ h1 (x1.trans x2) (rs_from' x1 (r := .own _) ⟨p, _, rfl, hp, hF, upd_same, rsAll_rep o1 ok⟩)
def dCB (f : List D → (Rs → Prop) → Prop) (t : TDA) : TDE := fun env n k => t env n fun rs n1 => rs.all (fun r => match r with | .die => false | _ => true) = true ∧ f (rs.map Rs.d) fun z => k z n1
theorem rsAll_view {M : Option Addr} {Hs F H : Hp} {n : Nat} (fh : Same F H) (d : DieOk M F H n) {vs : List V} {rs : List Rs} (h : RsAll C M Hs F H vs rs) (ok : rs.all (fun r => match r with | .die => false | _ => true) = true) : ViewAll C M F H vs (rs.map Rs.d) := by
  induction h with
  | nil => exact .nil
  | @cons v vs r rs h _ ih =>
    rw [List.all_cons, Bool.and_eq_true] at ok
    refine .cons (rs_view fh d h fun z => ?_) (ih ok.2)
    subst z
    exact absurd ok.1 Bool.false_ne_true
theorem sim_cb {r : List V → Hp → VK → Prop} {f : List D → (Rs → Prop) → Prop} {tr : TA} {t : TDA} (hr : CallS C r f) (ht : SimA C tr t) : Sim C (tCB r tr) (dCB f t) := fun M F H σ env n Q k s h hk => by
  refine ht M F H σ env n _ _ s h fun rs n1 vs F1 H1 h1 x1 o1 => ?_
  obtain ⟨ok, h1⟩ := h1
  refine hr M F1 H1 n1 vs _ Q _ x1.fh x1.die (rsAll_view x1.fh x1.die o1 ok) h1 fun z v F2 H2 h2 x2 o2 => ?_
  exact hk z n1 v F2 H2 h2 (x1.trans x2) (rs_from' x1 o2)
/-! ### what a def promises, in data -/
/-- an argument: data, or the dice -/
inductive Ar where
  | d (d : D) | die
def ArOk (C : Addr) (M : Option Addr) (F : Hp) (v : V) : Ar → Prop
  | .d d => Rep C F v d
  | .die => ∃ a, M = some a ∧ v = .ref a
inductive ArAll (C : Addr) (M : Option Addr) (F : Hp) : List V → List Ar → Prop
  | nil : ArAll C M F [] []
  | cons {v : V} {vs : List V} {d : Ar} {ds : List Ar} : ArOk C M F v d → ArAll C M F vs ds → ArAll C M F (v :: vs) (d :: ds)
theorem ArAll.len {M : Option Addr} {F : Hp} {vs : List V} {ds : List Ar} (r : ArAll C M F vs ds) : vs.length = ds.length := by
  induction r with
  | nil => rfl
  | cons _ _ ih => rw [List.length_cons, List.length_cons, ih]
abbrev DSp := List Ar → Nat → (Rs → Nat → Prop) → Prop
def Rs.ar : Rs → Option Ar
  | .sh d => some (.d d)
  | .own o => some (.d o.d)
  | .die => some .die
  | .loc _ => none
def spD (C : Addr) (m : Nat) (f : DSp) : Sp := fun vs H Q _ => ∃ (M : Option Addr) (F : Hp) (n : Nat) (as : List Ar) (k : Rs → Nat → Prop), as.length = m ∧ Same F H ∧ DieOk M F H n ∧ ArAll C M F vs as ∧ f as n k ∧ ∀ r n' v F' H', k r n' → Ext M F H F' H' n' → RsOk C M H F' H' v r → Q v H'
theorem spD_len {m : Nat} {f : DSp} {vs : List V} {H : Hp} {Q : VK} {E : XK} (h : spD C m f vs H Q E) : vs.length = m := by
  obtain ⟨_, _, _, as, _, hm, _, _, ha, _⟩ := h
  rw [ha.len, hm]
def arAll : List Rs → Option (List Ar)
  | [] => some []
  | r :: rs => match r.ar, arAll rs with
    | some a, some as => some (a :: as)
    | _, _ => none
theorem arAll_map : ∀ {rs : List Rs} {as : List Ar}, arAll rs = some as → rs.map Rs.ar = as.map some
  | [], as, h => by
    cases h
    rfl
  | r :: rs, as, h => by
    unfold arAll at h
    cases e1 : r.ar with
    | none => rw [e1] at h; cases h
    | some a =>
      cases e2 : arAll rs with
      | none => rw [e1, e2] at h; cases h
      | some bs =>
        rw [e1, e2] at h
        cases h
        rw [List.map_cons, List.map_cons, e1, arAll_map e2]
def dCall (m : Nat) (f : DSp) (t : TDA) : TDE := fun env n k => t env n fun rs n1 => ∃ as, arAll rs = some as ∧ as.length = m ∧ f as n1 k
theorem rsAll_ar {M : Option Addr} {Hs F H : Hp} {vs : List V} {rs : List Rs} (h : RsAll C M Hs F H vs rs) : ∀ {as : List Ar}, rs.map Rs.ar = as.map some → ArAll C M F vs as := by
  induction h with
  | nil =>
    intro as e
    cases as with
    | nil => exact .nil
    | cons _ _ => cases e
  | @cons v vs r rs h _ ih =>
    intro as e
    cases as with
    | nil => cases e
    | cons a as =>
      rw [List.map_cons, List.map_cons, List.cons.injEq] at e
      refine .cons ?_ (ih e.2)
      have e1 := e.1
      cases r with
      | sh d => cases e1; exact h
      | own o => cases e1; exact h
      | die => cases e1; exact h
      | loc o => cases e1
theorem sim_call {m : Nat} {f : DSp} {sp : Sp} {tr : TA} {t : TDA} (hsp : sp = spD C m f) (ht : SimA C tr t) : Sim C (tCall sp [] E0 tr) (dCall m f t) := fun M F H σ env n Q k s h hk => by
  subst hsp
  refine ht M F H σ env n _ _ s h fun rs n1 vs F1 H1 h1 x1 o1 => ?_
  obtain ⟨as, e, hm, h1⟩ := h1
  rw [List.append_nil]
  exact ⟨M, F1, n1, as, k, hm, x1.fh, x1.die, rsAll_ar o1 (arAll_map e), h1, fun r n' v F' H' h2 x2 o2 => hk r n' v F' H' h2 (x1.trans x2) (rs_from' x1 o2)⟩
end
end K4
set_option Elab.async false
set_option linter.all false
set_option maxRecDepth 100000
set_option maxHeartbeats 4000000
namespace K4
open PySem PySem.Spec PyProof.Rows L2 K4M
/-! ### operators of data -/
/-- == of scalars -/
def D.sc : D → Bool
  | .non => true
  | .bl _ => true
  | .int _ => true
  | .str _ => true
  | _ => false
def D.v : D → V
  | .non => .non
  | .bl b => .bl b
  | .int i => .int i
  | .str w => .str (S w)
  | _ => .non
def D.eqs : D → D → Bool
  | .non, .non => true
  | .bl a, .bl b => a == b
  | .int a, .int b => a == b
  | .str a, .str b => a == b
  | _, _ => false
/-- x in xs, of scalars -/
def inD (a : D) (ds : List D) : Bool := ds.any fun d => eqV d.v a.v
section
variable {C : Addr} {K : PySem.W.Frag}
/-- a scalar end -/
theorem fin {M : Option Addr} {F H : Hp} {n : Nat} {Q : VK} {k : Rs → Prop} (fh : Same F H) (d : DieOk M F H n) (hk : ∀ z v F' H', k z → Ext M F H F' H' n → RsOk C M H F' H' v z → Q v H') {v : V} {z : D} (h : k (.sh z)) (r : Rep C F v z) : Q v H := hk _ v F H h (Ext.refl fh d) r
/-- a new list -/
theorem finL {M : Option Addr} {F H : Hp} {n : Nat} {Q : VK} {k : Rs → Prop} (fh : Same F H) (d : DieOk M F H n) (hk : ∀ z v F' H', k z → Ext M F H F' H' n → RsOk C M H F' H' v z → Q v H') {vs : List V} {ds : List D} (h : k (.own (.lst ds))) (r : RepAll C F vs ds) : ∀ p, H p = none → Q (.ref p) (upd H p (.lst vs)) := fun p hp => by
  refine hk _ _ F _ h (Ext.allocOwn fh d hp _) ⟨p, _, rfl, hp, ?_, upd_same, r⟩
  cases q : F p with
  | none => rfl
  | some u =>
    rw [fh _ _ q] at hp
    cases hp
def fI (g : Int → Int → D) : D → D → (Rs → Prop) → Prop := fun a b k => ∃ i j, a = .int i ∧ b = .int j ∧ k (.sh (g i j))
def fIc (c : Int → Int → Prop) (g : Int → Int → D) : D → D → (Rs → Prop) → Prop := fun a b k => ∃ i j, a = .int i ∧ b = .int j ∧ c i j ∧ k (.sh (g i j))
theorem s_rI0 {g : Int → Int → Int} : OpS C (rI0 fun i j => .int (g i j)) (fI fun i j => .int (g i j)) := fun M F H n x y a b Q k fh d vx vy h hk => by
  obtain ⟨i, j, rfl, rfl, h⟩ := h
  rw [view_int vx, view_int vy]
  exact ⟨i, j, rfl, rfl, fin fh d hk h (.int _)⟩
theorem s_rI {c : Int → Int → Prop} {g : Int → Int → Int} : OpS C (rI c fun i j => .int (g i j)) (fIc c fun i j => .int (g i j)) := fun M F H n x y a b Q k fh d vx vy h hk => by
  obtain ⟨i, j, rfl, rfl, hc, h⟩ := h
  rw [view_int vx, view_int vy]
  exact ⟨i, j, rfl, rfl, hc, fin fh d hk h (.int _)⟩
theorem s_cI {g : Int → Int → Bool} : OpS C (rI0 fun i j => .bl (g i j)) (fI fun i j => .bl (g i j)) := fun M F H n x y a b Q k fh d vx vy h hk => by
  obtain ⟨i, j, rfl, rfl, h⟩ := h
  rw [view_int vx, view_int vy]
  exact ⟨i, j, rfl, rfl, fin fh d hk h (.bl _)⟩
theorem view_sc {M : Option Addr} {F H : Hp} {v : V} : ∀ {a : D}, a.sc = true → View C M F H v a → v = a.v
  | .non, _, h => by cases h; rfl
  | .bl _, _, h => by cases h; rfl
  | .int _, _, h => by cases h; rfl
  | .str _, _, h => by cases h; rfl
  | .lst _, e, _ => nomatch e
  | .tup _, e, _ => nomatch e
  | .dic _, e, _ => nomatch e
  | .gnd _ _, e, _ => nomatch e
theorem rep_sc {F : Hp} {v : V} : ∀ {a : D}, a.sc = true → Rep C F v a → v = a.v
  | .non, _, h => by cases h; rfl
  | .bl _, _, h => by cases h; rfl
  | .int _, _, h => by cases h; rfl
  | .str _, _, h => by cases h; rfl
  | .lst _, e, _ => nomatch e
  | .tup _, e, _ => nomatch e
  | .dic _, e, _ => nomatch e
  | .gnd _ _, e, _ => nomatch e
theorem eqs_dec : ∀ {a b : D}, a.sc = true → b.sc = true → decide (a.v = b.v) = a.eqs b := by
  intro a b ha hb
  cases a <;> first | exact absurd ha Bool.false_ne_true | (cases b <;> first | exact absurd hb Bool.false_ne_true | rfl | exact V_dec _ _ | exact dec_int | exact dec_bl)
def fEq : D → D → (Rs → Prop) → Prop := fun a b k => a.sc = true ∧ b.sc = true ∧ scal a.v b.v = true ∧ k (.sh (.bl (a.eqs b)))
def fNe : D → D → (Rs → Prop) → Prop := fun a b k => a.sc = true ∧ b.sc = true ∧ scal a.v b.v = true ∧ k (.sh (.bl (!a.eqs b)))
theorem s_eq : OpS C rEq fEq := fun M F H n x y a b Q k fh d vx vy h hk => by
  obtain ⟨ha, hb, hs, h⟩ := h
  rw [view_sc ha vx, view_sc hb vy]
  refine ⟨hs, ?_⟩
  rw [eqs_dec ha hb]
  exact fin fh d hk h (.bl _)
theorem s_ne : OpS C rNe fNe := fun M F H n x y a b Q k fh d vx vy h hk => by
  obtain ⟨ha, hb, hs, h⟩ := h
  rw [view_sc ha vx, view_sc hb vy]
  refine ⟨hs, ?_⟩
  rw [eqs_dec ha hb]
  exact fin fh d hk h (.bl _)
theorem view_lst {M : Option Addr} {F H : Hp} {v : V} {ds : List D} (h : View C M F H v (.lst ds)) : ∃ p vs, v = .ref p ∧ M ≠ some p ∧ H p = some (.lst vs) ∧ RepAll C F vs ds := h
theorem all_flat {F : Hp} {vs : List V} {ds : List D} (r : RepAll C F vs ds) (h : ds.all D.sc = true) : vs = ds.map D.v ∧ vs.all flatV = true := by
  induction vs generalizing ds with
  | nil => cases r; exact ⟨rfl, rfl⟩
  | cons v vs ih =>
    cases r with
    | @cons _ _ d ds r rs =>
      rw [List.all_cons, Bool.and_eq_true] at h
      obtain ⟨e, f⟩ := ih rs h.2
      have ev := rep_sc h.1 r
      refine ⟨by rw [List.map_cons, ← e, ev], ?_⟩
      rw [List.all_cons, f, Bool.and_true, ev]
      have h1 := h.1
      cases d <;> first | rfl | exact absurd h1 Bool.false_ne_true
theorem sc_flat {a : D} (h : a.sc = true) : flatV a.v = true := by
  cases a <;> first | rfl | exact absurd h Bool.false_ne_true
def fIn (neg : Bool) : D → D → (Rs → Prop) → Prop := fun a b k => ∃ ds, (b = .lst ds ∨ b = .tup ds) ∧ a.sc = true ∧ ds.all D.sc = true ∧ k (.sh (.bl (if neg then !inD a ds else inD a ds)))
theorem s_in {neg : Bool} : OpS C (rIn K neg) (fIn neg) := fun M F H n x y a b Q k fh d vx vy h hk => by
  obtain ⟨ds, hb, ha, hs, h⟩ := h
  rw [view_sc ha vx]
  have key : ∀ vs, RepAll C F vs ds → inV a.v vs = inD a ds ∧ vs.all flatV = true := fun vs r => by
    obtain ⟨e, f⟩ := all_flat r hs
    refine ⟨?_, f⟩
    rw [e]
    unfold inV inD
    rw [List.any_map]
    rfl
  rcases hb with rfl | rfl
  · obtain ⟨p, vs, rfl, _, e, r⟩ := view_lst vy
    obtain ⟨k1, k2⟩ := key vs r
    refine ⟨p, vs, rfl, .inl (.inl (.inl e)), sc_flat ha, k2, ?_⟩
    rw [k1]
    exact fin fh d hk h (.bl _)
  · obtain ⟨p, vs, rfl, e, _, r⟩ := view_tup fh vy
    obtain ⟨k1, k2⟩ := key vs r
    refine ⟨p, vs, rfl, .inr (.inl (.inl e)), sc_flat ha, k2, ?_⟩
    rw [k1]
    exact fin fh d hk h (.bl _)
def fAddS : D → D → (Rs → Prop) → Prop := fun a b k => ∃ u w, a = .str u ∧ b = .str w ∧ u.length + w.length ≤ 1000000 ∧ k (.sh (.str (u ++ w)))
theorem s_addS : OpS C (fun x y H Q => ∃ i j, x = .str i ∧ y = .str j ∧ i.length + j.length ≤ sizeLine ∧ Q (.str (i ++ j)) H) fAddS := fun M F H n x y a b Q k fh d vx vy h hk => by
  obtain ⟨u, w, rfl, rfl, hl, h⟩ := h
  rw [view_str vx, view_str vy]
  refine ⟨S u, S w, rfl, rfl, ?_, ?_⟩
  · rw [S_len, S_len, e16]
    omega
  · rw [S_app]
    exact fin fh d hk h (.str _)
def fMulS : D → D → (Rs → Prop) → Prop := fun a b k => ∃ (u : List Nat) (m : Nat), a = .str u ∧ b = .int (m : Int) ∧ u.length * m ≤ 100000 ∧ m ≤ 100000 ∧ u.length ≤ 100000 ∧ k (.sh (.str (rep u m)))
theorem s_mulS : OpS C (fun x y H Q => ∃ (u : List Nat) (k : Nat), x = .str (S u) ∧ y = .int (k : Int) ∧ u.length * k ≤ 100000 ∧ k ≤ 100000 ∧ u.length ≤ 100000 ∧ Q (.str (S (rep u k))) H) fMulS := fun M F H n x y a b Q k fh d vx vy h hk => by
  obtain ⟨u, m, rfl, rfl, h1, h2, h3, h⟩ := h
  rw [view_str vx, view_int vy]
  exact ⟨u, m, rfl, rfl, h1, h2, h3, fin fh d hk h (.str _)⟩
def fCat : D → D → (Rs → Prop) → Prop := fun a b k => ∃ us ws, a = .lst us ∧ b = .lst ws ∧ us.length + ws.length ≤ 1000000 ∧ k (.own (.lst (us ++ ws)))
theorem s_cat : OpS C rCat fCat := fun M F H n x y a b Q k fh d vx vy h hk => by
  obtain ⟨us, ws, rfl, rfl, hl, h⟩ := h
  obtain ⟨p, vs, rfl, _, e1, r1⟩ := view_lst vx
  obtain ⟨p2, vs2, rfl, _, e2, r2⟩ := view_lst vy
  refine ⟨p, p2, vs, vs2, rfl, rfl, e1, e2, ?_, finL fh d hk h (r1.app r2)⟩
  rw [r1.len, r2.len, e16]
  omega
def fRep : D → D → (Rs → Prop) → Prop := fun a b k => ∃ (us : List D) (m : Nat), a = .lst us ∧ b = .int (m : Int) ∧ m ≤ 1000000 ∧ us.length * m ≤ 1000000 ∧ k (.own (.lst (List.replicate m us).flatten))
theorem rep_flat {F : Hp} {vs : List V} {us : List D} (r : RepAll C F vs us) : ∀ m, RepAll C F (List.replicate m vs).flatten (List.replicate m us).flatten
  | 0 => .nil
  | m + 1 => by
    rw [List.replicate_succ, List.replicate_succ, List.flatten_cons, List.flatten_cons]
    exact r.app (rep_flat r m)
theorem s_rep : OpS C rRep fRep := fun M F H n x y a b Q k fh d vx vy h hk => by
  obtain ⟨us, m, rfl, rfl, h1, h2, h⟩ := h
  obtain ⟨p, vs, rfl, _, e1, r1⟩ := view_lst vx
  rw [view_int vy]
  refine ⟨p, (m : Int), vs, rfl, rfl, e1, by omega, by omega, ?_, ?_⟩
  · rw [r1.len, e16, Int.toNat_natCast]
    omega
  · rw [Int.toNat_natCast]
    exact finL fh d hk h (rep_flat r1 m)
/-- whether it is none -/
def D.isN : D → Bool
  | .non => true
  | _ => false
theorem view_isN {M : Option Addr} {F H : Hp} {v : V} {a : D} (h : View C M F H v a) : decide (v = .non) = a.isN := by
  cases a with
  | non => cases h; rfl
  | bl b => cases h; rfl
  | int b => cases h; rfl
  | str b => cases h; rfl
  | lst ds => obtain ⟨p, vs, rfl, _⟩ := h; rfl
  | dic ds => obtain ⟨p, vs, rfl, _⟩ := h; rfl
  | tup ds => cases h; rfl
  | gnd u g => cases h; rfl
def fIsN : D → D → (Rs → Prop) → Prop := fun a b k => b = .non ∧ k (.sh (.bl a.isN))
def fNotN : D → D → (Rs → Prop) → Prop := fun a b k => b = .non ∧ k (.sh (.bl (!a.isN)))
theorem s_isN : OpS C (fun x y H Q => y = .non ∧ Q (.bl (decide (x = .non))) H) fIsN := fun M F H n x y a b Q k fh d vx vy h hk => by
  obtain ⟨rfl, h⟩ := h
  refine ⟨view_non vy, ?_⟩
  rw [view_isN vx]
  exact fin fh d hk h (.bl _)
theorem s_notN : OpS C (fun x y H Q => y = .non ∧ Q (.bl (!decide (x = .non))) H) fNotN := fun M F H n x y a b Q k fh d vx vy h hk => by
  obtain ⟨rfl, h⟩ := h
  refine ⟨view_non vy, ?_⟩
  rw [view_isN vx]
  exact fin fh d hk h (.bl _)
/-! ### deep == -/
mutual
def D.py : D → PyData
  | .non => .none
  | .bl b => .bool b
  | .int i => .int i
  | .str w => .str (S w)
  | .lst ds => .list (pyL ds)
  | .tup ds => .tuple (pyL ds)
  | .dic _ => .none
  | .gnd _ _ => .none
def pyL : List D → List PyData
  | [] => []
  | d :: r => d.py :: pyL r
end
mutual
def D.deep : D → Bool
  | .dic _ => false
  | .gnd _ _ => false
  | .lst ds => deepL ds
  | .tup ds => deepL ds
  | _ => true
def deepL : List D → Bool
  | [] => true
  | d :: r => d.deep && deepL r
end
mutual
theorem rep_dp {F H : Hp} (s : Same F H) : ∀ {v : V} {d : D}, d.deep = true → Rep C F v d → Dp K H v d.py
  | _, _, _, .non => .non
  | _, _, _, .bl b => .bl b
  | _, _, _, .int i => .int i
  | _, _, _, .str w => .str _
  | _, _, h, .lst e r => .lst (.inl (.inl (s _ _ e))) (repAll_dp s h r)
  | _, _, h, .tup e r => .tup (.inl (.inl (s _ _ e))) (repAll_dp s h r)
  | _, _, h, .dic _ _ => absurd h Bool.false_ne_true
  | _, _, h, .gnd _ => absurd h Bool.false_ne_true
theorem repAll_dp {F H : Hp} (s : Same F H) : ∀ {vs : List V} {ds : List D}, deepL ds = true → RepAll C F vs ds → DpAll K H vs (pyL ds)
  | _, _, _, .nil => .nil
  | _, _, h, .cons r rs => by
    unfold deepL at h
    rw [Bool.and_eq_true] at h
    exact .cons (rep_dp s h.1 r) (repAll_dp s h.2 rs)
end
theorem view_dp {M : Option Addr} {F H : Hp} (s : Same F H) {v : V} {a : D} (hd : a.deep = true) (h : View C M F H v a) : Dp K H v a.py := by
  cases a with
  | lst ds =>
    obtain ⟨p, vs, rfl, _, e, r⟩ := h
    exact .lst (.inl (.inl e)) (repAll_dp s hd r)
  | dic ds => exact absurd hd Bool.false_ne_true
  | _ => exact rep_dp s hd h
def fEqD (neg : Bool) : D → D → (Rs → Prop) → Prop := fun a b k => a.deep = true ∧ b.deep = true ∧ SeqAt.shaped a.py = true ∧ SeqAt.shaped b.py = true ∧ k (.sh (.bl (if neg then !PyData.eqv a.py b.py else PyData.eqv a.py b.py)))
theorem s_eqD : OpS C (rEqD K) (fEqD false) := fun M F H n x y a b Q k fh d vx vy h hk => by
  obtain ⟨ha, hb, h1, h2, h⟩ := h
  exact ⟨a.py, b.py, view_dp fh ha vx, view_dp fh hb vy, h1, h2, fin fh d hk h (.bl _)⟩
theorem s_neD : OpS C (rNeD K) (fEqD true) := fun M F H n x y a b Q k fh d vx vy h hk => by
  obtain ⟨ha, hb, h1, h2, h⟩ := h
  exact ⟨a.py, b.py, view_dp fh ha vx, view_dp fh hb vy, h1, h2, fin fh d hk h (.bl _)⟩
/-! ### places -/
def fIx : D → D → (Rs → Prop) → Prop := fun a b k => ∃ (ds : List D) (i : Int) (z : D), a = .lst ds ∧ b = .int i ∧ atI ds i = some z ∧ k (.sh z)
def fIxT : D → D → (Rs → Prop) → Prop := fun a b k => ∃ (ds : List D) (i : Int) (z : D), a = .tup ds ∧ b = .int i ∧ atI ds i = some z ∧ k (.sh z)
def fIxS : D → D → (Rs → Prop) → Prop := fun a b k => ∃ (w : List Nat) (i : Int) (c : Nat), a = .str w ∧ b = .int i ∧ w.length ≤ 1000000 ∧ atI w i = some c ∧ k (.sh (.str [c]))
theorem rep_atI {F : Hp} {vs : List V} {ds : List D} (r : RepAll C F vs ds) {i : Int} {z : D} (h : atI ds i = some z) : ∃ v, atI vs i = some v ∧ Rep C F v z := by
  unfold atI at h ⊢
  rw [r.len]
  cases e : ixN ds.length i with
  | none => rw [e] at h; cases h
  | some j =>
    rw [e] at h
    exact r.at' h
theorem s_ix : OpS C (rIxL K) fIx := fun M F H n x y a b Q k fh d vx vy h hk => by
  obtain ⟨ds, i, z, rfl, rfl, hz, h⟩ := h
  obtain ⟨p, vs, rfl, _, e, r⟩ := view_lst vx
  rw [view_int vy]
  obtain ⟨v, hv, rv⟩ := rep_atI r hz
  exact ⟨p, vs, i, v, rfl, rfl, .inl (.inl e), hv, fin fh d hk h rv⟩
theorem s_ixT : OpS C (rIxT K) fIxT := fun M F H n x y a b Q k fh d vx vy h hk => by
  obtain ⟨ds, i, z, rfl, rfl, hz, h⟩ := h
  obtain ⟨p, vs, rfl, e, _, r⟩ := view_tup fh vx
  rw [view_int vy]
  obtain ⟨v, hv, rv⟩ := rep_atI r hz
  exact ⟨p, vs, i, v, rfl, rfl, .inl (.inl e), hv, fin fh d hk h rv⟩
theorem s_ixS : OpS C rIxS fIxS := fun M F H n x y a b Q k fh d vx vy h hk => by
  obtain ⟨w, i, c, rfl, rfl, hl, hz, h⟩ := h
  rw [view_str vx, view_int vy]
  refine ⟨S w, i, c, rfl, rfl, by rw [S_len, e16]; omega, ?_, fin fh d hk h (.str [c])⟩
  show atI w.toArray.toList i = some c
  exact hz
/-! ### slices -/
abbrev TDO := List Ent → Nat → (Option Int → Nat → Prop) → Prop
def SimO (C : Addr) (to : TO) (t : TDO) : Prop := ∀ (M : Option Addr) (F H : Hp) (σ : L2.St) (env : List Ent) (n : Nat) (Q : Option Int → Hp → Prop) (k : Option Int → Nat → Prop), StE C M F H σ env n → t env n k → (∀ o n' F' H', k o n' → Ext M F H F' H' n' → Q o H') → to σ H Q
def dNoPart : TDO := fun _ n k => k none n
def dPart (a : TDE) : TDO := fun env n k => a env n fun x n1 => ∃ i, x = .sh (.int i) ∧ k (some i) n1
theorem sim_noPart : SimO C tNoPart dNoPart := fun M F H σ env n Q k s h hk => hk none n F H h (Ext.refl s.fh s.die)
theorem sim_part {te : TE} {a : TDE} (ha : Sim C te a) : SimO C (tPart te) (dPart a) := fun M F H σ env n Q k s h hk => by
  refine look (ta := te) ha s h fun x n1 v F1 H1 h1 x1 o1 => ?_
  obtain ⟨i, rfl, h1⟩ := h1
  cases o1
  exact ⟨i, rfl, hk _ n1 F1 H1 h1 x1⟩
def SlS (C : Addr) (r : V → Option Int → Option Int → Hp → VK → Prop) (f : D → Option Int → Option Int → (Rs → Prop) → Prop) : Prop := ∀ (M : Option Addr) (F H : Hp) (n : Nat) (x : V) (a : D) (lo hi : Option Int) (Q : VK) (k : Rs → Prop), Same F H → DieOk M F H n → View C M F H x a → f a lo hi k → (∀ z v F' H', k z → Ext M F H F' H' n → RsOk C M H F' H' v z → Q v H') → r x lo hi H Q
def dSl (f : D → Option Int → Option Int → (Rs → Prop) → Prop) (a : TDE) (l u : TDO) : TDE := fun env n k => a env n fun x n1 => x ≠ .die ∧ l env n1 fun lo n2 => u env n2 fun hi n3 => f x.d lo hi fun z => k z n3
theorem sim_sl {r : V → Option Int → Option Int → Hp → VK → Prop} {f : D → Option Int → Option Int → (Rs → Prop) → Prop} {te : TE} {tl th : TO} {a : TDE} {l u : TDO} (hr : SlS C r f) (ha : Sim C te a) (hl : SimO C tl l) (hu : SimO C th u) : Sim C (tSl r te tl th) (dSl f a l u) := fun M F H σ env n Q k s h hk => by
  refine look (ta := te) ha s h fun x n1 v F1 H1 h1 x1 o1 => ?_
  obtain ⟨hx, h1⟩ := h1
  refine hl M F1 H1 σ env n1 _ _ (s.ext x1) h1 fun lo n2 F2 H2 h2 x2 => ?_
  refine hu M F2 H2 σ env n2 _ _ ((s.ext x1).ext x2) h2 fun hi n3 F3 H3 h3 x3 => ?_
  have vx := rs_view x3.fh x3.die (rs_keep x3 (rs_keep x2 o1)) hx
  refine hr M F3 H3 n3 v _ lo hi Q _ x3.fh x3.die vx h3 fun z w F4 H4 h4 x4 o4 => ?_
  exact hk z n3 w F4 H4 h4 (x1.trans (x2.trans (x3.trans x4))) (rs_from' (x1.trans (x2.trans x3)) o4)
def cutD (ds : List D) (lo hi : Option Int) : List D := (ds.drop (HT.sIx ds.length 0 lo)).take (HT.sIx ds.length ds.length hi - HT.sIx ds.length 0 lo)
theorem rep_cut {F : Hp} {vs : List V} {ds : List D} (r : RepAll C F vs ds) (lo hi : Option Int) : RepAll C F (cutV vs lo hi) (cutD ds lo hi) := by
  unfold cutV cutD
  rw [r.len]
  exact (r.drop _).take _
def fSlL : D → Option Int → Option Int → (Rs → Prop) → Prop := fun a lo hi k => ∃ ds, a = .lst ds ∧ k (.own (.lst (cutD ds lo hi)))
theorem s_slL : SlS C (rSlL K) fSlL := fun M F H n x a lo hi Q k fh d vx h hk => by
  obtain ⟨ds, rfl, h⟩ := h
  obtain ⟨p, vs, rfl, _, e, r⟩ := view_lst vx
  exact ⟨p, vs, rfl, .inl (.inl e), finL fh d hk h (rep_cut r lo hi)⟩
def cutN (w : List Nat) (lo hi : Option Int) : List Nat := (w.drop (HT.sIx w.length 0 lo)).take (HT.sIx w.length w.length hi - HT.sIx w.length 0 lo)
theorem cutS_N (w : List Nat) (lo hi : Option Int) : cutS (S w) lo hi = S (cutN w lo hi) := by
  unfold cutS cutN
  rw [S_len]
  rfl
def fSlS : D → Option Int → Option Int → (Rs → Prop) → Prop := fun a lo hi k => ∃ w, a = .str w ∧ w.length ≤ 1000000 ∧ k (.sh (.str (cutN w lo hi)))
theorem s_slS : SlS C rSlS fSlS := fun M F H n x a lo hi Q k fh d vx h hk => by
  obtain ⟨w, rfl, hl, h⟩ := h
  rw [view_str vx]
  refine ⟨S w, rfl, by rw [S_len, e16]; omega, ?_⟩
  rw [cutS_N]
  exact fin fh d hk h (.str _)
/-! ### built-in functions -/
theorem va1 {M : Option Addr} {F H : Hp} {xs : List V} {a : D} (h : ViewAll C M F H xs [a]) : ∃ x, xs = [x] ∧ View C M F H x a := by
  cases h with
  | cons h r => cases r; exact ⟨_, rfl, h⟩
theorem va2 {M : Option Addr} {F H : Hp} {xs : List V} {a b : D} (h : ViewAll C M F H xs [a, b]) : ∃ x y, xs = [x, y] ∧ View C M F H x a ∧ View C M F H y b := by
  cases h with
  | cons h r =>
    cases r with
    | cons h2 r => cases r; exact ⟨_, _, rfl, h, h2⟩
def fLenS : List D → (Rs → Prop) → Prop := fun as k => ∃ w : List Nat, as = [.str w] ∧ w.length ≤ 1000000 ∧ k (.sh (.int (w.length : Int)))
theorem c_lenS : CallS C (fun xs H Q => ∃ z, xs = [.str z] ∧ z.length ≤ sizeLine ∧ Q (.int z.length) H) fLenS := fun M F H n xs as Q k fh d vs h hk => by
  obtain ⟨w, rfl, hl, h⟩ := h
  obtain ⟨x, rfl, vx⟩ := va1 vs
  rw [view_str vx]
  refine ⟨S w, rfl, by rw [S_len, e16]; omega, ?_⟩
  rw [S_len]
  exact fin fh d hk h (.int _)
def fLen : List D → (Rs → Prop) → Prop := fun as k => ∃ ds : List D, (as = [.lst ds] ∨ as = [.tup ds]) ∧ k (.sh (.int (ds.length : Int)))
theorem view_seq {M : Option Addr} {F H : Hp} (fh : Same F H) {x : V} {ds : List D} {as : List D} {xs : List V} (vs : ViewAll C M F H xs as) (h : as = [.lst ds] ∨ as = [.tup ds]) : ∃ p ys, xs = [.ref p] ∧ (SqL K H p ys ∨ SqT K H p ys) ∧ RepAll C F ys ds := by
  rcases h with rfl | rfl
  · obtain ⟨x, rfl, vx⟩ := va1 vs
    obtain ⟨p, ys, rfl, _, e, r⟩ := view_lst vx
    exact ⟨p, ys, rfl, .inl (.inl (.inl e)), r⟩
  · obtain ⟨x, rfl, vx⟩ := va1 vs
    obtain ⟨p, ys, rfl, e, _, r⟩ := view_tup fh vx
    exact ⟨p, ys, rfl, .inr (.inl (.inl e)), r⟩
theorem c_len : CallS C (fun xs H Q => ∃ p ys, xs = [.ref p] ∧ (SqL K H p ys ∨ SqT K H p ys) ∧ Q (.int ys.length) H) fLen := fun M F H n xs as Q k fh d vs h hk => by
  obtain ⟨ds, ha, h⟩ := h
  obtain ⟨p, ys, rfl, sq, r⟩ := view_seq (x := .non) fh vs ha
  refine ⟨p, ys, rfl, sq, ?_⟩
  rw [r.len]
  exact fin fh d hk h (.int _)
def fList : List D → (Rs → Prop) → Prop := fun as k => ∃ ds : List D, (as = [.lst ds] ∨ as = [.tup ds]) ∧ k (.own (.lst ds))
theorem c_list : CallS C (fun xs H Q => ∃ p ys, xs = [.ref p] ∧ (SqL K H p ys ∨ SqT K H p ys) ∧ ∀ l, H l = none → Q (.ref l) (upd H l (.lst ys))) fList := fun M F H n xs as Q k fh d vs h hk => by
  obtain ⟨ds, ha, h⟩ := h
  obtain ⟨p, ys, rfl, sq, r⟩ := view_seq (x := .non) fh vs ha
  exact ⟨p, ys, rfl, sq, finL fh d hk h r⟩
def signsD (w : List Nat) : List D := w.map fun c => D.str [c]
def fListS : List D → (Rs → Prop) → Prop := fun as k => ∃ w : List Nat, as = [.str w] ∧ w.length ≤ 1000 ∧ k (.own (.lst (signsD w)))
theorem rep_signs {F : Hp} (w : List Nat) : RepAll C F (signsV w) (signsD w) := by
  induction w with
  | nil => exact .nil
  | cons c r ih => exact .cons (.str [c]) ih
theorem c_listS : CallS C (fun xs H Q => ∃ w : List Nat, xs = [.str (S w)] ∧ w.length ≤ 1000 ∧ ∀ l, H l = none → Q (.ref l) (upd H l (.lst (signsV w)))) fListS := fun M F H n xs as Q k fh d vs h hk => by
  obtain ⟨w, rfl, hl, h⟩ := h
  obtain ⟨x, rfl, vx⟩ := va1 vs
  rw [view_str vx]
  exact ⟨w, rfl, hl, finL fh d hk h (rep_signs w)⟩
def fAll (g : List Bool → Bool) : List D → (Rs → Prop) → Prop := fun as k => ∃ bs : List Bool, as = [.lst (bs.map D.bl)] ∧ k (.sh (.bl (g bs)))
theorem c_all : CallS C (rAll K) (fAll fun bs => bs.all id) := fun M F H n xs as Q k fh d vs h hk => by
  obtain ⟨bs, rfl, h⟩ := h
  obtain ⟨x, rfl, vx⟩ := va1 vs
  obtain ⟨p, ys, rfl, _, e, r⟩ := view_lst vx
  rw [r.bls] at e
  exact ⟨p, bs, rfl, .inl (.inl e), fin fh d hk h (.bl _)⟩
theorem c_any : CallS C (rAny K) (fAll fun bs => bs.any id) := fun M F H n xs as Q k fh d vs h hk => by
  obtain ⟨bs, rfl, h⟩ := h
  obtain ⟨x, rfl, vx⟩ := va1 vs
  obtain ⟨p, ys, rfl, _, e, r⟩ := view_lst vx
  rw [r.bls] at e
  exact ⟨p, bs, rfl, .inl (.inl e), fin fh d hk h (.bl _)⟩
def fSum : List D → (Rs → Prop) → Prop := fun as k => ∃ ns : List Int, as = [.lst (ns.map D.int)] ∧ k (.sh (.int ns.sum))
theorem c_sum : CallS C (rSum K) fSum := fun M F H n xs as Q k fh d vs h hk => by
  obtain ⟨ns, rfl, h⟩ := h
  obtain ⟨x, rfl, vx⟩ := va1 vs
  obtain ⟨p, ys, rfl, _, e, r⟩ := view_lst vx
  rw [r.ints] at e
  exact ⟨p, ns, rfl, .inl (.inl e), fin fh d hk h (.int _)⟩
def fMaxL : List D → (Rs → Prop) → Prop := fun as k => ∃ ns : List Int, as = [.lst (ns.map D.int)] ∧ 0 < ns.length ∧ ∀ m, m ∈ ns → (∀ y, y ∈ ns → y ≤ m) → k (.sh (.int m))
def fMinL : List D → (Rs → Prop) → Prop := fun as k => ∃ ns : List Int, as = [.lst (ns.map D.int)] ∧ 0 < ns.length ∧ ∀ m, m ∈ ns → (∀ y, y ∈ ns → m ≤ y) → k (.sh (.int m))
theorem c_maxL : CallS C (rMax K) fMaxL := fun M F H n xs as Q k fh d vs h hk => by
  obtain ⟨ns, rfl, h0, h⟩ := h
  obtain ⟨x, rfl, vx⟩ := va1 vs
  obtain ⟨p, ys, rfl, _, e, r⟩ := view_lst vx
  rw [r.ints] at e
  exact ⟨p, ns, rfl, .inl (.inl e), h0, fun m h1 h2 => fin fh d hk (h m h1 h2) (.int _)⟩
theorem c_minL : CallS C (rMin K) fMinL := fun M F H n xs as Q k fh d vs h hk => by
  obtain ⟨ns, rfl, h0, h⟩ := h
  obtain ⟨x, rfl, vx⟩ := va1 vs
  obtain ⟨p, ys, rfl, _, e, r⟩ := view_lst vx
  rw [r.ints] at e
  exact ⟨p, ns, rfl, .inl (.inl e), h0, fun m h1 h2 => fin fh d hk (h m h1 h2) (.int _)⟩
def f2I (g : Int → Int → Int) : List D → (Rs → Prop) → Prop := fun as k => ∃ i j : Int, as = [.int i, .int j] ∧ k (.sh (.int (g i j)))
theorem c_2I {g : Int → Int → Int} : CallS C (fun xs H Q => ∃ i j, xs = [.int i, .int j] ∧ Q (.int (g i j)) H) (f2I g) := fun M F H n xs as Q k fh d vs h hk => by
  obtain ⟨i, j, rfl, h⟩ := h
  obtain ⟨x, y, rfl, vx, vy⟩ := va2 vs
  rw [view_int vx, view_int vy]
  exact ⟨i, j, rfl, fin fh d hk h (.int _)⟩
def f1I (g : Int → Int) : List D → (Rs → Prop) → Prop := fun as k => ∃ i : Int, as = [.int i] ∧ k (.sh (.int (g i)))
theorem c_1I {g : Int → Int} : CallS C (fun xs H Q => ∃ i, xs = [.int i] ∧ Q (.int (g i)) H) (f1I g) := fun M F H n xs as Q k fh d vs h hk => by
  obtain ⟨i, rfl, h⟩ := h
  obtain ⟨x, rfl, vx⟩ := va1 vs
  rw [view_int vx]
  exact ⟨i, rfl, fin fh d hk h (.int _)⟩
theorem c_int : CallS C (fun xs H Q => (∃ i, xs = [.int i] ∧ Q (.int i) H) ∨ ∃ k, xs = [.bl k] ∧ Q (.int (if k then 1 else 0)) H) (f1I fun i => i) := fun M F H n xs as Q k fh d vs h hk => by
  obtain ⟨i, rfl, h⟩ := h
  obtain ⟨x, rfl, vx⟩ := va1 vs
  rw [view_int vx]
  exact .inl ⟨i, rfl, fin fh d hk h (.int _)⟩
/-! ### isinstance -/
def D.tyn : D → Option String
  | .non => some "NoneType"
  | .bl _ => some "bool"
  | .int _ => some "int"
  | .str _ => some "str"
  | .lst _ => some "list"
  | .tup _ => some "tuple"
  | .dic _ => some "dict"
  | .gnd _ _ => none
theorem view_ty {M : Option Addr} {F H : Hp} (fh : Same F H) {x : V} {a : D} {T : String} (h : View C M F H x a) (e : a.tyn = some T) : TyX K H x (.type T) := by
  cases a with
  | non => cases e; cases h; exact .base .non
  | bl b => cases e; cases h; exact .base (.bl b)
  | int b => cases e; cases h; exact .base (.int b)
  | str b => cases e; cases h; exact .base (.str _)
  | lst ds => cases e; obtain ⟨p, vs, rfl, _, e, r⟩ := h; exact .base (.lst e)
  | dic ds => cases e; obtain ⟨p, vs, rfl, _, e, r⟩ := h; exact .base (.dK e)
  | tup ds => cases e; cases h with | tup e r => exact .base (.tup (fh _ _ e))
  | gnd u g => cases e
def dIsi (T : String) (a : TDE) : TDE := fun env n k => a env n fun x n1 => x ≠ .die ∧ ∃ (s : String) (b : Bool), x.d.tyn = some s ∧ kitB s T = some b ∧ k (.sh (.bl b)) n1
theorem sim_isi {T : String} {ta : TE} {a : TDE} (ha : Sim C ta a) : Sim C (tCB (rIsi K) (tCons ta (tCons (tC (.ty T)) tNil))) (dIsi T a) := fun M F H σ env n Q k s h hk => by
  refine look (ta := ta) ha s h fun x n1 v F1 H1 h1 x1 o1 => ?_
  obtain ⟨hx, s1, b, e1, e2, h1⟩ := h1
  refine ⟨v, .ty T, .type s1, .type T, b, rfl, .ty T, view_ty x1.fh (rs_view x1.fh x1.die o1 hx) e1, kit_ty e2, ?_⟩
  exact hk _ n1 _ F1 H1 h1 x1 (Rep.bl b)
/-! ### methods of texts -/
def dM1 (f : D → D → (Rs → Prop) → Prop) (a b : TDE) : TDE := fun env n k => a env n fun x n1 => ∃ w, x = .sh (.str w) ∧ b env n1 fun y n2 => y ≠ .die ∧ f x.d y.d fun z => k z n2
def M1S (C : Addr) (r : V → List V → Hp → VK → Prop) (f : D → D → (Rs → Prop) → Prop) : Prop := OpS C (fun x y H Q => r x [y] H Q) f
theorem sim_m1 {r : V → List V → Hp → VK → Prop} {f : D → D → (Rs → Prop) → Prop} {ta tb : TE} {a b : TDE} (hr : M1S C r f) (ha : Sim C ta a) (hb : Sim C tb b) : Sim C (tM1 r ta tb) (dM1 f a b) := fun M F H σ env n Q k s h hk => by
  refine look (ta := ta) ha s h fun x n1 v F1 H1 h1 x1 o1 => ?_
  obtain ⟨w, rfl, h1⟩ := h1
  cases o1
  refine ⟨⟨_, rfl⟩, ?_⟩
  refine look (ta := tb) hb (s.ext x1) h1 fun y n2 u F2 H2 h2 x2 o2 => ?_
  obtain ⟨hy, h2⟩ := h2
  refine hr M F2 H2 n2 _ u (.str w) _ Q _ x2.fh x2.die (Rep.str w) (rs_view x2.fh x2.die o2 hy) h2 fun z u F3 H3 h3 x3 o3 => ?_
  exact hk z n2 u F3 H3 h3 (x1.trans (x2.trans x3)) (rs_from' (x1.trans x2) o3)
theorem sim_bmS {r : V → List V → Hp → VK → Prop} {f : D → D → (Rs → Prop) → Prop} {ta tb : TE} {a b : TDE} (hr : M1S C r f) (ha : Sim C ta a) (hb : Sim C tb b) : Sim C (tBM K "str" r ta (tCons tb tNil)) (dM1 f a b) := fun M F H σ env n Q k s h hk => by
  refine look (ta := ta) ha s h fun x n1 v F1 H1 h1 x1 o1 => ?_
  obtain ⟨w, rfl, h1⟩ := h1
  cases o1
  refine ⟨rfl, ?_⟩
  refine look (ta := tb) hb (s.ext x1) h1 fun y n2 u F2 H2 h2 x2 o2 => ?_
  obtain ⟨hy, h2⟩ := h2
  refine hr M F2 H2 n2 _ u (.str w) _ Q _ x2.fh x2.die (Rep.str w) (rs_view x2.fh x2.die o2 hy) h2 fun z u F3 H3 h3 x3 o3 => ?_
  exact hk z n2 u F3 H3 h3 (x1.trans (x2.trans x3)) (rs_from' (x1.trans x2) o3)
def f2S (g : List Nat → List Nat → D) : D → D → (Rs → Prop) → Prop := fun a b k => ∃ u w, a = .str u ∧ b = .str w ∧ k (.sh (g u w))
theorem m_starts : M1S C (fun x xs H Q => ∃ a b, x = .str a ∧ xs = [.str b] ∧ Q (.bl (Txt.startswith a b)) H) (f2S fun u w => .bl (w.isPrefixOf u)) := fun M F H n x y a b Q k fh d vx vy h hk => by
  obtain ⟨u, w, rfl, rfl, h⟩ := h
  rw [view_str vx, view_str vy]
  refine ⟨S u, S w, rfl, rfl, ?_⟩
  rw [starts]
  exact fin fh d hk h (.bl _)
theorem m_ends : M1S C (fun x xs H Q => ∃ a b, x = .str a ∧ xs = [.str b] ∧ Q (.bl (Txt.endswith a b)) H) (f2S fun u w => .bl (Txt.endswith (S u) (S w))) := fun M F H n x y a b Q k fh d vx vy h hk => by
  obtain ⟨u, w, rfl, rfl, h⟩ := h
  rw [view_str vx, view_str vy]
  exact ⟨S u, S w, rfl, rfl, fin fh d hk h (.bl _)⟩
end
end K4
set_option Elab.async false
set_option linter.all false
set_option maxRecDepth 100000
set_option maxHeartbeats 4000000
namespace K4
open PySem PySem.Spec PyProof.Rows L2 K4M
section
variable {C : Addr} {K : PySem.W.Frag}
/-! ### join -/
theorem rep_strs {F : Hp} {vs : List V} : ∀ {ws : List (List Nat)}, RepAll C F vs (ws.map D.str) → vs = (ws.map S).map V.str := by
  intro ws r
  rw [r.strs, List.map_map]
  rfl
/-- sep.join(words) -/
def joinN (s : List Nat) : List (List Nat) → List Nat
  | [] => []
  | [w] => w
  | w :: r => w ++ s ++ joinN s r
theorem join_N (s : List Nat) : ∀ ws : List (List Nat), Txt.join (S s) (ws.map S) = S (joinN s ws) := fun ws => by
  show Builtin.Str.glued (S s) (ws.map S) = _
  rw [StrLaws.glued_eq_join]
  have key : ∀ ws : List (List Nat), Str.join (S s) (ws.map S) = S (joinN s ws) := fun ws => by
    induction ws with
    | nil => rfl
    | cons u r ih =>
      cases r with
      | nil => rfl
      | cons v r =>
        show (S u ++ S s) ++ Str.join (S s) ((v :: r).map S) = _
        rw [ih, S_app, S_app]
        rfl
  exact key ws
theorem joinN_nil : ∀ ws : List (List Nat), joinN [] ws = ws.flatten
  | [] => rfl
  | [w] => by simp [joinN]
  | w :: v :: r => by
    show w ++ [] ++ joinN [] (v :: r) = _
    rw [joinN_nil (v :: r), List.append_nil]
    rfl
def fJoin : D → D → (Rs → Prop) → Prop := fun a b k => ∃ (s : List Nat) (ws : List (List Nat)), a = .str s ∧ (b = .lst (ws.map D.str) ∨ b = .tup (ws.map D.str)) ∧ (ws.map List.length).sum + ws.length * s.length ≤ 1000000 ∧ k (.sh (.str (joinN s ws)))
theorem m_join : M1S C (fun x xs H Q => ∃ a p, ∃ ys : List Str, x = .str a ∧ xs = [.ref p] ∧ (SqL K H p (ys.map V.str) ∨ SqT K H p (ys.map V.str)) ∧ (ys.map (·.length)).sum + ys.length * a.length ≤ 16777216 ∧ Q (.str (Txt.join a ys)) H) fJoin := fun M F H n x y a b Q k fh d vx vy h hk => by
  obtain ⟨s, ws, rfl, hb, hl, h⟩ := h
  rw [view_str vx]
  have es : (ws.map S).map (fun (z : Str) => z.length) = ws.map List.length := by
    rw [List.map_map]
    apply List.map_congr_left
    intro w _
    exact S_len w
  have bound : ((ws.map S).map (fun (z : Str) => z.length)).sum + (ws.map S).length * (S s).length ≤ 16777216 := by
    rw [es, List.length_map, S_len]
    omega
  rcases hb with rfl | rfl
  · obtain ⟨p, vs, rfl, _, e, r⟩ := view_lst vy
    rw [rep_strs r] at e
    refine ⟨S s, p, ws.map S, rfl, rfl, .inl (.inl (.inl e)), bound, ?_⟩
    rw [join_N]
    exact fin fh d hk h (.str _)
  · obtain ⟨p, vs, rfl, e, _, r⟩ := view_tup fh vy
    rw [rep_strs r] at e
    refine ⟨S s, p, ws.map S, rfl, rfl, .inr (.inl (.inl e)), bound, ?_⟩
    rw [join_N]
    exact fin fh d hk h (.str _)
/-! ### targets -/
/-- a target stores a thing: what the slots are then -/
abbrev TDG := D → List Ent → Option (List Ent)
/-- the slots that differ -/
def Off (is : List Nat) (σ σ' : L2.St) : Prop := σ'.length = σ.length ∧ ∀ j, j ∉ is → σ'[j]? = σ[j]?
def SimG (C : Addr) (g : TG) (t : TDG) (is : List Nat) : Prop := ∀ (M : Option Addr) (F H : Hp) (σ : L2.St) (env env' : List Ent) (n : Nat) (x : V) (d : D) (k : L2.St → Hp → Prop), StE C M F H σ env n → σ.length = env.length → Rep C F x d → t d env = some env' → (∀ σ', Off is σ σ' → StE C M F H σ' env' n → (∀ (i : Nat) (o : OD), env'[i]? = some (.own o) → env[i]? = some (.own o) ∧ σ'[i]? = σ[i]?) → env'.length = env.length → k σ' H) → g x σ H k
theorem StE.set {M : Option Addr} {F H : Hp} {σ : L2.St} {env : List Ent} {n i : Nat} {v : V} {e : Ent} (s : StE C M F H σ env n) (hl : i < σ.length) (he : EntOk C M F H (some (some v)) e) : StE C M F H (σ.set i (some v)) (env.set i e) n where
  len := by rw [List.length_set, List.length_set, s.len]
  fh := s.fh
  ent := fun j f hf => by
    by_cases hj : j = i
    · subst hj
      by_cases hle : j < env.length
      · rw [List.getElem?_set_self hle] at hf
        cases hf
        rw [List.getElem?_set_self hl]
        exact he
      · rw [List.getElem?_eq_none (by rw [List.length_set]; omega)] at hf
        cases hf
    · rw [List.getElem?_set_ne (fun z => hj z.symm)] at hf
      rw [List.getElem?_set_ne (fun z => hj z.symm)]
      exact s.ent j f hf
  die := s.die
def gdName (i : Nat) : TDG := fun d env => if i < env.length then some (env.set i (.sh d)) else none
theorem sim_gName (i : Nat) : SimG C (gName i) (gdName i) [i] := fun M F H σ env env' n x d k s hl r ht hk => by
  unfold gdName at ht
  by_cases h : i < env.length
  · rw [if_pos h] at ht
    cases ht
    refine hk _ ⟨List.length_set .., fun j hj => ?_⟩ (s.set (by omega) ⟨x, rfl, r⟩) (fun j o hj => ?_) (List.length_set ..)
    · rw [List.getElem?_set_ne (fun z => hj (by rw [z]; exact List.mem_singleton.mpr rfl))]
    · by_cases hji : j = i
      · subst hji
        rw [List.getElem?_set_self h] at hj
        cases hj
      · rw [List.getElem?_set_ne (fun z => hji z.symm)] at hj
        exact ⟨hj, List.getElem?_set_ne (fun z => hji z.symm)⟩
  · rw [if_neg h] at ht
    cases ht
abbrev TDGs := List D → List Ent → Option (List Ent)
def SimGs (C : Addr) (g : TGs) (t : TDGs) (is : List Nat) : Prop := ∀ (M : Option Addr) (F H : Hp) (σ : L2.St) (env env' : List Ent) (n : Nat) (xs : List V) (ds : List D) (k : L2.St → Hp → Prop), StE C M F H σ env n → σ.length = env.length → RepAll C F xs ds → t ds env = some env' → (∀ σ', Off is σ σ' → StE C M F H σ' env' n → (∀ (i : Nat) (o : OD), env'[i]? = some (.own o) → env[i]? = some (.own o) ∧ σ'[i]? = σ[i]?) → env'.length = env.length → k σ' H) → g xs σ H k
def gdNil : TDGs := fun ds env => match ds with | [] => some env | _ => none
def gdCons (t : TDG) (u : TDGs) : TDGs := fun ds env => match ds with | d :: r => (t d env).bind (u r) | [] => none
theorem sim_gNil : SimGs C gNil gdNil [] := fun M F H σ env env' n xs ds k s hl r ht hk => by
  cases ds with
  | nil =>
    cases r
    cases ht
    exact ⟨rfl, hk σ ⟨rfl, fun _ _ => rfl⟩ s (fun i o h => ⟨h, rfl⟩) rfl⟩
  | cons d ds => cases ht
theorem sim_gCons {g : TG} {gs : TGs} {t : TDG} {u : TDGs} {is js : List Nat} (h1 : SimG C g t is) (h2 : SimGs C gs u js) : SimGs C (gCons g gs) (gdCons t u) (is ++ js) := fun M F H σ env env' n xs ds k s hl r ht hk => by
  cases ds with
  | nil => cases ht
  | cons d ds =>
    cases r with
    | @cons v vs _ _ r rs =>
      have ht : (t d env).bind (u ds) = some env' := ht
      cases e : t d env with
      | none => rw [e] at ht; cases ht
      | some env1 =>
        rw [e] at ht
        refine ⟨v, vs, rfl, h1 M F H σ env env1 n v d _ s hl r e fun σ1 off1 s1 own1 len1 => ?_⟩
        refine h2 M F H σ1 env1 env' n vs ds _ s1 (by rw [off1.1, hl, len1]) rs ht fun σ2 off2 s2 own2 len2 => ?_
        refine hk σ2 ⟨off2.1.trans off1.1, fun j hj => ?_⟩ s2 (fun i o h => ?_) (len2.trans len1)
        · rw [List.mem_append] at hj
          rw [off2.2 j (fun z => hj (.inr z)), off1.2 j (fun z => hj (.inl z))]
        · obtain ⟨a, b⟩ := own2 i o h
          obtain ⟨c, e⟩ := own1 i o a
          exact ⟨c, b.trans e⟩
def gdTup (u : TDGs) : TDG := fun d env => match d with | .tup ds => u ds env | _ => none
theorem sim_gTup {m : Nat} {gs : TGs} {u : TDGs} {js : List Nat} (hm : ∀ ds env env', u ds env = some env' → ds.length = m) (h2 : SimGs C gs u js) : SimG C (gTup K m gs) (gdTup u) js := fun M F H σ env env' n x d k s hl r ht hk => by
  cases d with
  | tup ds =>
    cases r with
    | @tup a vs _ e r =>
      have ht : u ds env = some env' := ht
      refine ⟨a, vs, rfl, .inl (.inl (s.fh _ _ e)), by rw [r.len]; exact hm ds env env' ht, ?_⟩
      exact h2 M F H σ env env' n vs ds k s hl r ht hk
  | _ => cases ht
theorem gdNil_len (ds : List D) (env env' : List Ent) (h : gdNil ds env = some env') : ds.length = 0 := by
  cases ds with
  | nil => rfl
  | cons _ _ => cases h
theorem gdCons_len {t : TDG} {u : TDGs} {m : Nat} (hu : ∀ ds env env', u ds env = some env' → ds.length = m) (ds : List D) (env env' : List Ent) (h : gdCons t u ds env = some env') : ds.length = m + 1 := by
  cases ds with
  | nil => cases h
  | cons d ds =>
    have h : (t d env).bind (u ds) = some env' := h
    cases e : t d env with
    | none => rw [e] at h; cases h
    | some env1 =>
      rw [e] at h
      rw [List.length_cons, hu _ _ _ h]
/-! ### what is walked over -/
/-- an iterator over data: G holds while the heap is kept -/
structure WalkD (C : Addr) (M : Option Addr) (F1 H1 : Hp) (J : It) (xs : List D) (st : Bool) : Type where
  G : Hp → Prop
  g0 : G H1
  keep : ∀ H2, (∀ b o, M ≠ some b → H1 b = some o → H2 b = some o) → G H2
  stab : st = true → ∀ F2 H2, Same F1 F2 → Same F2 H2 → G H2
  goes : ∀ i H, i < xs.length → G H → J.go i H
  stops : ∀ H, G H → J.stop xs.length H
  yields : ∀ i F H n x H' d, Same F1 F → Same F H → DieOk M F H n → G H → xs[i]? = some d → J.yld i H x H' → ∃ F', Ext M F H F' H' n ∧ Rep C F' x d
abbrev TDI := List Ent → Nat → (List D → Bool → Nat → Prop) → Prop
def SimI (C : Addr) (wi : TI) (t : TDI) : Prop := ∀ (M : Option Addr) (F H : Hp) (σ : L2.St) (env : List Ent) (n : Nat) (R : It → Hp → Prop) (k : List D → Bool → Nat → Prop), StE C M F H σ env n → t env n k → (∀ xs st n' F' H' J, k xs st n' → Ext M F H F' H' n' → Nonempty (WalkD C M F' H' J xs st) → R J H') → wi σ H R
def WalkD.list {M : Option Addr} {F1 H1 : Hp} {p : Addr} {vs : List V} {xs : List D} (hm : M ≠ some p) (e : H1 p = some (.lst vs)) (r : RepAll C F1 vs xs) {st : Bool} (hst : st = true → F1 p = some (.lst vs)) : WalkD C M F1 H1 (Itl K p) xs st where
  G := fun H => SqL K H p vs
  g0 := .inl (.inl e)
  keep := fun H2 hk => .inl (.inl (hk _ _ hm e))
  stab := fun h F2 H2 s1 s2 => .inl (.inl (s2 _ _ (s1 _ _ (hst h))))
  goes := fun i H hi q => ⟨vs, vs[i]'(by rw [r.len]; exact hi), q, List.getElem?_eq_getElem _⟩
  stops := fun H q => ⟨vs, q, by rw [r.len]; exact Nat.le_refl _⟩
  yields := fun i F H n x H' d s1 fh dk q hd y => by
    obtain ⟨rfl, h⟩ := y
    obtain ⟨v, hv, rv⟩ := r.at' hd
    have := h vs q
    rw [hv] at this
    cases this
    exact ⟨F, Ext.refl fh dk, rv.mono s1⟩
def WalkD.tup {M : Option Addr} {F1 H1 : Hp} {p : Addr} {vs : List V} {xs : List D} (fh : Same F1 H1) (e : F1 p = some (.tup vs)) (hm : M ≠ some p) (r : RepAll C F1 vs xs) : WalkD C M F1 H1 (Itt K p) xs true where
  G := fun H => SqT K H p vs
  g0 := .inl (.inl (fh _ _ e))
  keep := fun H2 hk => .inl (.inl (hk _ _ hm (fh _ _ e)))
  stab := fun h F2 H2 s1 s2 => .inl (.inl (s2 _ _ (s1 _ _ e)))
  goes := fun i H hi q => ⟨vs, vs[i]'(by rw [r.len]; exact hi), q, List.getElem?_eq_getElem _⟩
  stops := fun H q => ⟨vs, q, by rw [r.len]; exact Nat.le_refl _⟩
  yields := fun i F H n x H' d s1 fh dk q hd y => by
    obtain ⟨rfl, h⟩ := y
    obtain ⟨v, hv, rv⟩ := r.at' hd
    have := h vs q
    rw [hv] at this
    cases this
    exact ⟨F, Ext.refl fh dk, rv.mono s1⟩
/-- the ints lo, lo + 1, .. -/
def rngD (lo : Int) (m : Nat) : List D := (List.range m).map fun (i : Nat) => D.int (lo + (i : Int))
theorem rngD_len (lo : Int) (m : Nat) : (rngD lo m).length = m := by
  unfold rngD
  rw [List.length_map, List.length_range]
theorem rngD_at {lo : Int} {m i : Nat} {d : D} (h : (rngD lo m)[i]? = some d) : i < m ∧ d = .int (lo + (i : Int)) := by
  unfold rngD at h
  rw [List.getElem?_map] at h
  by_cases hi : i < m
  · rw [List.getElem?_range hi] at h
    cases h
    exact ⟨hi, rfl⟩
  · rw [List.getElem?_eq_none (by rw [List.length_range]; omega)] at h
    cases h
def WalkD.rng {M : Option Addr} {F1 H1 : Hp} (lo : Int) (m : Nat) : WalkD C M F1 H1 (Itr lo m) (rngD lo m) true where
  G := fun _ => True
  g0 := True.intro
  keep := fun _ _ => True.intro
  stab := fun _ _ _ _ _ => True.intro
  goes := fun i H hi q => by rw [rngD_len] at hi; exact hi
  stops := fun H q => by rw [rngD_len]; exact Nat.le_refl _
  yields := fun i F H n x H' d s1 fh dk q hd y => by
    obtain ⟨rfl, rfl⟩ := y
    obtain ⟨_, rfl⟩ := rngD_at hd
    exact ⟨F, Ext.refl fh dk, .int _⟩
def WalkD.str {M : Option Addr} {F1 H1 : Hp} (w : List Nat) : WalkD C M F1 H1 (Its (S w)) (signsD w) true where
  G := fun _ => True
  g0 := True.intro
  keep := fun _ _ => True.intro
  stab := fun _ _ _ _ _ => True.intro
  goes := fun i H hi q => by
    unfold signsD at hi
    rw [List.length_map] at hi
    show i < w.toArray.size
    rw [List.size_toArray]
    exact hi
  stops := fun H q => by
    unfold signsD
    rw [List.length_map]
    show w.toArray.size ≤ w.length
    rw [List.size_toArray]
    exact Nat.le_refl _
  yields := fun i F H n x H' d s1 fh dk q hd y => by
    obtain ⟨rfl, c, hc, rfl⟩ := y
    have hc : w[i]? = some c := by
      have : w.toArray[i]? = some c := hc
      rw [List.getElem?_toArray] at this
      exact this
    unfold signsD at hd
    rw [List.getElem?_map, hc] at hd
    cases hd
    exact ⟨F, Ext.refl fh dk, .str [c]⟩
def Rs.stb : Rs → Bool
  | .loc _ => false
  | _ => true
def iL (x : Rs) (k : List D → Bool → Prop) : Prop := ∃ ds, x.d = .lst ds ∧ x ≠ .die ∧ k ds x.stb
theorem rs_lst {M : Option Addr} {Hs F H : Hp} {n : Nat} (fh : Same F H) (dk : DieOk M F H n) {v : V} {x : Rs} {ds : List D} (o : RsOk C M Hs F H v x.fz) (e : x.d = .lst ds) (hd : x ≠ .die) : ∃ p vs, v = .ref p ∧ M ≠ some p ∧ H p = some (.lst vs) ∧ RepAll C F vs ds ∧ (x.stb = true → F p = some (.lst vs)) := by
  cases x with
  | die => exact absurd rfl hd
  | sh d =>
    cases e
    cases o with
    | @lst a vs _ h r => exact ⟨a, vs, rfl, die_ne' dk h, fh _ _ h, r, fun _ => h⟩
  | own o' =>
    cases o' with
    | dic _ => cases e
    | lst xs =>
      cases e
      cases o with
      | @lst a vs _ h r => exact ⟨a, vs, rfl, die_ne' dk h, fh _ _ h, r, fun _ => h⟩
  | loc o' =>
    obtain ⟨p, ho, rfl, h1, h2, h3, h4⟩ := o
    cases o' with
    | dic _ => cases e
    | lst xs =>
      cases e
      obtain ⟨vs, rfl, q⟩ := h4.lst
      exact ⟨p, vs, rfl, h2, h3, q, fun z => nomatch z⟩
def diList (a : TDE) : TDI := fun env n k => a env n fun x n1 => iL x fun ds st => k ds st n1
theorem sim_iList {tl : TE} {a : TDE} (ha : Sim C tl a) : SimI C (iList K tl) (diList a) := fun M F H σ env n R k s h hk => by
  refine look (ta := tl) ha s h fun x n1 v F1 H1 h1 x1 o1 => ?_
  obtain ⟨ds, e, hd, h1⟩ := h1
  obtain ⟨p, vs, rfl, hm, hp, r, hst⟩ := rs_lst x1.fh x1.die o1 e hd
  exact ⟨p, rfl, ⟨vs, .inl (.inl hp)⟩, hk ds _ n1 F1 H1 _ h1 x1 ⟨WalkD.list hm hp r hst⟩⟩
def diTup (a : TDE) : TDI := fun env n k => a env n fun x n1 => ∃ ds, x = .sh (.tup ds) ∧ k ds true n1
theorem sim_iTup {tl : TE} {a : TDE} (ha : Sim C tl a) : SimI C (iTup K tl) (diTup a) := fun M F H σ env n R k s h hk => by
  refine look (ta := tl) ha s h fun x n1 v F1 H1 h1 x1 o1 => ?_
  obtain ⟨ds, rfl, h1⟩ := h1
  cases o1 with
  | @tup p vs _ e r => exact ⟨p, rfl, ⟨vs, .inl (.inl (x1.fh _ _ e))⟩, hk ds _ n1 F1 H1 _ h1 x1 ⟨WalkD.tup x1.fh e (die_ne' x1.die e) r⟩⟩
def diStr (a : TDE) : TDI := fun env n k => a env n fun x n1 => ∃ w, x = .sh (.str w) ∧ k (signsD w) true n1
theorem sim_iStr {tl : TE} {a : TDE} (ha : Sim C tl a) : SimI C (iStr tl) (diStr a) := fun M F H σ env n R k s h hk => by
  refine look (ta := tl) ha s h fun x n1 v F1 H1 h1 x1 o1 => ?_
  obtain ⟨w, rfl, h1⟩ := h1
  cases o1
  exact ⟨S w, rfl, hk _ _ n1 F1 H1 _ h1 x1 ⟨WalkD.str w⟩⟩
def diRng1 (t : TDA) : TDI := fun env n k => t env n fun rs n1 => ∃ j : Int, rs = [.sh (.int j)] ∧ -(2 ^ 62) ≤ j ∧ j < 2 ^ 62 ∧ k (rngD 0 j.toNat) true n1
def diRng2 (t : TDA) : TDI := fun env n k => t env n fun rs n1 => ∃ i j : Int, rs = [.sh (.int i), .sh (.int j)] ∧ (-(2 ^ 62) ≤ i ∧ i < 2 ^ 62 ∧ -(2 ^ 62) ≤ j ∧ j < 2 ^ 62) ∧ k (rngD i (j - i).toNat) true n1
theorem sim_iRng1 {ta : TA} {t : TDA} (ha : SimA C ta t) : SimI C (iRng1 ta) (diRng1 t) := fun M F H σ env n R k s h hk => by
  refine ha M F H σ env n _ _ s h fun rs n1 vs F1 H1 h1 x1 o1 => ?_
  obtain ⟨j, rfl, l1, l2, h1⟩ := h1
  cases o1 with
  | cons o r =>
    cases r
    cases o
    exact ⟨j, rfl, l1, l2, hk _ _ n1 F1 H1 _ h1 x1 ⟨WalkD.rng 0 _⟩⟩
theorem sim_iRng2 {ta : TA} {t : TDA} (ha : SimA C ta t) : SimI C (iRng2 ta) (diRng2 t) := fun M F H σ env n R k s h hk => by
  refine ha M F H σ env n _ _ s h fun rs n1 vs F1 H1 h1 x1 o1 => ?_
  obtain ⟨i, j, rfl, l1, h1⟩ := h1
  cases o1 with
  | cons o r =>
    cases r with
    | cons o2 r =>
      cases r
      cases o
      cases o2
      exact ⟨i, j, rfl, l1, hk _ _ n1 F1 H1 _ h1 x1 ⟨WalkD.rng i _⟩⟩
/-- pairs -/
def pairD (xs ys : List D) : List D := List.zipWith (fun x y => D.tup [x, y]) xs ys
theorem pairD_at {xs ys : List D} {i : Nat} {d : D} (h : (pairD xs ys)[i]? = some d) : ∃ x y, xs[i]? = some x ∧ ys[i]? = some y ∧ d = .tup [x, y] := by
  unfold pairD at h
  rw [List.getElem?_zipWith] at h
  cases e : xs[i]? with
  | none => rw [e] at h; cases h
  | some x =>
    cases e2 : ys[i]? with
    | none => rw [e, e2] at h; cases h
    | some y => rw [e, e2] at h; cases h; exact ⟨x, y, rfl, rfl, rfl⟩
theorem pair_yield {M : Option Addr} {F H : Hp} {n : Nat} (fh : Same F H) (dk : DieOk M F H n) {T : Addr} (hT : H T = none) {x y : V} {a b : D} (rx : Rep C F x a) (ry : Rep C F y b) : ∃ F', Ext M F H F' (upd H T (.tup [x, y])) n ∧ Rep C F' (.ref T) (.tup [a, b]) := by
  have x1 := Ext.alloc fh dk hT (.tup [x, y])
  exact ⟨_, x1, .tup upd_same (.cons (rx.mono x1.ff) (.cons (ry.mono x1.ff) .nil))⟩
def WalkD.zip {M : Option Addr} {F1 H1 : Hp} {p q : Addr} {vs ws : List V} {xs ys : List D} (hm : M ≠ some p) (e : H1 p = some (.lst vs)) (r : RepAll C F1 vs xs) (hm2 : M ≠ some q) (e2 : H1 q = some (.lst ws)) (r2 : RepAll C F1 ws ys) {st : Bool} (hst : st = true → F1 p = some (.lst vs) ∧ F1 q = some (.lst ws)) : WalkD C M F1 H1 (Itz K p q) (pairD xs ys) st where
  G := fun H => SqL K H p vs ∧ SqL K H q ws
  g0 := ⟨.inl (.inl e), .inl (.inl e2)⟩
  keep := fun H2 hk => ⟨.inl (.inl (hk _ _ hm e)), .inl (.inl (hk _ _ hm2 e2))⟩
  stab := fun h F2 H2 s1 s2 => ⟨.inl (.inl (s2 _ _ (s1 _ _ (hst h).1))), .inl (.inl (s2 _ _ (s1 _ _ (hst h).2)))⟩
  goes := fun i H hi g => (walk_zip (K := K) (a := p) (b := q) (xs := vs) (ys := ws) rfl).goes i H (by unfold pairD at hi; rw [List.length_zipWith] at hi; rw [r.len, r2.len]; exact hi) g
  stops := fun H g => by
    have := (walk_zip (K := K) (a := p) (b := q) (xs := vs) (ys := ws) rfl).stops H g
    unfold pairD
    rw [List.length_zipWith, ← r.len, ← r2.len]
    exact this
  yields := fun i F H n x H' d s1 fh dk g hd y => by
    obtain ⟨a, b, ha, hb, rfl⟩ := pairD_at hd
    obtain ⟨v, hv, rv⟩ := r.at' ha
    obtain ⟨w, hw, rw'⟩ := r2.at' hb
    have hi : i < min vs.length ws.length := by
      have h1 := (List.getElem?_eq_some_iff.mp hv).1
      have h2 := (List.getElem?_eq_some_iff.mp hw).1
      omega
    obtain ⟨T, x', y', rfl, hT, rfl, f1, f2⟩ := (walk_zip (K := K) (a := p) (b := q) (xs := vs) (ys := ws) rfl).yields i H x H' hi g y
    have f1 : vs[i]? = some x' := f1
    have f2 : ws[i]? = some y' := f2
    rw [hv] at f1
    rw [hw] at f2
    cases f1
    cases f2
    exact pair_yield fh dk hT (rv.mono s1) (rw'.mono s1)
def diZip (t : TDA) : TDI := fun env n k => t env n fun rs n1 => ∃ (a b : Rs) (xs ys : List D), rs = [a, b] ∧ a.d = .lst xs ∧ b.d = .lst ys ∧ a ≠ .die ∧ b ≠ .die ∧ k (pairD xs ys) (a.stb && b.stb) n1
theorem sim_iZip {ta : TA} {t : TDA} (ha : SimA C ta t) : SimI C (iZip K ta) (diZip t) := fun M F H σ env n R k s h hk => by
  refine ha M F H σ env n _ _ s h fun rs n1 vs F1 H1 h1 x1 o1 => ?_
  obtain ⟨a, b, xs, ys, rfl, ea, eb, da, db, h1⟩ := h1
  cases o1 with
  | cons o r =>
    cases r with
    | cons o2 r =>
      cases r
      obtain ⟨p, vs, rfl, hm, hp, r1, st1⟩ := rs_lst x1.fh x1.die o ea da
      obtain ⟨q, ws, rfl, hm2, hq, r2, st2⟩ := rs_lst x1.fh x1.die o2 eb db
      refine ⟨p, q, vs, ws, rfl, .inl (.inl hp), .inl (.inl hq), hk _ _ n1 F1 H1 _ h1 x1 ⟨WalkD.zip hm hp r1 hm2 hq r2 fun z => ?_⟩⟩
      rw [Bool.and_eq_true] at z
      exact ⟨st1 z.1, st2 z.2⟩
def WalkD.enum {M : Option Addr} {F1 H1 : Hp} {p : Addr} {vs : List V} {xs : List D} (hm : M ≠ some p) (e : H1 p = some (.lst vs)) (r : RepAll C F1 vs xs) {st : Bool} (hst : st = true → F1 p = some (.lst vs)) : WalkD C M F1 H1 (Ite K p) (pairD (rngD 0 xs.length) xs) st where
  G := fun H => SqL K H p vs
  g0 := .inl (.inl e)
  keep := fun H2 hk => .inl (.inl (hk _ _ hm e))
  stab := fun h F2 H2 s1 s2 => .inl (.inl (s2 _ _ (s1 _ _ (hst h))))
  goes := fun i H hi g => (walk_enum (K := K) (a := p) (xs := vs)).goes i H (by unfold pairD at hi; rw [List.length_zipWith, rngD_len] at hi; rw [r.len]; omega) g
  stops := fun H g => by
    have := (walk_enum (K := K) (a := p) (xs := vs)).stops H g
    unfold pairD
    rw [List.length_zipWith, rngD_len, Nat.min_self, ← r.len]
    exact this
  yields := fun i F H n x H' d s1 fh dk g hd y => by
    obtain ⟨a, b, ha, hb, rfl⟩ := pairD_at hd
    obtain ⟨w, hw, rw'⟩ := r.at' hb
    obtain ⟨hi, rfl⟩ := rngD_at ha
    obtain ⟨T, x', y', rfl, hT, rfl, f1, f2⟩ := (walk_enum (K := K) (a := p) (xs := vs)).yields i H x H' (by rw [r.len]; exact hi) g y
    cases f1
    have f2 : vs[i]? = some y' := f2
    rw [hw] at f2
    cases f2
    have r0 : Rep C F (.int (i : Nat)) (.int (0 + (i : Int))) := by rw [Int.zero_add]; exact .int _
    exact pair_yield fh dk hT r0 (rw'.mono s1)
def diEnum (t : TDA) : TDI := fun env n k => t env n fun rs n1 => ∃ (a : Rs) (xs : List D), rs = [a] ∧ a.d = .lst xs ∧ a ≠ .die ∧ k (pairD (rngD 0 xs.length) xs) a.stb n1
theorem sim_iEnum {ta : TA} {t : TDA} (ha : SimA C ta t) : SimI C (iEnum K ta) (diEnum t) := fun M F H σ env n R k s h hk => by
  refine ha M F H σ env n _ _ s h fun rs n1 vs F1 H1 h1 x1 o1 => ?_
  obtain ⟨a, xs, rfl, ea, da, h1⟩ := h1
  cases o1 with
  | cons o r =>
    cases r
    obtain ⟨p, vs, rfl, hm, hp, r1, st1⟩ := rs_lst x1.fh x1.die o ea da
    exact ⟨p, vs, rfl, .inl (.inl hp), hk _ _ n1 F1 H1 _ h1 x1 ⟨WalkD.enum hm hp r1 st1⟩⟩
/-! ### comprehensions -/
def wipeE (env : List Ent) : List Nat → List Ent
  | [] => env
  | v :: vs => (wipeE env vs).set v .un
theorem wipeE_len (env : List Ent) : ∀ vs, (wipeE env vs).length = env.length
  | [] => rfl
  | v :: vs => by unfold wipeE; rw [List.length_set, wipeE_len env vs]
theorem StE.wipe {M : Option Addr} {F H : Hp} {σ : L2.St} {env : List Ent} {n : Nat} (s : StE C M F H σ env n) : ∀ vs, StE C M F H (L2.wipe σ vs) (wipeE env vs) n
  | [] => s
  | v :: vs => by
    have ih := StE.wipe s vs
    refine ⟨by rw [L2.wipe_length, wipeE_len, s.len], ih.fh, fun j f hf => ?_, ih.die⟩
    unfold wipeE at hf
    unfold L2.wipe
    by_cases hj : j = v
    · subst hj
      by_cases hle : j < (wipeE env vs).length
      · rw [List.getElem?_set_self hle] at hf
        cases hf
        exact True.intro
      · rw [List.getElem?_eq_none (by rw [List.length_set]; omega)] at hf
        cases hf
    · rw [List.getElem?_set_ne (fun z => hj z.symm)] at hf
      rw [List.getElem?_set_ne (fun z => hj z.symm)]
      exact ih.ent j f hf
theorem wipe_in {σ : L2.St} {j : Nat} : ∀ {vs : List Nat}, j ∈ vs → j < σ.length → (L2.wipe σ vs)[j]? = some none
  | [], h, _ => by cases h
  | v :: vs, h, hl => by
    unfold L2.wipe
    by_cases hj : j = v
    · subst hj
      rw [List.getElem?_set_self (by rw [L2.wipe_length]; exact hl)]
    · rw [List.getElem?_set_ne (fun z => hj z.symm)]
      exact wipe_in ((List.mem_cons.mp h).resolve_left hj) hl
theorem wipe_out {σ : L2.St} {j : Nat} : ∀ {vs : List Nat}, j ∉ vs → (L2.wipe σ vs)[j]? = σ[j]?
  | [], _ => rfl
  | v :: vs, h => by
    unfold L2.wipe
    rw [List.mem_cons, not_or] at h
    rw [List.getElem?_set_ne (fun z => h.1 z.symm)]
    exact wipe_out h.2
theorem wipe_off {σ σ2 : L2.St} {is vs : List Nat} (h : Off is (L2.wipe σ vs) σ2) (hs : ∀ i ∈ is, i ∈ vs) : L2.wipe σ2 vs = L2.wipe σ vs := by
  have hl : σ2.length = σ.length := by rw [h.1, L2.wipe_length]
  apply List.ext_getElem?
  intro j
  by_cases hj : j ∈ vs
  · by_cases hlt : j < σ.length
    · rw [wipe_in hj (by omega), wipe_in hj hlt]
    · rw [List.getElem?_eq_none (by rw [L2.wipe_length]; omega), List.getElem?_eq_none (by rw [L2.wipe_length]; omega)]
  · rw [wipe_out hj, h.2 j (fun z => hj (hs j z))]
/-- a comprehension over xs -/
def lcR (tg : TDG) (tt : TDT) (te : TDE) (env : List Ent) : List D → List D → Nat → (List D → Nat → Prop) → Prop
  | [], acc, n, k => k acc n
  | x :: r, acc, n, k => ∃ env', tg x env = some env' ∧ tt env' n fun b n1 => if b = true then te env' n1 fun y n2 => y.ok = true ∧ lcR tg tt te env r (acc ++ [y.d]) n2 k else lcR tg tt te env r acc n1 k
def dYes : TDT := fun _ n k => k true n
theorem sim_yes : SimT C tYes dYes := fun M F H σ env n Q k s h hk => hk true n F H h (Ext.refl s.fh s.die)
def dLc (i : TDI) (tg : TDG) (tt : TDT) (te : TDE) (vs : List Nat) : TDE := fun env n k => i env n fun xs _ n1 => xs.length ≤ 1000000 ∧ lcR tg tt te (wipeE env vs) xs [] n1 fun ys n2 => k (.own (.lst ys)) n2
theorem sim_lc {wi : TI} {g : TG} {tt : TT} {te : TE} {vs is : List Nat} {i : TDI} {tg : TDG} {t : TDT} {e : TDE} (hi : SimI C wi i) (hg : SimG C g tg is) (hs : ∀ i ∈ is, i ∈ vs) (ht : SimT C tt t) (he : Sim C te e) : Sim C (tLc wi g tt te vs) (dLc i tg t e vs) := fun M F H σ env n Q k s h hk => by
  have hlen := s.len
  refine hi M F H σ env n _ _ s h fun xs st n1 F1 H1 J h1 x1 ⟨w⟩ => ?_
  obtain ⟨hxl, h1⟩ := h1
  intro DD hD
  have s1 := s.ext x1
  have hDM := die_ne x1.die hD
  have e2 := e16
  -- the invariant: what is made so far, and that what is left goes well
  refine ⟨fun j m H2 => m = xs.length - j ∧ j ≤ xs.length ∧ ∃ (F2 : Hp) (n2 : Nat) (acc : List D) (vs' : List V), Ext M F1 H1 F2 H2 n2 ∧ F2 DD = none ∧ H2 DD = some (.lst vs') ∧ RepAll C F2 vs' acc ∧ acc.length ≤ j ∧ lcR tg t e (wipeE env vs) (xs.drop j) acc n2 fun ys n3 => k (.own (.lst ys)) n3,
    ⟨xs.length, rfl, Nat.zero_le _, F1, n1, [], [], Ext.allocOwn x1.fh x1.die hD _, ?_, upd_same, .nil, Nat.le_refl _, h1⟩, ?_⟩
  · cases q : F1 DD with
    | none => rfl
    | some u =>
      rw [x1.fh _ _ q] at hD
      cases hD
  rintro j m H2 ⟨rfl, hj, F2, n2, acc, vs', x2, fD, hD2, ra, hacc, hr⟩
  have g2 : w.G H2 := w.keep H2 x2.keep
  by_cases hlt : j < xs.length
  · have ex : xs.drop j = xs[j] :: xs.drop (j + 1) := List.drop_eq_getElem_cons hlt
    rw [ex] at hr
    obtain ⟨env', het, hr⟩ := hr
    refine .inr ⟨w.goes j H2 hlt g2, fun H3 => ∃ (F3 : Hp) (n3 : Nat) (acc : List D) (vs' : List V), Ext M F1 H1 F3 H3 n3 ∧ F3 DD = none ∧ H3 DD = some (.lst vs') ∧ RepAll C F3 vs' acc ∧ acc.length ≤ j + 1 ∧ lcR tg t e (wipeE env vs) (xs.drop (j + 1)) acc n3 fun ys n3 => k (.own (.lst ys)) n3, fun H3 h3 => ⟨xs.length - (j + 1), by omega, rfl, hlt, h3⟩, fun x H3 y => ?_⟩
    obtain ⟨F3, x3, rx⟩ := w.yields j F2 H2 n2 x H3 xs[j] x2.ff x2.fh x2.die g2 (List.getElem?_eq_getElem hlt) y
    have s3 : StE C M F3 H3 (L2.wipe σ vs) (wipeE env vs) n2 := StE.wipe ((s1.ext x2).ext x3) vs
    refine hg M F3 H3 (L2.wipe σ vs) (wipeE env vs) env' n2 x xs[j] _ s3 (by rw [L2.wipe_length, wipeE_len, hlen]) rx het fun σ' off s4 _ _ => ?_
    refine ⟨wipe_off off hs, ?_⟩
    refine ht M F3 H3 σ' env' n2 _ _ s4 hr fun b n4 F4 H4 h4 x4 => ?_
    have hD3 : H3 DD = some (.lst vs') := x3.keep _ _ hDM hD2
    have fD3 : F3 DD = none := x3.new _ _ fD hD2
    have hD4 : H4 DD = some (.lst vs') := x4.keep _ _ hDM hD3
    have fD4 : F4 DD = none := x4.new _ _ fD3 hD3
    have ra4 := (ra.mono x3.ff).mono x4.ff
    cases b with
    | false =>
      refine iteF ⟨F4, n4, acc, vs', x2.trans (x3.trans x4), fD4, hD4, ra4, by omega, by simpa using h4⟩
    | true =>
      refine iteT ?_
      refine look (ta := te) he (s4.ext x4) (by exact (if_pos rfl).mp h4) fun z n5 v F5 H5 h5 x5 o5 => ?_
      obtain ⟨hok, h5⟩ := h5
      have hD5 : H5 DD = some (.lst vs') := x5.keep _ _ hDM hD4
      have fD5 : F5 DD = none := x5.new _ _ fD4 hD4
      have xx := x2.trans (x3.trans (x4.trans x5))
      refine ⟨vs', hD5, by rw [ra.len]; omega, F5, n5, acc ++ [z.d], vs' ++ [v], ?_, fD5, upd_same, (ra4.mono x5.ff).snoc (rs_rep o5 hok), by rw [List.length_append]; show acc.length + 1 ≤ _; omega, h5⟩
      refine ⟨xx.ff, fun b u eb => ?_, fun b o hb eb => ?_, xx.new, fun b hb => ?_⟩
      · have : b ≠ DD := fun z => by rw [z, fD5] at eb; cases eb
        rw [upd_ne this]
        exact xx.fh _ _ eb
      · have : b ≠ DD := ne_of_none eb hD
        rw [upd_ne this]
        exact xx.keep b o hb eb
      · exact ⟨(xx.die b hb).1.upd (fun z => hDM (by rw [z]; exact hb)), (xx.die b hb).2⟩
  · have ej : j = xs.length := by omega
    subst ej
    rw [List.drop_length] at hr
    refine .inl ⟨w.stops H2 g2, ?_⟩
    refine hk _ n2 _ F2 H2 hr (x1.trans x2) (rs_from' x1 (r := .own _) ⟨DD, _, rfl, hD, fD, hD2, ra⟩)
end
end K4
set_option Elab.async false
set_option linter.all false
set_option maxRecDepth 100000
set_option maxHeartbeats 4000000
namespace K4
open PySem PySem.Spec PyProof.Rows L2 K4M
/-- where a statement starts; F0, H0: where the def did -/
structure StS (C : Addr) (M : Option Addr) (Fm F0 H0 F H : Hp) (σ : L2.St) (env : List Ent) (n : Nat) : Prop where
  e : StE C M F H σ env n
  m : Same Fm F
  x : Ext M F0 H0 F H n
  own : ∀ (i : Nat) (o : OD) (p : Addr), env[i]? = some (.own o) → σ[i]? = some (some (.ref p)) → H0 p = none
  dis : ∀ (i j : Nat) (o o' : OD) (p : Addr), env[i]? = some (.own o) → env[j]? = some (.own o') → i ≠ j → σ[i]? = some (some (.ref p)) → σ[j]? ≠ some (some (.ref p))
structure EndOk (C : Addr) (M : Option Addr) (Fm F0 H0 : Hp) (D : Ends) (E : DEnds) : Prop where
  nx : ∀ F H σ env n, StS C M Fm F0 H0 F H σ env n → E.nx env n → D.nx σ H
  bk : ∀ F H σ env n, StS C M Fm F0 H0 F H σ env n → E.bk env n → D.bk σ H
  ct : ∀ F H σ env n, StS C M Fm F0 H0 F H σ env n → E.ct env n → D.ct σ H
  rt : ∀ r n v F H, E.rt r n → Ext M F0 H0 F H n → RsOk C M H0 F H v r → D.rt v H
def SimS (C : Addr) (ts : TS) (t : TDS) : Prop := ∀ (M : Option Addr) (Fm F0 H0 F H : Hp) (σ : L2.St) (env : List Ent) (n : Nat) (D : Ends) (E : DEnds), StS C M Fm F0 H0 F H σ env n → EndOk C M Fm F0 H0 D E → t E env n → ts D σ H
section
variable {C : Addr} {K : PySem.W.Frag}
theorem StS.ext {M : Option Addr} {Fm F0 H0 F H F1 H1 : Hp} {σ : L2.St} {env : List Ent} {n n1 : Nat} (s : StS C M Fm F0 H0 F H σ env n) (x : Ext M F H F1 H1 n1) : StS C M Fm F0 H0 F1 H1 σ env n1 := ⟨s.e.ext x, s.m.trans x.ff, s.x.trans x, s.own, s.dis⟩
def dNext : TDS := fun E env n => E.nx env n
theorem sim_next : SimS C tNext dNext := fun M Fm F0 H0 F H σ env n D E s ok h => ok.nx F H σ env n s h
theorem sim_brk : SimS C tBreak (fun E env n => E.bk env n) := fun M Fm F0 H0 F H σ env n D E s ok h => ok.bk F H σ env n s h
theorem sim_cont : SimS C tCont (fun E env n => E.ct env n) := fun M Fm F0 H0 F H σ env n D E s ok h => ok.ct F H σ env n s h
def dSeq (t u : TDS) : TDS := fun E env n => t { E with nx := u E } env n
theorem sim_seq {a b : TS} {t u : TDS} (ha : SimS C a t) (hb : SimS C b u) : SimS C (tSeq a b) (dSeq t u) := fun M Fm F0 H0 F H σ env n D E s ok h =>
  ha M Fm F0 H0 F H σ env n { D with nx := b D } { E with nx := u E } s ⟨fun F1 H1 σ1 env1 n1 s1 h1 => hb M Fm F0 H0 F1 H1 σ1 env1 n1 D E s1 ok h1, ok.bk, ok.ct, ok.rt⟩ h
def dDrop (a : TDE) : TDS := fun E env n => a env n fun _ n1 => E.nx env n1
theorem sim_drop {te : TE} {a : TDE} (ha : Sim C te a) : SimS C (tDrop te) (dDrop a) := fun M Fm F0 H0 F H σ env n D E s ok h =>
  ha M F H σ env n _ _ s.e h fun r n1 v F1 H1 h1 x1 o1 => ok.nx F1 H1 σ env n1 (s.ext x1) h1
def dRet (a : TDE) : TDS := fun E env n => a env n fun r n1 => r.ok = true ∧ E.rt r n1
theorem sim_ret {te : TE} {a : TDE} (ha : Sim C te a) : SimS C (tRet te) (dRet a) := fun M Fm F0 H0 F H σ env n D E s ok h =>
  ha M F H σ env n _ _ s.e h fun r n1 v F1 H1 h1 x1 o1 => ok.rt r n1 v F1 H1 h1.2 (s.x.trans x1) (rs_from' s.x o1)
/-- return x, x one's own -/
def dRetV (i : Nat) : TDS := fun E env n => ∃ o, env[i]? = some (.own o) ∧ E.rt (.own o) n
theorem sim_retV {i : Nat} : SimS C (tRet (tVar i)) (dRetV i) := fun M Fm F0 H0 F H σ env n D E s ok h => by
  obtain ⟨o, e, h⟩ := h
  obtain ⟨p, ho, ev, h1, h2, h3, h4⟩ := s.e.ent i _ e
  exact ⟨_, ev, ok.rt _ n _ F H h s.x ⟨p, ho, rfl, s.own i o p e ev, h1, h3, h4⟩⟩
def dRetN : TDS := fun E _ n => E.rt (.sh .non) n
theorem sim_retN : SimS C tRetN dRetN := fun M Fm F0 H0 F H σ env n D E s ok h => ok.rt _ n _ F H h s.x Rep.non
def dIfS (p : TDT) (t u : TDS) : TDS := fun E env n => p env n fun b n1 => if b = true then t E env n1 else u E env n1
theorem sim_ifS {tc : TT} {a b : TS} {p : TDT} {t u : TDS} (hp : SimT C tc p) (ha : SimS C a t) (hb : SimS C b u) : SimS C (tIfS tc a b) (dIfS p t u) := fun M Fm F0 H0 F H σ env n D E s ok h =>
  hp M F H σ env n _ _ s.e h fun c n1 F1 H1 h1 x1 => by
    cases c with
    | true => exact iteT (ha M Fm F0 H0 F1 H1 σ env n1 D E (s.ext x1) ok (by exact (if_pos rfl).mp h1))
    | false => exact iteF (hb M Fm F0 H0 F1 H1 σ env n1 D E (s.ext x1) ok (by simpa using h1))
def dNever : TDS := fun _ _ _ => False
theorem sim_never : SimS C tNever dNever := fun _ _ _ _ _ _ _ _ _ _ _ _ _ h => h
/-! ### stores to names -/
def Rs.ent : Rs → Option Ent
  | .sh d => some (.sh d)
  | .own o => some (.own o)
  | _ => none
theorem StS.set {M : Option Addr} {Fm F0 H0 F H F1 H1 : Hp} {σ : L2.St} {env : List Ent} {n n1 i : Nat} {v : V} {r : Rs} {e : Ent} (s : StS C M Fm F0 H0 F H σ env n) (x : Ext M F H F1 H1 n1) (o : RsOk C M H F1 H1 v r) (he : r.ent = some e) (hi : i < env.length) : StS C M Fm F0 H0 F1 H1 (σ.set i (some v)) (env.set i e) n1 := by
  have s1 := s.ext x
  have hl : i < σ.length := by rw [s.e.len]; exact hi
  -- what the new thing is
  have key : EntOk C M F1 H1 (some (some v)) e ∧ ∀ o', e = .own o' → ∃ p, v = .ref p ∧ H p = none := by
    cases r with
    | sh d => cases he; exact ⟨⟨v, rfl, o⟩, fun o' z => nomatch z⟩
    | own o' =>
      cases he
      obtain ⟨p, ho, rfl, h0, h1, h2, h3⟩ := o
      exact ⟨⟨p, ho, rfl, h1, die_ne s.e.die h0, h2, h3⟩, fun _ _ => ⟨p, rfl, h0⟩⟩
    | loc o' => cases he
    | die => cases he
  have fresh : ∀ p, H p = none → H0 p = none := fun p hp => by
    cases q : H0 p with
    | none => rfl
    | some u =>
      rw [s.x.keep p u (die_ne s.e.die hp) q] at hp
      cases hp
  refine ⟨s1.e.set hl key.1, s1.m, s1.x, fun j o' p hj hp => ?_, fun j l o1 o2 p hj hk hjl hp hq => ?_⟩
  · by_cases hji : j = i
    · subst hji
      rw [List.getElem?_set_self hi] at hj
      rw [List.getElem?_set_self hl] at hp
      injection hj with hj
      injection hp with hp
      injection hp with hp
      obtain ⟨p', e', h'⟩ := key.2 o' hj
      rw [hp] at e'
      injection e' with e'
      rw [e']
      exact fresh _ h'
    · rw [List.getElem?_set_ne (fun z => hji z.symm)] at hj hp
      exact s.own j o' p hj hp
  · by_cases hji : j = i
    · subst hji
      rw [List.getElem?_set_self hi] at hj
      rw [List.getElem?_set_self hl] at hp
      rw [List.getElem?_set_ne hjl] at hk hq
      injection hj with hj
      injection hp with hp
      injection hp with hp
      obtain ⟨p', e', h'⟩ := key.2 o1 hj
      rw [hp] at e'
      injection e' with e'
      obtain ⟨p2, ho, ev, _, _, h3, _⟩ := s.e.ent l _ hk
      rw [ev] at hq
      injection hq with hq
      injection hq with hq
      injection hq with hq
      rw [hq, e', h'] at h3
      cases h3
    · rw [List.getElem?_set_ne (fun z => hji z.symm)] at hj hp
      by_cases hli : l = i
      · subst hli
        rw [List.getElem?_set_self hi] at hk
        rw [List.getElem?_set_self hl] at hq
        injection hk with hk
        injection hq with hq
        injection hq with hq
        obtain ⟨p', e', h'⟩ := key.2 o2 hk
        rw [hq] at e'
        injection e' with e'
        obtain ⟨p2, ho, ev, _, _, h3, _⟩ := s.e.ent j _ hj
        rw [ev] at hp
        injection hp with hp
        injection hp with hp
        injection hp with hp
        rw [hp, e', h'] at h3
        cases h3
      · rw [List.getElem?_set_ne (fun z => hli z.symm)] at hk hq
        exact s.dis j l o1 o2 p hj hk hjl hp hq
def dSet (i : Nat) (a : TDE) : TDS := fun E env n => a env n fun r n1 => ∃ e, r.ent = some e ∧ i < env.length ∧ E.nx (env.set i e) n1
theorem sim_set {i : Nat} {te : TE} {a : TDE} (ha : Sim C te a) : SimS C (tAsg te (gName i)) (dSet i a) := fun M Fm F0 H0 F H σ env n D E s ok h =>
  ha M F H σ env n _ _ s.e h fun r n1 v F1 H1 h1 x1 o1 => by
    obtain ⟨e, he, hi, h1⟩ := h1
    exact ok.nx F1 H1 _ _ n1 (s.set x1 o1 he hi) h1
/-- the same, frozen at once -/
def dSetF (i : Nat) (a : TDE) : TDS := fun E env n => a env n fun r n1 => r.ok = true ∧ i < env.length ∧ E.nx (env.set i (.sh r.d)) n1
theorem sim_setF {i : Nat} {te : TE} {a : TDE} (ha : Sim C te a) : SimS C (tAsg te (gName i)) (dSetF i a) := fun M Fm F0 H0 F H σ env n D E s ok h =>
  look (ta := te) ha s.e h fun r n1 v F1 H1 h1 x1 o1 => by
    obtain ⟨hok, hi, h1⟩ := h1
    exact ok.nx F1 H1 _ _ n1 (s.set (r := .sh r.d) x1 (rs_rep o1 hok) rfl hi) h1
theorem StS.off {M : Option Addr} {Fm F0 H0 F H : Hp} {σ σ' : L2.St} {env env' : List Ent} {n : Nat} (s : StS C M Fm F0 H0 F H σ env n) (s' : StE C M F H σ' env' n) (ho : ∀ (i : Nat) (o : OD), env'[i]? = some (.own o) → env[i]? = some (.own o) ∧ σ'[i]? = σ[i]?) : StS C M Fm F0 H0 F H σ' env' n := by
  refine ⟨s', s.m, s.x, fun i o p hi hp => ?_, fun i j o o' p hi hj hij hp hq => ?_⟩
  · obtain ⟨a, b⟩ := ho i o hi
    exact s.own i o p a (b ▸ hp)
  · obtain ⟨a, b⟩ := ho i o hi
    obtain ⟨c, d⟩ := ho j o' hj
    exact s.dis i j o o' p a c hij (b ▸ hp) (d ▸ hq)
/-- to any target: frozen -/
def dAsg (a : TDE) (tg : TDG) : TDS := fun E env n => a env n fun r n1 => r.ok = true ∧ ∃ env', tg r.d env = some env' ∧ E.nx env' n1
theorem sim_asg {te : TE} {g : TG} {a : TDE} {tg : TDG} {is : List Nat} (ha : Sim C te a) (hg : SimG C g tg is) : SimS C (tAsg te g) (dAsg a tg) := fun M Fm F0 H0 F H σ env n D E s ok h =>
  look (ta := te) ha s.e h fun r n1 v F1 H1 h1 x1 o1 => by
    obtain ⟨hok, env', ht, h1⟩ := h1
    have s1 := s.ext x1
    exact hg M F1 H1 σ env env' n1 v r.d _ s1.e s1.e.len (rs_rep o1 hok) ht fun σ' off s2 own len => ok.nx F1 H1 _ _ n1 (s1.off s2 own) h1
/-- a, b = e, f: names -/
def dPar (i j : Nat) (a b : TDE) : TDS := fun E env n => a env n fun r n1 => r.ok = true ∧ b env n1 fun q n2 => q.ok = true ∧ i < env.length ∧ j < env.length ∧ ∃ e, (q.ent = some e ∧ E.nx ((env.set i (.sh r.d)).set j e) n2)
theorem sim_par {i j : Nat} {ta tb : TE} {a b : TDE} (ha : Sim C ta a) (hb : Sim C tb b) : SimS C (tPar i j (tCons ta (tCons tb tNil))) (dPar i j a b) := fun M Fm F0 H0 F H σ env n D E s ok h =>
  look (ta := ta) ha s.e h fun r n1 v F1 H1 h1 x1 o1 => by
    obtain ⟨hok, h1⟩ := h1
    have s1 := s.ext x1
    refine hb M F1 H1 σ env n1 _ _ s1.e h1 fun q n2 w F2 H2 h2 x2 o2 => ?_
    obtain ⟨hok2, hi, hj, e, he, h2⟩ := h2
    refine ⟨v, w, rfl, ?_⟩
    have sA := s1.set (r := .sh r.d) (i := i) (v := v) (Ext.refl s1.e.fh s1.e.die) (rs_rep o1 hok) rfl hi
    exact ok.nx F2 H2 _ _ n2 (sA.set x2 o2 he (by rw [List.length_set]; exact hj)) h2
/-- the same, both one's own where they are new -/
def dPar2 (i j : Nat) (a b : TDE) : TDS := fun E env n => a env n fun r n1 => ∃ e, r.ent = some e ∧ i < env.length ∧ j < env.length ∧ i ≠ j ∧ b (env.set i e) n1 fun q n2 => ∃ e2, q.ent = some e2 ∧ E.nx ((env.set i e).set j e2) n2
/-- x op= e, of ints -/
def dAugI (i : Nat) (g : Int → Int → Int) (a : TDE) : TDS := fun E env n => ∃ x : Int, env[i]? = some (.sh (.int x)) ∧ a env n fun r n1 => ∃ y : Int, r = .sh (.int y) ∧ E.nx (env.set i (.sh (.int (g x y)))) n1
theorem sim_augI {i : Nat} {g : Int → Int → Int} {te : TE} {a : TDE} (ha : Sim C te a) : SimS C (tAug i te (ipI g)) (dAugI i g a) := fun M Fm F0 H0 F H σ env n D E s ok h => by
  obtain ⟨x, ex, h⟩ := h
  have hi : i < env.length := (List.getElem?_eq_some_iff.mp ex).1
  obtain ⟨v, ev, rv⟩ := s.e.ent i _ ex
  cases rv
  refine ⟨_, ev, look (ta := te) ha s.e h fun r n1 w F1 H1 h1 x1 o1 => ?_⟩
  obtain ⟨y, rfl, h1⟩ := h1
  cases o1
  exact ⟨x, y, rfl, rfl, ok.nx F1 H1 _ _ n1 (s.set (r := .sh (.int (g x y))) x1 (Rep.int _) rfl hi) h1⟩
/-! ### what one owns is changed -/
theorem StS.change {M : Option Addr} {Fm F0 H0 F H : Hp} {σ : L2.St} {env : List Ent} {n i : Nat} {p : Addr} {o o' : OD} {ho : HO} (s : StS C M Fm F0 H0 F H σ env n) (he : env[i]? = some (.own o)) (hp : σ[i]? = some (some (.ref p))) (hr : RepO C F ho o') : StS C M Fm F0 H0 F (upd H p ho) σ (env.set i (.own o')) n := by
  obtain ⟨p', ho0, ev, h1, h2, h3, h4⟩ := s.e.ent i _ he
  rw [hp] at ev
  injection ev with ev
  injection ev with ev
  injection ev with ev
  subst ev
  have hi : i < env.length := (List.getElem?_eq_some_iff.mp he).1
  have hF : ∀ b u, F b = some u → b ≠ p := fun b u e z => by rw [z, h1] at e; cases e
  have h0 := s.own i o p he hp
  have back : ∀ (j : Nat) (q : OD), (env.set i (.own o'))[j]? = some (.own q) → ∃ q', env[j]? = some (.own q') := fun j q hj => by
    by_cases hji : j = i
    · subst hji
      exact ⟨o, he⟩
    · rw [List.getElem?_set_ne (fun z => hji z.symm)] at hj
      exact ⟨q, hj⟩
  refine ⟨⟨by rw [List.length_set]; exact s.e.len, fun b u e => by rw [upd_ne (hF b u e)]; exact s.e.fh _ _ e, fun j f hf => ?_, fun d hd => ?_⟩, s.m, ⟨s.x.ff, fun b u e => by rw [upd_ne (hF b u e)]; exact s.e.fh _ _ e, fun b u hb e => ?_, s.x.new, fun d hd => ?_⟩, fun j q r hj hq => ?_, fun j l q q' r hj hl hjl hq => ?_⟩
  · by_cases hji : j = i
    · subst hji
      rw [List.getElem?_set_self hi] at hf
      cases hf
      exact ⟨p, ho, hp, h1, h2, upd_same, hr⟩
    · rw [List.getElem?_set_ne (fun z => hji z.symm)] at hf
      have := s.e.ent j f hf
      cases f with
      | own q =>
        obtain ⟨p2, ho2, ev2, a1, a2, a3, a4⟩ := this
        have hne : p2 ≠ p := fun z => by
          rw [z] at ev2
          exact s.dis i j o q p he hf (fun z => hji z.symm) hp ev2
        exact ⟨p2, ho2, ev2, a1, a2, by rw [upd_ne hne]; exact a3, a4⟩
      | _ => exact this
  · exact ⟨(s.e.die d hd).1.upd (fun z => h2 (by rw [z]; exact hd)), (s.e.die d hd).2⟩
  · rw [upd_ne (ne_of_none e h0)]
    exact s.x.keep b u hb e
  · exact ⟨(s.e.die d hd).1.upd (fun z => h2 (by rw [z]; exact hd)), (s.e.die d hd).2⟩
  · obtain ⟨q', hq'⟩ := back j q hj
    exact s.own j q' r hq' hq
  · obtain ⟨a, ha⟩ := back j q hj
    obtain ⟨b, hb⟩ := back l q' hl
    exact s.dis j l a b r ha hb hjl hq
/-- x.append(e), x one's own -/
def dAppend (i : Nat) (a : TDE) : TDS := fun E env n => ∃ ds, env[i]? = some (.own (.lst ds)) ∧ ds.length < 1000000 ∧ a env n fun r n1 => r.ok = true ∧ E.nx (env.set i (.own (.lst (ds ++ [r.d])))) n1
theorem sim_append {i : Nat} {te : TE} {a : TDE} (ha : Sim C te a) : SimS C (tDrop (tBM K "list" rAppend (tVar i) (tCons te tNil))) (dAppend i a) := fun M Fm F0 H0 F H σ env n D E s ok h => by
  have e2 := e16
  obtain ⟨ds, he, hl, h⟩ := h
  obtain ⟨p, ho, ev, h1, h2, h3, h4⟩ := s.e.ent i _ he
  obtain ⟨vs, rfl, r⟩ := h4.lst
  refine ⟨_, ev, .inl ⟨rfl, vs, .inl (.inl h3)⟩, look (ta := te) ha s.e h fun q n1 v F1 H1 k1 x1 o1 => ?_⟩
  obtain ⟨hok, k1⟩ := k1
  refine ⟨p, vs, v, rfl, rfl, x1.keep _ _ h2 h3, by rw [r.len]; omega, ?_⟩
  refine ok.nx F1 _ σ _ n1 ((s.ext x1).change (o := .lst ds) he ev ?_) k1
  exact (r.mono x1.ff).snoc (rs_rep o1 hok)
/-- x[e] = f, x a list of one's own -/
def dSetL (i : Nat) (a b : TDE) : TDS := fun E env n => ∃ ds, env[i]? = some (.own (.lst ds)) ∧ a env n fun r n1 => r.ok = true ∧ b env n1 fun q n2 => ∃ (j : Int) (m : Nat), q = .sh (.int j) ∧ ixN ds.length j = some m ∧ E.nx (env.set i (.own (.lst (ds.set m r.d)))) n2
theorem sim_setL {i : Nat} {ta tb : TE} {a b : TDE} (ha : Sim C ta a) (hb : Sim C tb b) : SimS C (tAsg ta (gSub (tVar i) tb rSetL)) (dSetL i a b) := fun M Fm F0 H0 F H σ env n D E s ok h => by
  obtain ⟨ds, he, h⟩ := h
  obtain ⟨p, ho, ev, h1, h2, h3, h4⟩ := s.e.ent i _ he
  obtain ⟨vs, rfl, r⟩ := h4.lst
  refine look (ta := ta) ha s.e h fun q n1 v F1 H1 k1 x1 o1 => ?_
  obtain ⟨hok, k1⟩ := k1
  refine ⟨_, ev, look (ta := tb) hb (s.e.ext x1) k1 fun q2 n2 w F2 H2 k2 x2 o2 => ?_⟩
  obtain ⟨j, m, rfl, hm, k2⟩ := k2
  cases o2
  have h3' := x2.keep _ _ h2 (x1.keep _ _ h2 h3)
  refine ⟨p, vs, j, m, rfl, rfl, h3', by rw [r.len]; exact hm, ?_⟩
  refine ok.nx F2 _ σ _ n2 ((s.ext (x1.trans x2)).change (o := .lst ds) he ev ?_) k2
  exact (r.mono (x1.trans x2).ff).set ((rs_rep o1 hok).mono x2.ff) m
/-- freeze what slot i owns -/
def dFrz (i : Nat) (t : TDS) : TDS := fun E env n => ∃ o, env[i]? = some (.own o) ∧ t E (env.set i (.sh o.d)) n
theorem sim_frz {i : Nat} {ts : TS} {t : TDS} (h : SimS C ts t) : SimS C ts (dFrz i t) := fun M Fm F0 H0 F H σ env n D E s ok hh => by
  obtain ⟨o, he, hh⟩ := hh
  obtain ⟨p, ho, ev, h1, h2, h3, h4⟩ := s.e.ent i _ he
  have h0 := s.own i o p he ev
  have sF := same_upd (o := ho) h1
  refine h M Fm F0 H0 (upd F p ho) H σ _ n D E ?_ ok hh
  have hi : i < env.length := (List.getElem?_eq_some_iff.mp he).1
  have x1 := s.x.freeze h0 h1 h3 h2
  have back : ∀ (j : Nat) (q : OD), (env.set i (.sh o.d))[j]? = some (.own q) → j ≠ i ∧ env[j]? = some (.own q) := fun j q hj => by
    by_cases hji : j = i
    · subst hji
      rw [List.getElem?_set_self hi] at hj
      cases hj
    · rw [List.getElem?_set_ne (fun z => hji z.symm)] at hj
      exact ⟨hji, hj⟩
  refine ⟨⟨by rw [List.length_set]; exact s.e.len, x1.fh, fun j f hf => ?_, x1.die⟩, s.m.trans sF, x1, fun j q r hj hq => ?_, fun j l q q' r hj hl hjl hq => ?_⟩
  · by_cases hji : j = i
    · subst hji
      rw [List.getElem?_set_self hi] at hf
      cases hf
      exact ⟨_, ev, RepO.rep upd_same (h4.mono sF)⟩
    · rw [List.getElem?_set_ne (fun z => hji z.symm)] at hf
      have := s.e.ent j f hf
      cases f with
      | un => exact True.intro
      | die => exact this
      | sh d =>
        obtain ⟨v, a, b⟩ := this
        exact ⟨v, a, b.mono sF⟩
      | own q =>
        obtain ⟨p2, ho2, ev2, a1, a2, a3, a4⟩ := this
        have hne : p2 ≠ p := fun z => by
          rw [z] at ev2
          exact s.dis i j o q p he hf (fun z => hji z.symm) ev ev2
        exact ⟨p2, ho2, ev2, by rw [upd_ne hne]; exact a1, a2, a3, a4.mono sF⟩
  · exact s.own j q r (back j q hj).2 hq
  · exact s.dis j l q q' r (back j q hj).2 (back l q' hl).2 hjl hq
/-! ### loops -/
def forR (tg : TDG) (tb : TDS) (E : DEnds) : List D → List Ent → Nat → Prop
  | [], env, n => E.nx env n
  | x :: r, env, n => ∃ env', tg x env = some env' ∧ tb { E with nx := forR tg tb E r, ct := forR tg tb E r, bk := E.nx } env' n
def dFor (i : TDI) (tg : TDG) (tb : TDS) : TDS := fun E env n => i env n fun xs st n1 => st = true ∧ forR tg tb E xs env n1
theorem sim_for {wi : TI} {g : TG} {tb : TS} {i : TDI} {tg : TDG} {b : TDS} {is : List Nat} (hi : SimI C wi i) (hg : SimG C g tg is) (hb : SimS C tb b) : SimS C (tFor wi g tb) (dFor i tg b) := fun M Fm F0 H0 F H σ env n D E s ok h => by
  refine hi M F H σ env n _ _ s.e h fun xs st n1 F1 H1 J h1 x1 ⟨w⟩ => ?_
  obtain ⟨rfl, h1⟩ := h1
  refine ⟨fun j m σ2 H2 => m = xs.length - j ∧ j ≤ xs.length ∧ ∃ (F2 : Hp) (env2 : List Ent) (n2 : Nat), StS C M F1 F0 H0 F2 H2 σ2 env2 n2 ∧ forR tg b E (xs.drop j) env2 n2, ⟨xs.length, rfl, Nat.zero_le _, F1, env, n1, ⟨(s.ext x1).e, Same.refl _, (s.ext x1).x, (s.ext x1).own, (s.ext x1).dis⟩, h1⟩, ?_⟩
  have hm1 : Same Fm F1 := (s.ext x1).m
  rintro j m σ2 H2 ⟨rfl, hj, F2, env2, n2, s2, hr⟩
  have g2 : w.G H2 := w.stab rfl F2 H2 s2.m s2.e.fh
  by_cases hlt : j < xs.length
  · have ex : xs.drop j = xs[j] :: xs.drop (j + 1) := List.drop_eq_getElem_cons hlt
    rw [ex] at hr
    obtain ⟨env', het, hr⟩ := hr
    refine .inr ⟨w.goes j H2 hlt g2, fun σ3 H3 => ∃ (F3 : Hp) (env3 : List Ent) (n3 : Nat), StS C M F1 F0 H0 F3 H3 σ3 env3 n3 ∧ forR tg b E (xs.drop (j + 1)) env3 n3, fun σ3 H3 h3 => ⟨xs.length - (j + 1), by omega, rfl, hlt, h3⟩, fun x H3 y => ?_⟩
    obtain ⟨F3, x3, rx⟩ := w.yields j F2 H2 n2 x H3 xs[j] s2.m s2.e.fh s2.e.die g2 (List.getElem?_eq_getElem hlt) y
    have s3 := s2.ext x3
    refine hg M F3 H3 σ2 env2 env' n2 x xs[j] _ s3.e s3.e.len rx het fun σ' off s4 own len => ?_
    refine hb M F1 F0 H0 F3 H3 σ' env' n2 _ { E with nx := forR tg b E (xs.drop (j + 1)), ct := forR tg b E (xs.drop (j + 1)), bk := E.nx } (s3.off s4 own) ⟨fun F4 H4 σ4 env4 n4 s4 h4 => ⟨F4, env4, n4, s4, h4⟩, fun F4 H4 σ4 env4 n4 s4 h4 => ?_, fun F4 H4 σ4 env4 n4 s4 h4 => ⟨F4, env4, n4, s4, h4⟩, ok.rt⟩ hr
    exact ok.nx F4 H4 σ4 env4 n4 ⟨s4.e, hm1.trans s4.m, s4.x, s4.own, s4.dis⟩ h4
  · have ej : j = xs.length := by omega
    subst ej
    rw [List.drop_length] at hr
    exact .inl ⟨w.stops H2 g2, ok.nx F2 H2 σ2 env2 n2 ⟨s2.e, hm1.trans s2.m, s2.x, s2.own, s2.dis⟩ hr⟩
/-- by an invariant -/
theorem forR_inv {tg : TDG} {tb : TDS} {E : DEnds} (I : Nat → List Ent → Nat → Prop) {xs : List D} {env : List Ent} {n : Nat} (h0 : I 0 env n)
    (hs : ∀ (i : Nat) (x : D) (env : List Ent) (n : Nat), xs[i]? = some x → I i env n → ∃ env', tg x env = some env' ∧ ∀ E' : DEnds, E'.nx = I (i + 1) → E'.ct = I (i + 1) → E'.bk = E.nx → E'.rt = E.rt → tb E' env' n)
    (mono : ∀ (E1 E2 : DEnds) env n, (∀ e m, E1.nx e m → E2.nx e m) → (∀ e m, E1.ct e m → E2.ct e m) → (∀ e m, E1.bk e m → E2.bk e m) → (∀ r m, E1.rt r m → E2.rt r m) → tb E1 env n → tb E2 env n)
    (hd : ∀ env n, I xs.length env n → E.nx env n) : forR tg tb E xs env n := by
  have key : ∀ (m : Nat) (j : Nat) (env : List Ent) (n : Nat), j + m = xs.length → I j env n → forR tg tb E (xs.drop j) env n := fun m => by
    induction m with
    | zero =>
      intro j env n hj hI
      have : j = xs.length := by omega
      subst this
      rw [List.drop_length]
      exact hd env n hI
    | succ m ih =>
      intro j env n hj hI
      have hlt : j < xs.length := by omega
      rw [List.drop_eq_getElem_cons hlt]
      obtain ⟨env', e1, e2⟩ := hs j _ env n (List.getElem?_eq_getElem hlt) hI
      refine ⟨env', e1, mono ⟨I (j + 1), E.rt, E.nx, I (j + 1)⟩ _ env' n (fun e q h => ih (j + 1) e q (by omega) h) (fun e q h => ih (j + 1) e q (by omega) h) (fun e q h => h) (fun r q h => h) (e2 _ rfl rfl rfl rfl)⟩
  exact key xs.length 0 env n (by omega) h0
/-- while -/
def dWhile (p : TDT) (tb : TDS) : TDS := fun E env n => ∃ W : Nat → List Ent → Nat → Prop, (∃ m, W m env n) ∧ ∀ m env n, W m env n → p env n fun b n1 => if b = true then tb { E with nx := fun e q => ∃ m', m' < m ∧ W m' e q, ct := fun e q => ∃ m', m' < m ∧ W m' e q, bk := E.nx } env n1 else E.nx env n1
theorem sim_while {tc : TT} {tb : TS} {p : TDT} {b : TDS} (hp : SimT C tc p) (hb : SimS C tb b) : SimS C (tWhile tc tb) (dWhile p b) := fun M Fm F0 H0 F H σ env n D E s ok h => by
  obtain ⟨W, ⟨m0, h0⟩, hW⟩ := h
  refine ⟨fun m σ2 H2 => ∃ (F2 : Hp) (env2 : List Ent) (n2 : Nat), StS C M Fm F0 H0 F2 H2 σ2 env2 n2 ∧ W m env2 n2, ⟨m0, F, env, n, s, h0⟩, ?_⟩
  rintro m σ2 H2 ⟨F2, env2, n2, s2, hw⟩
  refine hp M F2 H2 σ2 env2 n2 _ _ s2.e (hW m env2 n2 hw) fun c n3 F3 H3 h3 x3 => ?_
  cases c with
  | false => exact iteF (ok.nx F3 H3 σ2 env2 n3 (s2.ext x3) (by simpa using h3))
  | true =>
    refine iteT ⟨fun σ4 H4 => ∃ m', m' < m ∧ ∃ (F2 : Hp) (env2 : List Ent) (n2 : Nat), StS C M Fm F0 H0 F2 H4 σ4 env2 n2 ∧ W m' env2 n2, fun σ4 H4 ⟨m', a, b⟩ => ⟨m', a, b⟩, ?_⟩
    refine hb M Fm F0 H0 F3 H3 σ2 env2 n3 _ { E with nx := fun e q => ∃ m', m' < m ∧ W m' e q, ct := fun e q => ∃ m', m' < m ∧ W m' e q, bk := E.nx } (s2.ext x3) ⟨fun F4 H4 σ4 env4 n4 s4 ⟨m', a, h4⟩ => ⟨m', a, F4, env4, n4, s4, h4⟩, fun F4 H4 σ4 env4 n4 s4 h4 => ok.nx F4 H4 σ4 env4 n4 s4 h4, fun F4 H4 σ4 env4 n4 s4 ⟨m', a, h4⟩ => ⟨m', a, F4, env4, n4, s4, h4⟩, ok.rt⟩ (by exact (if_pos rfl).mp h3)
/-! ### the whole def -/
def Ar.ent : Ar → Ent
  | .d x => .sh x
  | .die => .die
def dEnds (k : Rs → Nat → Prop) : DEnds := { nx := fun _ n => k (.sh .non) n, rt := k }
/-- a def's body keeps its promise in data -/
theorem enter {N : List Str} {ts : TS} {t : TDS} {m : Nat} {f : DSp} {vs : List V} {H : Hp} {Q : VK} {E : XK} (ht : SimS C ts t) (h : spD C m f vs H Q E) (hf : ∀ as n k, as.length = m → f as n k → t (dEnds k) (as.map Ar.ent ++ List.replicate (N.length - m) .un) n) : ts { nx := fun _ H' => Q .non H', rt := Q } (L2.start N vs) H := by
  have hvm := spD_len h
  obtain ⟨M, F, n, as, k, hm, fh, dk, ha, h, hk⟩ := h
  have hlen := ha.len
  subst hvm
  have hv : ∀ {vs as}, ArAll C M F vs as → ∀ (i : Nat) (e : Ent), (as.map Ar.ent)[i]? = some e → EntOk C M F H ((vs.map some)[i]?) e := fun {vs as} ha => by
    induction ha with
    | nil => intro i e h; simp at h
    | @cons v vs a as r _ ih =>
      intro i e h
      cases i with
      | zero =>
        simp at h
        subst h
        cases a with
        | d d =>
          show ∃ w, some (some v) = some (some w) ∧ Rep C F w d
          exact ⟨v, rfl, r⟩
        | die =>
          obtain ⟨p, a, rfl⟩ := r
          show ∃ b, M = some b ∧ some (some (V.ref p)) = some (some (V.ref b))
          exact ⟨p, a, rfl⟩
      | succ i => exact ih i e (by simpa using h)
  have st : StE C M F H (L2.start N vs) (as.map Ar.ent ++ List.replicate (N.length - vs.length) .un) n := by
    refine ⟨?_, fh, fun i e he => ?_, dk⟩
    · unfold L2.start
      rw [List.length_append, List.length_append, List.length_map, List.length_map, hlen, List.length_replicate, List.length_replicate]
    · unfold L2.start
      by_cases hi : i < as.length
      · rw [List.getElem?_append_left (by rw [List.length_map]; exact hi)] at he
        rw [List.getElem?_append_left (by rw [List.length_map, hlen]; exact hi)]
        exact hv ha i e he
      · rw [List.getElem?_append_right (by rw [List.length_map]; omega)] at he
        have := List.mem_of_getElem? he
        rw [List.eq_of_mem_replicate this]
        exact True.intro
  have noown : ∀ (i : Nat) (o : OD), (as.map Ar.ent ++ List.replicate (N.length - vs.length) Ent.un)[i]? = some (.own o) → False := fun i o he => by
    have := List.mem_of_getElem? he
    rcases List.mem_append.mp this with h | h
    · obtain ⟨a, _, e⟩ := List.mem_map.mp h
      cases a <;> cases e
    · have := List.eq_of_mem_replicate h
      cases this
  refine ht M F F H F H _ _ n _ (dEnds k) ⟨st, Same.refl _, Ext.refl fh dk, fun i o p he => absurd he (fun z => noown i o z), fun i j o o' p he => absurd he (fun z => noown i o z)⟩ ⟨fun F' H' σ' env' n' s' h' => hk _ n' _ F' H' h' s'.x Rep.non, fun _ _ _ _ _ _ h => h.elim, fun _ _ _ _ _ _ h => h.elim, fun r n v F' H' h' x' o' => hk r n v F' H' h' x' o'⟩ (hf as n k hm h)
end
end K4
set_option Elab.async false
set_option linter.all false
set_option maxRecDepth 100000
set_option maxHeartbeats 4000000
namespace K4
open PySem PySem.Spec PyProof.Rows L2 K4M
theorem strip_some {w : List Nat} {y : Str} (h : ¬ ∀ c ∈ w, y.cps.contains c = true) : Txt.stripChars (S w) y ≠ S [] := by
  have hd : w.dropWhile y.cps.contains ≠ [] := fun z => by
    refine h fun c hc => ?_
    have e := List.takeWhile_append_dropWhile (p := y.cps.contains) (l := w)
    rw [z, List.append_nil] at e
    rw [← e] at hc
    exact List.all_eq_true.mp (List.all_takeWhile (p := y.cps.contains) (l := w)) c hc
  obtain ⟨a, r, ear⟩ : ∃ a r, w.dropWhile y.cps.contains = a :: r := by
    cases z : w.dropWhile y.cps.contains with
    | nil => exact absurd z hd
    | cons a r => exact ⟨a, r, rfl⟩
  have ha : y.cps.contains a = false := by
    have := List.head_dropWhile_not (p := y.cps.contains) hd
    simp only [ear, List.head_cons] at this
    exact this
  have esplit := List.takeWhile_append_dropWhile (p := y.cps.contains) (l := w)
  rw [ear] at esplit
  have hlen : w.length = (w.takeWhile y.cps.contains).length + (r.length + 1) := by
    have := congrArg List.length esplit
    rw [List.length_append, List.length_cons] at this
    exact this.symm
  have edrop : w.drop (w.takeWhile y.cps.contains).length = a :: r := by
    have := congrArg (List.drop (w.takeWhile y.cps.contains).length) esplit
    rw [List.drop_left] at this
    exact this.symm
  have e1 : stripLo y.cps.contains true (S w) = (w.takeWhile y.cps.contains).length := rfl
  have hback : ((a :: r).reverse.takeWhile y.cps.contains).length ≤ r.length := by
    rw [List.reverse_cons]
    have := List.takeWhile_append (p := y.cps.contains) (xs := r.reverse) (ys := [a])
    rw [this]
    split
    · rw [List.takeWhile_cons, if_neg (by rw [ha]; exact Bool.false_ne_true), List.append_nil, List.length_reverse]
      exact Nat.le_refl _
    · have z := (List.takeWhile_sublist (p := y.cps.contains) (l := r.reverse)).length_le
      rw [List.length_reverse] at z
      exact z
  have e2 : stripHi y.cps.contains true (S w) (w.takeWhile y.cps.contains).length = w.length - ((a :: r).reverse.takeWhile y.cps.contains).length := by
    show (S w).length - ((w.drop (w.takeWhile y.cps.contains).length).reverse.takeWhile y.cps.contains).length = _
    rw [edrop, S_len]
  unfold Txt.stripChars Txt.stripBy
  split
  · intro z
    have := S_inj z
    rw [this] at hlen
    simp at hlen
  · unfold stripped
    rw [e1, e2]
    intro z
    have z2 := congrArg Str.length z
    have : (Builtin.Str.strSub (S w) (w.takeWhile y.cps.contains).length (w.length - ((a :: r).reverse.takeWhile y.cps.contains).length)).length = w.length - ((a :: r).reverse.takeWhile y.cps.contains).length - (w.takeWhile y.cps.contains).length := by
      show (w.toArray.extract _ _).size = _
      rw [Array.size_extract, List.size_toArray]
      omega
    rw [this] at z2
    have z3 : (S []).length = 0 := rfl
    omega
end K4
set_option Elab.async false
set_option linter.all false
set_option maxRecDepth 100000
set_option maxHeartbeats 4000000
namespace K4
open PySem PySem.Spec PyProof.Rows L2 K4M
/-! ### lists of letters -/
def letl : List Nat := List.range' 97 26
theorem letS : LET = S letl := by decide +kernel
theorem letl_at {r : Nat} (h : r < 26) : letl[r]? = some (97 + r) := by
  unfold letl
  rw [List.getElem?_range' h]
  congr 1
  omega
theorem letl_mem {c : Nat} : c ∈ letl ↔ 97 ≤ c ∧ c ≤ 122 := by
  unfold letl
  rw [List.mem_range'_1]
  omega
theorem letl_nodup : letl.Nodup := by unfold letl; exact List.nodup_range'
theorem sig_len (w : List Nat) : (signsV w).length = w.length := List.length_map _
theorem sig_at {w : List Nat} {i : Nat} {x : V} (h : (signsV w)[i]? = some x) : ∃ c, w[i]? = some c ∧ x = V.str (S [c]) := by
  unfold signsV at h
  rw [List.getElem?_map] at h
  cases e : w[i]? with
  | none => rw [e] at h; cases h
  | some c => rw [e] at h; exact ⟨c, rfl, (Option.some.inj h).symm⟩
theorem sig_app (u v : List Nat) : signsV (u ++ v) = signsV u ++ signsV v := List.map_append
theorem inV_sig (c : Nat) (w : List Nat) : inV (.str (S [c])) (signsV w) = w.contains c := by
  unfold inV signsV
  rw [List.any_map]
  rw [Bool.eq_iff_iff, List.any_eq_true, List.contains_iff_mem]
  constructor
  · rintro ⟨x, hx, h⟩
    have h2 : (S [x] == S [c]) = true := h
    have := S_inj (eq_of_beq h2)
    injection this with e1 _
    rw [← e1]
    exact hx
  · intro h
    exact ⟨c, h, beq_self_eq_true (S [c])⟩
theorem sig_flat (w : List Nat) : (signsV w).all flatV = true := by
  unfold signsV
  rw [List.all_map, List.all_eq_true]
  intro x _
  rfl
theorem filter_ne {found : List Nat} : ∀ (l : List Nat), l.Nodup → found.length < l.length → ∃ c r, l.filter (fun x => !found.contains x) = c :: r ∧ c ∈ l ∧ ¬ c ∈ found := by
  intro l nd hl
  cases e : l.filter (fun x => !found.contains x) with
  | cons c r =>
    have hm : c ∈ l.filter (fun x => !found.contains x) := by rw [e]; exact List.mem_cons_self ..
    rw [List.mem_filter] at hm
    refine ⟨c, r, rfl, hm.1, fun z => ?_⟩
    have := List.contains_iff_mem.mpr z
    rw [this] at hm
    exact absurd hm.2 Bool.false_ne_true
  | nil =>
    exfalso
    have all : ∀ x ∈ l, x ∈ found := fun x hx => by
      apply Classical.byContradiction
      intro hn
      have : x ∈ l.filter (fun x => !found.contains x) := by
        rw [List.mem_filter]
        refine ⟨hx, ?_⟩
        have : found.contains x = false := by
          rw [Bool.eq_false_iff]
          intro z
          exact hn (List.contains_iff_mem.mp z)
        rw [this]
        rfl
      rw [e] at this
      cases this
    have key : ∀ (l found : List Nat), l.Nodup → (∀ x ∈ l, x ∈ found) → l.length ≤ found.length := by
      intro l
      induction l with
      | nil => intro found _ _; exact Nat.zero_le _
      | cons x r ih =>
        intro found nd h
        rw [List.nodup_cons] at nd
        have hx := h x (List.mem_cons_self ..)
        have h1 := ih (found.erase x) nd.2 fun y hy => by
          have hyx : y ≠ x := fun z => nd.1 (z ▸ hy)
          exact (List.mem_erase_of_ne hyx).mpr (h y (List.mem_cons_of_mem _ hy))
        rw [List.length_erase_of_mem hx] at h1
        have hp : 0 < found.length := List.length_pos_of_mem hx
        rw [List.length_cons]
        omega
    have := key l found nd all
    omega
/-- texts of one sign each, in some order -/
theorem ones_of : ∀ {ys : List Str} {ls : List Nat}, (∀ y ∈ ys, ∃ c ∈ ls, y = S [c]) → ∃ ls' : List Nat, ys = ls'.map (fun c => S [c]) ∧ ∀ c ∈ ls', c ∈ ls
  | [], _, _ => ⟨[], rfl, fun _ h => nomatch h⟩
  | y :: r, ls, h => by
    obtain ⟨c, hc, e⟩ := h y (List.mem_cons_self ..)
    obtain ⟨ls', e', h'⟩ := ones_of (ys := r) (ls := ls) fun z hz => h z (List.mem_cons_of_mem _ hz)
    refine ⟨c :: ls', by rw [e, e']; rfl, fun d hd => ?_⟩
    rcases List.mem_cons.mp hd with rfl | hd
    · exact hc
    · exact h' d hd
theorem join_words (ws : List (List Nat)) : Txt.join Str.empty (ws.map S) = S ws.flatten := by
  show Builtin.Str.glued Str.empty (ws.map S) = _
  rw [StrLaws.glued_eq_join]
  have key : ∀ ws : List (List Nat), Str.join Str.empty (ws.map S) = S ws.flatten := fun ws => by
    induction ws with
    | nil => rfl
    | cons u r ih =>
      cases r with
      | nil =>
        show S u = S (u ++ [])
        rw [List.append_nil]
      | cons v r =>
        show (S u ++ Str.empty) ++ Str.join Str.empty ((v :: r).map S) = _
        rw [ih, S_empty, S_app, S_app, List.append_nil]
        rfl
  exact key ws
theorem flatten_ones (ls : List Nat) : (ls.map fun c => [c]).flatten = ls := by
  induction ls with
  | nil => rfl
  | cons c r ih => rw [List.map_cons, List.flatten_cons, ih]; rfl
theorem join_ones (ls : List Nat) : Txt.join Str.empty (ls.map fun c => S [c]) = S ls := by
  have := join_words (ls.map fun c => [c])
  rw [List.map_map, flatten_ones] at this
  exact this
theorem rising_le : ∀ (ls : List Nat) (p : Nat), risingS (S [p]) (ls.map fun c => S [c]) = true → (p :: ls).Pairwise (· ≤ ·)
  | [], p, _ => by simp
  | x :: r, p, h => by
    have h' : (!ltCps (S [x]).cps.toList (S [p]).cps.toList && risingS (S [x]) (r.map fun c => S [c])) = true := h
    rw [Bool.and_eq_true] at h'
    have ih := rising_le r x h'.2
    have hpx : p ≤ x := by
      have h1 : ltCps [x] [p] = false := by
        have := h'.1
        rw [Bool.not_eq_true'] at this
        exact this
      apply Nat.le_of_not_lt
      intro hlt
      have : ltCps [x] [p] = true := by
        simp [ltCps, hlt]
      rw [this] at h1
      cases h1
    rw [List.pairwise_cons]
    refine ⟨fun y hy => ?_, ih⟩
    rcases List.mem_cons.mp hy with rfl | hy
    · exact hpx
    · exact Nat.le_trans hpx ((List.pairwise_cons.mp ih).1 y hy)
theorem sorted_lt {ls : List Nat} (nd : ls.Nodup) (h : sortedS (ls.map fun c => S [c]) = true) : ls.Pairwise (· < ·) := by
  have hle : ls.Pairwise (· ≤ ·) := by
    cases ls with
    | nil => exact List.Pairwise.nil
    | cons x r => exact rising_le r x h
  have h2 : ls.Pairwise (fun a b => a ≠ b) := nd
  exact (List.Pairwise.and hle h2).imp fun {a b} z => by omega
end K4
set_option Elab.async false
set_option linter.all false
set_option maxRecDepth 100000
set_option maxHeartbeats 4000000
namespace K4
open PySem PySem.Spec PyProof.Rows L2 K4M
section
variable {P : Program} {w : World} {K : PySem.W.Frag} {mg : Str → Option Value} {base : Heap}
theorem Dice.ne {H : Hp} {d p : Addr} {n : Nat} (h : Dice H d n) (hp : H p = none) : p ≠ d := fun z => by
  obtain ⟨o, ho⟩ := h.some
  rw [← z, hp] at ho
  cases ho
/-! ### letters -/
theorem sc_letters : FnScope ["dice", "many", "found", "spin", "late", "sign"] ["dice", "many"] (defScope st__law_letters) := ⟨rfl, rfl, rfl, by decide +kernel, rfl, by decide +kernel, by decide +kernel⟩
def spLetters : Sp := fun vs H Q _ => ∃ (d : Addr) (m n : Nat), vs = [.ref d, .int (m : Int)] ∧ Dice H d n ∧ n < 2 ^ 58 ∧ m ≤ 26 ∧ ∀ (u : List Nat) (H' : Hp), u.length = m → Low u → u.Pairwise (· < ·) → Dice H' d (n + m) → Kept H H' d → Q (.str (S u)) H'
theorem ok_letters (B : Bi mg) (D : Df K mg "_law_letters" st__law_letters ["dice", "many"]) (CD : Cal P w K mg base 2 "_law_draw" ["dice", "many"] spDraw) : FnOk P w K mg base CX0 3 D.f D.fd ["dice", "many"] spLetters := by
  refine D.F.ok sc_letters (fun vs H Q E h => ?_) (fun cdv A outer s' H vs Q E hr h => ?_)
  · obtain ⟨d, m, n, rfl, _⟩ := h
    rfl
  · obtain ⟨d, m, n, rfl, hD, hn, hm, q⟩ := h
    refine ⟨_, pss_cons (ps_set (i := 2) sc_letters.nd rfl (.inr rfl) (pe_lst pa_nil))
      (pss_cons (ps_for PassesOwn.never rfl (pi_range1 (by rfl) B.range (pa_cons (pv 1) pa_nil)) (pg_name (i := 3) sc_letters.nd rfl (.inl rfl))
        (pss_cons (ps_set (i := 4) sc_letters.nd rfl (.inl rfl) (pe_ix ix_str pe_str (pcall CD hr (by rfl) (pa_cons (pv 0) (pa_cons pe_int pa_nil))) (fun _ _ => rfl)))
        (pss_one (ps_expr (pe_bm PySem.F.plainAttrs_list PySem.F.slot_list_append PySem.F.type_list_append mt_append (pv 2) (pa_cons (pe_ifExp (pt_cmpR op_notIn_seq (pv 4) (pv 2) rfl) (pv 4)
          (pe_ix ix_list (pe_lc (own := [("sign", 5)]) (g := gName 5) rfl sc_letters.nd (pi_list (pe_callTy (call_listS rfl) (by rfl) B.list (by decide +kernel) (pa_cons pe_str pa_nil)))
            (blkOk_by (N := ["dice", "many", "found", "spin", "late", "sign"]) (sc := defScope st__law_letters) (by decide +kernel))
            (fun _ _ _ _ _ => pg_name (i := 5) sc_letters.nd rfl (.inl rfl))
            (fun _ _ _ _ _ => pts_one (pt_cmpR (r := rIn K true) op_notIn_seq (pv 5) (pv 2) rfl))
            (fun _ _ _ _ _ => pv 5)) pe_int (fun _ _ => rfl))) pa_nil))))))
      (pss_one (ps_ret (pe_join pe_str (pe_callB cr_sortedS (by rfl) B.sorted (by decide +kernel) (pa_cons (pv 2) pa_nil)))))), ?_⟩
    have e16 : sizeLine = 16777216 := by decide
    refine ⟨Nat.zero_le _, fun F hF => ?_⟩
    have hFd : F ≠ d := hD.ne hF
    refine ⟨_, rfl, (m : Int), rfl, by omega, by omega, ?_⟩
    refine for_range (lo := 0) (n := (m : Int).toNat) (fun i σ H2 => ∃ (ls : List Nat) (y3 y4 : Option V), σ = [some (.ref d), some (.int m), some (.ref F), y3, y4, none] ∧ ls.length = i ∧ Low ls ∧ ls.Nodup ∧ H2 F = some (.lst (signsV ls)) ∧ Dice H2 d (n + i) ∧ ∀ b o, b ≠ d → b ≠ F → H b = some o → H2 b = some o)
      ⟨[], none, none, rfl, rfl, (fun _ h => by cases h), List.nodup_nil, upd_same, Same.dice (same_upd hF) hD, fun b o h1 h2 e => by rw [upd_ne h2]; exact e⟩ ?_ ?_
    · rintro i σ H2 hi ⟨ls, y3, y4, rfl, hl, hlow, hnd, hF2, hD2, kp⟩
      have hi26 : i < 26 := by omega
      refine ⟨_, rfl, d, 26, n + i, rfl, hD2, by omega, by decide, by decide, fun r H3 r0 r1 hD3 k3 => ?_⟩
      have er : r = ((r.toNat : Nat) : Int) := by omega
      have hr26 : r.toNat < 26 := by omega
      refine ⟨LET, r, 97 + r.toNat, rfl, rfl, by rw [letS, S_len]; show 26 ≤ sizeLine; decide, ?_, ?_⟩
      · have z := atI_nat (letl_at hr26)
        rw [← er] at z
        rw [letS]
        exact z
      have hF3 : H3 F = some (.lst (signsV ls)) := k3 _ _ hFd hF2
      have hSF : SqL K H3 F (signsV ls) := .inl (.inl hF3)
      have k3' : ∀ b o, b ≠ d → b ≠ F → H b = some o → H3 b = some o := fun b o h1 h2 e => k3 b o h1 (kp b o h1 h2 e)
      -- behind the choice of a letter c that is not there
      have put : ∀ (c : Nat) (H4 : Hp), 97 ≤ c → c ≤ 122 → ¬ c ∈ ls → Same H3 H4 → ∃ (ls' : List Nat) (y3 y4 : Option V), ([some (.ref d), some (.int m), some (.ref F), some (.int (0 + (i : Int))), some (.str (S [97 + r.toNat])), none] : L2.St) = [some (.ref d), some (.int m), some (.ref F), y3, y4, none] ∧ ls'.length = i + 1 ∧ Low ls' ∧ ls'.Nodup ∧ (upd H4 F (.lst (signsV ls ++ [.str (S [c])]))) F = some (.lst (signsV ls')) ∧ Dice (upd H4 F (.lst (signsV ls ++ [.str (S [c])]))) d (n + (i + 1)) ∧ ∀ b o, b ≠ d → b ≠ F → H b = some o → (upd H4 F (.lst (signsV ls ++ [.str (S [c])]))) b = some o := fun c H4 c1 c2 c3 s4 => by
        refine ⟨ls ++ [c], _, _, rfl, by rw [List.length_append, hl]; rfl, fun x hx => ?_, ?_, by rw [upd_same, sig_app]; rfl, ?_, fun b o h1 h2 e => ?_⟩
        · rcases List.mem_append.mp hx with hx | hx
          · exact hlow x hx
          · rw [List.mem_singleton.mp hx]
            exact ⟨c1, c2⟩
        · rw [List.nodup_append]
          refine ⟨hnd, List.nodup_cons.mpr ⟨List.not_mem_nil, List.nodup_nil⟩, fun x hx y hy => ?_⟩
          rw [List.mem_singleton.mp hy]
          intro z
          exact c3 (z ▸ hx)
        · obtain ⟨a1, a2, a3, a4, e1, r⟩ := Same.dice s4 hD3
          exact ⟨a1, a2, a3, a4, by rw [upd_ne hFd.symm]; exact e1, r⟩
        · rw [upd_ne h2]
          exact s4 _ _ (k3' b o h1 h2 e)
      refine ⟨_, rfl, .inl ⟨rfl, _, hSF⟩, ?_⟩
      refine ⟨_, rfl, _, rfl, F, _, rfl, .inl hSF, rfl, sig_flat _, _, rfl, ?_⟩
      rw [if_pos (show (true : Bool) = true from rfl)]
      show (if (!inV (.str (S [97 + r.toNat])) (signsV ls)) = true then _ else _)
      rw [inV_sig]
      cases hb : ls.contains (97 + r.toNat) with
      | false =>
        refine iteT ⟨_, rfl, F, _, _, rfl, rfl, hF3, by rw [sig_len]; omega, ?_⟩
        refine put _ H3 (by omega) (by omega) (fun z => ?_) (Same.refl _)
        rw [List.contains_iff_mem.mpr z] at hb
        cases hb
      | true =>
        refine iteF ?_
        refine ⟨letl, by rw [← letS], by show 26 ≤ 1000; decide, fun L hL => ?_⟩
        have s4 : Same H3 (upd H3 L (.lst (signsV letl))) := same_upd hL
        refine ⟨L, rfl, ⟨_, .inl (.inl upd_same)⟩, fun DD hD4 => ?_⟩
        have hD3' : H3 DD = none := s4.free hD4
        have hLD : L ≠ DD := fun z => by
          rw [← z, upd_same] at hD4
          cases hD4
        refine lc_list (K := K) (a := L) (xs := signsV letl) (fun j H5 => Same H3 H5 ∧ H5 L = some (.lst (signsV letl)) ∧ H5 DD = some (.lst (signsV ((letl.take j).filter fun x => !ls.contains x))))
          ⟨s4.trans (same_upd hD4), by rw [upd_ne hLD, upd_same], upd_same⟩ (fun j H5 _ z => .inl (.inl z.2.1)) ?_ ?_
        · rintro j x H5 hx ⟨t1, t2, t3⟩
          obtain ⟨c, hc, rfl⟩ := sig_at hx
          refine ⟨rfl, _, rfl, _, rfl, F, _, rfl, .inl (t1.seq hSF), rfl, sig_flat _, _, rfl, ?_⟩
          rw [if_pos (show (true : Bool) = true from rfl)]
          rw [inV_sig]
          refine ?_
          cases hb2 : ls.contains c with
          | false =>
            refine iteT ⟨_, rfl, _, t3, ?_, fun b o e => ?_, ?_, ?_⟩
            · rw [sig_len]
              have h1 := List.length_filter_le (fun x => !ls.contains x) (letl.take j)
              have h2 : (letl.take j).length ≤ 26 := by
                rw [List.length_take]
                show min j 26 ≤ 26
                omega
              omega
            · rw [upd_ne (ne_of_none e hD3')]
              exact t1 b o e
            · rw [upd_ne hLD]
              exact t2
            · rw [upd_same, filter_take hc, hb2]
              unfold signsV
              rw [List.map_append]
              rfl
          | true =>
            refine iteF ⟨t1, t2, ?_⟩
            rw [t3, filter_take hc, hb2]
            simp
        · rintro H5 ⟨t1, t2, t3⟩
          rw [sig_len, List.take_length] at t3
          obtain ⟨c, rr, ec, hcl, hcn⟩ := filter_ne (found := ls) letl letl_nodup (by show ls.length < 26; omega)
          rw [ec] at t3
          refine ⟨DD, _, 0, .str (S [c]), rfl, rfl, .inl (.inl t3), atI_nat (j := 0) rfl, F, _, _, rfl, rfl, t1 _ _ hF3, by rw [sig_len]; omega, ?_⟩
          have hcb := letl_mem.mp hcl
          exact put c H5 hcb.1 hcb.2 hcn t1
    · rintro σ H2 ⟨ls, y3, y4, rfl, hl, hlow, hnd, hF2, hD2, kp⟩
      have em : (m : Int).toNat = m := by omega
      rw [em] at hl hD2
      have e1 : signsV ls = (ls.map fun c => S [c]).map V.str := by
        unfold signsV
        rw [List.map_map]
        rfl
      refine ⟨⟨_, rfl⟩, _, rfl, F, ls.map (fun c => S [c]), rfl, .inl (.inl (by rw [hF2, e1])), by rw [List.length_map]; omega, fun ys p hperm hsort hp => ?_⟩
      obtain ⟨ls', e2, hsub⟩ := ones_of (ys := ys) (ls := ls) fun y hy => by
        obtain ⟨c, hc, e⟩ := List.mem_map.mp (hperm.mem_iff.mp hy)
        exact ⟨c, hc, e.symm⟩
      have hlen : ls'.length = ls.length := by
        have := hperm.length_eq
        rw [e2, List.length_map, List.length_map] at this
        exact this
      have hnd' : ls'.Nodup := by
        have h1 : (ls.map fun c => S [c]).Nodup := by
          rw [List.nodup_iff_pairwise_ne, List.pairwise_map]
          exact hnd.imp fun {a b} h z => h (by have := S_inj z; injection this)
        have h2 : ys.Nodup := hperm.nodup_iff.mpr h1
        rw [e2] at h2
        rw [List.nodup_iff_pairwise_ne, List.pairwise_map] at h2
        exact h2.imp fun {a b} h z => h (by rw [z])
      rw [e2] at hsort
      refine ⟨Str.empty, p, ys, rfl, rfl, .inl (.inl (.inl upd_same)), ?_, ?_⟩
      · rw [e2, List.map_map, List.length_map]
        have : (ls'.map ((fun x => x.length) ∘ fun c => S [c])).sum = ls'.length := by
          clear e2 hlen hnd' hsort hsub
          induction ls' with
          | nil => rfl
          | cons a r ih => rw [List.map_cons, List.sum_cons, ih, List.length_cons]; show 1 + _ = _; omega
        rw [this]
        show ls'.length + ls'.length * 0 ≤ 16777216
        omega
      · rw [e2, join_ones]
        refine q ls' _ (by omega) (fun c hc => hlow c (hsub c hc)) (sorted_lt hnd' hsort) (Same.dice (same_upd hp) hD2) fun b o hb e => ?_
        have hbF : b ≠ F := ne_of_none e hF
        rw [upd_ne (ne_of_none (kp b o hb hbF e) hp)]
        exact kp b o hb hbF e
end
end K4
set_option Elab.async false
set_option linter.all false
set_option maxRecDepth 100000
set_option maxHeartbeats 4000000
namespace K4
open PySem PySem.Spec PyProof.Rows L2 K4M
section
variable {C : Addr}
/-! ### more of data -/
theorem str_S (z : Str) : S z.cps.toList = z := by
  show (⟨z.cps.toList.toArray⟩ : Str) = z
  rw [Array.toArray_toList]
theorem strip_nil (w u : List Nat) : decide (Txt.stripChars (S w) (S u) = S []) = w.all u.contains := by
  by_cases h : ∀ c ∈ w, (S u).cps.contains c = true
  · rw [strip_all h, decide_eq_true rfl]
    symm
    rw [List.all_eq_true]
    intro c hc
    have : u.toArray.contains c = true := h c hc
    simpa using this
  · rw [decide_eq_false (strip_some h)]
    symm
    rw [Bool.eq_false_iff]
    intro z
    rw [List.all_eq_true] at z
    refine h fun c hc => ?_
    show u.toArray.contains c = true
    have := z c hc
    simpa using this
/-- strip(..), told by what it is compared with -/
theorem stripN (w u : List Nat) : ∃ v, Txt.stripChars (S w) (S u) = S v ∧ (v == []) = w.all u.contains := by
  refine ⟨(Txt.stripChars (S w) (S u)).cps.toList, (str_S _).symm, ?_⟩
  rw [← strip_nil]
  have := S_dec (Txt.stripChars (S w) (S u)).cps.toList []
  rw [str_S] at this
  exact this.symm
def fStrip : D → D → (Rs → Prop) → Prop := fun a b k => ∃ u w, a = .str u ∧ b = .str w ∧ u.length ≤ 1000000 ∧ ∀ v, (v == []) = u.all w.contains → k (.sh (.str v))
theorem m_strip : M1S C (fun x xs H Q => ∃ a b, x = .str a ∧ xs = [.str b] ∧ a.length ≤ sizeLine ∧ Q (.str (Txt.stripChars a b)) H) fStrip := fun M F H n x y a b Q k fh d vx vy h hk => by
  obtain ⟨u, w, rfl, rfl, hl, h⟩ := h
  rw [view_str vx, view_str vy]
  obtain ⟨v, e, hv⟩ := stripN u w
  refine ⟨S u, S w, rfl, rfl, by rw [S_len, e16]; omega, ?_⟩
  rw [e]
  exact fin fh d hk (h v hv) (.str v)
theorem lcR_map {tg : TDG} {te : TDE} {env : List Ent} (f : D → D) {xs : List D} (h : ∀ x ∈ xs, ∃ env', tg x env = some env' ∧ ∀ n k, (∀ r : Rs, r.ok = true → r.d = f x → k r n) → te env' n k) : ∀ (acc : List D) (n : Nat) (k : List D → Nat → Prop), k (acc ++ xs.map f) n → lcR tg dYes te env xs acc n k := by
  induction xs with
  | nil =>
    intro acc n k hk
    rw [List.map_nil, List.append_nil] at hk
    exact hk
  | cons x r ih =>
    intro acc n k hk
    obtain ⟨env', e, h1⟩ := h x (List.mem_cons_self ..)
    refine ⟨env', e, ?_⟩
    show te env' n _
    refine h1 n _ fun q ok eq => ⟨ok, ?_⟩
    refine ih (fun y hy => h y (List.mem_cons_of_mem _ hy)) _ n k ?_
    rw [eq, List.append_assoc]
    exact hk
theorem lcR_filter {tg : TDG} {tt : TDT} {te : TDE} {env : List Ent} (p : D → Bool) (f : D → D) {xs : List D} (h : ∀ x ∈ xs, ∃ env', tg x env = some env' ∧ (∀ n k, k (p x) n → tt env' n k) ∧ (p x = true → ∀ n k, (∀ r : Rs, r.ok = true → r.d = f x → k r n) → te env' n k)) : ∀ (acc : List D) (n : Nat) (k : List D → Nat → Prop), k (acc ++ (xs.filter p).map f) n → lcR tg tt te env xs acc n k := by
  induction xs with
  | nil =>
    intro acc n k hk
    rw [List.filter_nil, List.map_nil, List.append_nil] at hk
    exact hk
  | cons x r ih =>
    intro acc n k hk
    obtain ⟨env', e, h1, h2⟩ := h x (List.mem_cons_self ..)
    have ih := ih fun y hy => h y (List.mem_cons_of_mem _ hy)
    refine ⟨env', e, h1 n _ ?_⟩
    cases hp : p x with
    | true =>
      rw [List.filter_cons_of_pos hp] at hk
      refine iteT (h2 hp n _ fun q ok eq => ⟨ok, ih _ n k ?_⟩)
      rw [eq, List.append_assoc]
      exact hk
    | false =>
      rw [List.filter_cons_of_neg (by rw [hp]; exact Bool.false_ne_true)] at hk
      exact iteF (ih _ n k hk)
/-- by an invariant, where draws are made -/
theorem lcR_inv {tg : TDG} {te : TDE} {env : List Ent} (I : Nat → List D → Nat → Prop) {xs : List D} {n : Nat} {k : List D → Nat → Prop} (h0 : I 0 [] n)
    (hs : ∀ (i : Nat) (x : D) (acc : List D) (n : Nat), xs[i]? = some x → I i acc n → ∃ env', tg x env = some env' ∧ ∀ k, (∀ (r : Rs) n2, r.ok = true → I (i + 1) (acc ++ [r.d]) n2 → k r n2) → te env' n k)
    (hd : ∀ acc n, I xs.length acc n → k acc n) : lcR tg dYes te env xs [] n k := by
  have key : ∀ (m j : Nat) (acc : List D) (n : Nat), j + m = xs.length → I j acc n → lcR tg dYes te env (xs.drop j) acc n k := fun m => by
    induction m with
    | zero =>
      intro j acc n hj hI
      have : j = xs.length := by omega
      subst this
      rw [List.drop_length]
      exact hd acc n hI
    | succ m ih =>
      intro j acc n hj hI
      have hlt : j < xs.length := by omega
      rw [List.drop_eq_getElem_cons hlt]
      obtain ⟨env', e, h⟩ := hs j _ acc n (List.getElem?_eq_getElem hlt) hI
      refine ⟨env', e, ?_⟩
      show te env' n _
      exact h _ fun r n2 ok hI2 => ⟨ok, ih (j + 1) _ n2 (by omega) hI2⟩
  exact key xs.length 0 [] n (by omega) h0
def dChain (f g : D → D → (Rs → Prop) → Prop) (a b c : TDE) : TDE := fun env n k => a env n fun x n1 => x ≠ .die ∧ b env n1 fun y n2 => y ≠ .die ∧ f x.d y.d fun z => isB z fun q => if q = true then c env n2 fun w n3 => w ≠ .die ∧ g y.d w.d fun u => k u n3 else k (.sh (.bl false)) n2
theorem sim_chain {r r' : R2} {f g : D → D → (Rs → Prop) → Prop} {ta tb tc : TE} {a b c : TDE} (hr : OpS C r f) (hr' : OpS C r' g) (ha : Sim C ta a) (hb : Sim C tb b) (hc : Sim C tc c) : Sim C (tChain r r' ta tb tc) (dChain f g a b c) := fun M F H σ env n Q k s h hk => by
  refine look (ta := ta) ha s h fun x n1 v F1 H1 h1 x1 o1 => ?_
  obtain ⟨hx, h1⟩ := h1
  refine look (ta := tb) hb (s.ext x1) h1 fun y n2 w F2 H2 h2 x2 o2 => ?_
  obtain ⟨hy, h2⟩ := h2
  refine hr M F2 H2 n2 v w _ _ _ _ x2.fh x2.die (rs_view x2.fh x2.die (rs_keep x2 o1) hx) (rs_view x2.fh x2.die o2 hy) h2 fun z u F3 H3 h3 x3 o3 => ?_
  obtain ⟨q, rfl, h3⟩ := h3
  cases o3
  have xx := x1.trans (x2.trans x3)
  cases q with
  | false => exact ⟨false, rfl, iteF (hk (.sh (.bl false)) n2 _ F3 H3 (by simpa using h3) xx (Rep.bl false))⟩
  | true =>
    refine ⟨true, rfl, iteT (look (ta := tc) hc (s.ext xx) (by exact (if_pos rfl).mp h3) fun w' n3 v' F4 H4 h4 x4 o4 => ?_)⟩
    obtain ⟨hw, h4⟩ := h4
    refine hr' M F4 H4 n3 w v' _ _ Q _ x4.fh x4.die (rs_view x4.fh x4.die (rs_keep x4 (rs_keep x3 o2)) hy) (rs_view x4.fh x4.die o4 hw) h4 fun z' u' F5 H5 h5 x5 o5 => ?_
    exact hk z' n3 u' F5 H5 h5 (xx.trans (x4.trans x5)) (rs_from' (xx.trans x4) o5)
end
/-! ### the checks, of any data -/
def D.whole : D → Bool
  | .int _ => true
  | _ => false
def D.count : D → Bool
  | .int i => decide (0 ≤ i)
  | _ => false
def D.made (u : List Nat) : D → Bool
  | .str w => w.all u.contains
  | _ => false
def D.fit : D → Prop
  | .str w => w.length ≤ 1000000
  | .gnd _ _ => False
  | _ => True
def fWhole : DSp := fun as n k => ∃ d : D, as = [.d d] ∧ d.fit ∧ k (.sh (.bl d.whole)) n
def fCount : DSp := fun as n k => ∃ d : D, as = [.d d] ∧ d.fit ∧ k (.sh (.bl d.count)) n
def fMade : DSp := fun as n k => ∃ (d : D) (u : List Nat), as = [.d d, .d (.str u)] ∧ d.fit ∧ k (.sh (.bl (d.made u))) n
def fText : DSp := fun as n k => ∃ d : D, as = [.d d] ∧ d.fit ∧ k (.sh (.bl (d.made letl))) n
def D.word : D → Bool
  | .str w => w.all letl.contains && !(w == [])
  | _ => false
def fWord : DSp := fun as n k => ∃ d : D, as = [.d d] ∧ d.fit ∧ k (.sh (.bl d.word)) n
def fCtext : DSp := fun as n k => ∃ w : List Nat, as = [.d (.str w)] ∧ w.length ≤ 1000000 ∧ Low w ∧ k (.sh .non) n
def fCword : DSp := fun as n k => ∃ w : List Nat, as = [.d (.str w)] ∧ w.length ≤ 1000000 ∧ Low w ∧ w ≠ [] ∧ k (.sh .non) n
def fCnum : DSp := fun as n k => ∃ i l : Int, as = [.d (.int i), .d (.int l)] ∧ 0 ≤ i ∧ l ≤ i ∧ k (.sh .non) n
theorem low_all {w : List Nat} (h : Low w) : w.all letl.contains = true := by
  rw [List.all_eq_true]
  intro c hc
  rw [List.contains_iff_mem, letl_mem]
  exact h c hc
/-- one less than the next -/
def asc (ns : List Int) : Bool := (List.zipWith (fun a b => decide (a < b)) ns (ns.drop 1)).all id
theorem asc_of {ns : List Int} (h : ns.Pairwise (· < ·)) : asc ns = true := by
  induction ns with
  | nil => rfl
  | cons a r ih =>
    rw [List.pairwise_cons] at h
    cases r with
    | nil => rfl
    | cons b t =>
      have h1 := h.1 b (List.mem_cons_self ..)
      have h2 := ih h.2
      unfold asc at h2 ⊢
      show (decide (a < b) && (List.zipWith (fun a b => decide (a < b)) (b :: t) ((b :: t).drop 1)).all id) = true
      rw [h2, decide_eq_true h1]
      rfl
def fAsc : DSp := fun as n k => ∃ ns : List Int, as = [.d (.lst (ns.map D.int))] ∧ ns.length ≤ 1000000 ∧ k (.sh (.bl (asc ns))) n
def fLwn : DSp := fun as n k => ∃ ds : List D, as = [.d (.lst ds)] ∧ ds.length ≤ 1000000 ∧ (∀ d ∈ ds, d.fit) ∧ k (.sh (.bl (ds.all D.whole))) n
def fPl : DSp := fun as n k => ∃ ns : List Int, as = [.d (.lst (ns.map D.int))] ∧ ns.length ≤ 1000000 ∧ k (.sh (.bl (asc ns))) n
section
variable {P : Program} {w : World} {K : PySem.W.Frag} {mg : Str → Option Value} {base : Heap}
theorem scd_whole : FnScope ["value"] ["value"] (defScope st_is_whole_number) := ⟨rfl, rfl, rfl, by decide +kernel, rfl, by decide +kernel, by decide +kernel⟩
theorem okd_whole {C : Addr}  (B : Bi mg) (Z : Df K mg "is_whole_number" st_is_whole_number ["value"]) : FnOk P w K mg base CX0 1 Z.f Z.fd ["value"] (spD C 1 fWhole) := by
  refine Z.F.ok scd_whole (fun vs H Q E h => spD_len h) (fun cdv A outer s H vs Q E hr h => ?_)
  refine ⟨_, (pss_one (ps_ret (pe_and (pe_callB call_isi (by rfl) B.isi (by decide +kernel) (pa_cons (pv 0) (pa_cons (pe_bltn (v := .ty "int") (by rfl) B.int (by decide +kernel) rfl) pa_nil))) (pe_one (pe_not (pe_callB call_isi (by rfl) B.isi (by decide +kernel) (pa_cons (pv 0) (pa_cons (pe_bltn (v := .ty "bool") (by rfl) B.bool (by decide +kernel) rfl) pa_nil)))))))), enter (C := C) (sim_ret (sim_andV (sim_isi (sim_var 0)) (sim_notV (sim_isi (sim_var 0))))) h fun as n k hl h => ?_⟩
  obtain ⟨d, rfl, hd, h⟩ := h
  cases d <;> first
    | exact hd.elim
    | exact ⟨_, rfl, nofun, _, _, rfl, (by decide +kernel : kitB _ "int" = some false), _, rfl, rfl, h⟩
    | exact ⟨_, rfl, nofun, _, _, rfl, (by decide +kernel : kitB _ "int" = some true), _, rfl, _, rfl, nofun, _, _, rfl, (by decide +kernel : kitB _ "bool" = some true), _, rfl, rfl, h⟩
    | exact ⟨_, rfl, nofun, _, _, rfl, (by decide +kernel : kitB _ "int" = some true), _, rfl, _, rfl, nofun, _, _, rfl, (by decide +kernel : kitB _ "bool" = some false), _, rfl, rfl, h⟩
end
end K4
set_option Elab.async false
set_option linter.all false
set_option maxRecDepth 100000
set_option maxHeartbeats 8000000
namespace K4
open PySem PySem.Spec PyProof.Rows L2 K4M

/-! ### enumerate(zip(text, text)): the pair within the pair -/
abbrev ZipF (h : Heap) (z TI TO : Addr) (f0 : Value) (f : Bool) : Prop := h.get? z = some { cls := .type "zip", dict := none, data := .fields #[f0, .bool f, .bool false, .ref TI, .ref TO], slots := #[] }
def Outs (f0 : Value) : Prop := f0 = .none ∨ ∃ T : Nat, f0 = rawInt T
def ZipAny (h : Heap) (z TI TO : Addr) : Prop := ∃ f0 f, ZipF h z TI TO f0 f ∧ Outs f0
section
variable {prog : Program} {w : World} {A : Around} {E : Value → Shared → Prop} {s : Shared}
theorem low_alive {a : Addr} {Q : Option Obj → Shared → Prop} (h : Q (s.heap.get? a) s) : wpAny (model prog w) A (loadIfAlive a) Q E s := fun _ _ _ => h
theorem low_free {z TI TO : Addr} {f0 : Value} {f : Bool} {Q : Bool → Shared → Prop} (hz : ZipF s.heap z TI TO f0 f) (ho : Outs f0) (h1 : Q true s)
    (h2 : ∀ h' f', ZipF h' z TI TO f0 f' → Heap.SameBut z s.heap h' → Q false { s with heap := h' }) : wpAny (model prog w) A (Builtin.SmallTypes.ownedTupleIsFree (.ref z)) Q E s := by
  unfold Builtin.SmallTypes.ownedTupleIsFree
  rcases ho with rfl | ⟨T, rfl⟩
  · exact wpAny_bind (wpAny_field hz rfl (x := Value.none) rfl (wpAny_pure h1))
  · refine wpAny_bind (wpAny_field hz rfl (x := rawInt (T : Int)) rfl ?_)
    show wpAny _ _ (loadIfAlive _ >>= _) _ _ s
    refine wpAny_bind (low_alive ?_)
    cases s.heap.get? (Int.toNat (T : Int)) with
    | none => exact wpAny_pure h1
    | some o =>
      simp only [Option.isNone_some, Bool.false_eq_true, if_false]
      refine wpAny_bind (wpAny_field hz rfl (x := Value.bool f) rfl ?_)
      cases f with
      | true => exact (show wpAny _ _ (if (Value.bool true != Value.bool true) = true then _ else _) _ _ s by rw [if_neg (by decide)]; exact wpAny_pure (h2 s.heap true hz (Heap.SameBut.refl _ _)))
      | false => exact (show wpAny _ _ (if (Value.bool false != Value.bool true) = true then _ else _) _ _ s by rw [if_pos (show (Value.bool false != Value.bool true) = true from rfl)]; exact wpAny_bind (wpAny_setField_rec hz (by simp) fun h3 hz3 hs3 => wpAny_pure (h2 h3 true hz3 hs3)))
theorem zip_draw {z TI TO i1 i2 : Addr} {fp1 fp2 : List Addr} {n1 n2 i : Nat} {P1 P2 : Nat → Value → Prop} {St1 St2 : Nat → Heap → Prop} {Q : Value → Shared → Prop} (S : ZipSep2 z TI TO i1 i2 fp1 fp2) (D1 : Draws prog w A i1 fp1 n1 P1 St1) (D2 : Draws prog w A i2 fp2 n2 P2 St2)
    (hz : ZipAny s.heap z TI TO) (hTI : IsTupOf2 s.heap TI (.ref i1) (.ref i2)) (hTO : ∃ a b, IsTupOf2 s.heap TO a b) (st1 : St1 i s.heap) (st2 : St2 i s.heap) (l1 : i < n1) (l2 : i < n2)
    (hQ : ∀ x1 x2 h' tk, P1 i x1 → P2 i x2 → ZipAny h' z TI TO → (∃ a b, IsTupOf2 h' TO a b) → St1 (i + 1) h' → St2 (i + 1) h' → IsTupOf2 h' s.heap.objs.size x1 x2 → h'.objs.size = s.heap.objs.size + 1 →
      (∀ c o, c ∉ [z, TO, i1, i2] → s.heap.get? c = some o → h'.get? c = some o) → Q (.ref s.heap.objs.size) { s with heap := h', toks := tk }) :
    wpAny (model prog w) A (Builtin.«zip.__next__» ⟨[.ref z], []⟩) (fun fin s' => ∃ v, fin = .done (.ret v) ∧ Q v s') E s := by
  obtain ⟨hp, g, d, tk0, os⟩ := s
  obtain ⟨f0, f, hz, ho⟩ := hz
  obtain ⟨a1, a2, hTO⟩ := hTO
  show wpAny _ _ (field (.ref z) 2 >>= fun _ => _) _ _ _; refine wpAny_bind (wpAny_field hz rfl (x := (Value.bool false)) rfl ?_)
  show wpAny _ _ (field (.ref z) 3 >>= fun _ => _) _ _ _; refine wpAny_bind (wpAny_field hz rfl (x := (Value.ref TI)) rfl ?_)
  refine wpAny_bind (wpAny_seqItems (items := #[Value.ref i1, Value.ref i2]) hTI rfl ?_)
  show wpAny _ _ (Builtin.SmallTypes.ownedTupleIsFree (Value.ref z) >>= fun _ => _) _ _ _
  refine wpAny_bind (low_free hz ho ?_ fun h1 f1 hz1 hs1 => ?_)
  · rw [if_pos rfl]
    refine wpAny_bind (wpAny_rule ?_)
    refine wpAny_bind (wpAny_field hz rfl (x := Value.ref TO) rfl (wpAny_bind (wpAny_setField_rec hz (by simp) fun k0 hz0 hs0 => ?_)))
    replace hz0 : ZipF k0 z TI TO .ellipsis f := hz0
    replace hs0 : Heap.SameBut z hp k0 := hs0
    refine wpAny_bind ?_
    simp only [List.zipIdx_cons, List.zipIdx_nil, List.forIn_cons, List.forIn_nil]
    refine wpAny_bind (wpAny_bind (wpAny_onRaise ?_))
    refine (show wpAny _ _ (Builtin.SmallTypes.nextOf (Value.ref i1) >>= fun _ => _) _ _ ⟨k0, g, d, tk0, os⟩ from wpAny_bind (D1.item i _ _ _ l1 (D1.over st1 hs0 S.zf1) fun y1 p1 tk1 hy1 q1 r1 => wpAny_pure ?_))
    replace r1 : Heap.SameBut i1 k0 p1 := r1
    have u1 : IsTupOf2 p1 TO a1 a2 := r1.extBut _ _ S.Ti1 (hs0.extBut _ _ S.TOz hTO)
    refine wpAny_bind (wpAny_seqItems (s := ⟨p1, g, d, tk1, os⟩) u1 rfl (wpAny_bind (updateSeq_IsTupOf2 (s := ⟨p1, g, d, tk1, os⟩) u1 fun g1 t1 s1 => wpAny_bind (wpAny_letGo (wpAny_pure ?_)))))
    replace t1 : IsTupOf2 g1 TO y1 a2 := t1
    replace s1 : Heap.SameBut TO p1 g1 := s1
    refine wpAny_bind (wpAny_bind (wpAny_onRaise ?_))
    refine (show wpAny _ _ (Builtin.SmallTypes.nextOf (Value.ref i2) >>= fun _ => _) _ _ ⟨g1, g, d, tk1, os⟩ from wpAny_bind (D2.item i _ _ _ l2 (D2.over (D2.over (D2.over st2 hs0 S.zf2) r1 S.sep1_2) s1 S.Tf2) fun y2 p2 tk2 hy2 q2 r2 => wpAny_pure ?_))
    replace r2 : Heap.SameBut i2 g1 p2 := r2
    have u2 : IsTupOf2 p2 TO y1 a2 := r2.extBut _ _ S.Ti2 t1
    refine wpAny_bind (wpAny_seqItems (s := ⟨p2, g, d, tk2, os⟩) u2 rfl (wpAny_bind (updateSeq_IsTupOf2 (s := ⟨p2, g, d, tk2, os⟩) u2 fun g2 t2 s2 => wpAny_bind (wpAny_letGo (wpAny_pure (wpAny_pure ?_))))))
    replace t2 : IsTupOf2 g2 TO y1 y2 := t2
    replace s2 : Heap.SameBut TO p2 g2 := s2
    refine wpAny_bind (wpAny_seqItems (s := ⟨g2, g, d, tk2, os⟩) t2 rfl (wpAny_bind (wpAny_newTuple ?_)))
    have hsz : g2.objs.size = hp.objs.size := by rw [s2.1, r2.1, s1.1, r1.1, hs0.1]
    have hzz : ZipF g2 z TI TO .ellipsis f := s2.extBut _ _ S.TOz.symm (r2.extBut _ _ S.zi2 (s1.extBut _ _ S.TOz.symm (r1.extBut _ _ S.zi1 hz0)))
    have hkk : ∀ c o, c ∉ [z, TO, i1, i2] → hp.get? c = some o → g2.get? c = some o := fun c o hc e => by
      simp only [List.mem_cons, List.not_mem_nil, or_false, not_or] at hc
      exact s2.extBut _ _ hc.2.1 (r2.extBut _ _ hc.2.2.2 (s1.extBut _ _ hc.2.1 (r1.extBut _ _ hc.2.2.1 (hs0.extBut _ _ hc.1 e))))
    have j1 : St1 (i + 1) g2 := D1.over (D1.over (D1.over q1 s1 S.Tf1) r2 S.sep2_1) s2 S.Tf1
    have j2 : St2 (i + 1) g2 := D2.over q2 s2 S.Tf2
    have hzl : z < g2.objs.size := Heap.lt_size hzz
    refine (show wpAny _ _ (Builtin.SmallTypes.ownedTupleHandOut (Value.ref z) (Value.ref g2.objs.size) >>= fun _ => _) _ _ ⟨g2.push { cls := .type "tuple", data := .seq #[y1, y2] }, g, d, tk2, os⟩ from wpAny_bind ?_)
    unfold Builtin.SmallTypes.ownedTupleHandOut
    have z6 : ZipF (g2.push { cls := .type "tuple", data := .seq #[y1, y2] }) z TI TO .ellipsis f := Heap.get?_push_of_some _ hzz
    refine wpAny_bind (wpAny_setField_rec z6 (by simp) fun h7 z7 s7 => ?_)
    replace z7 : ZipF h7 z TI TO (rawInt g2.objs.size) f := z7
    replace s7 : Heap.SameBut z (g2.push { cls := .type "tuple", data := .seq #[y1, y2] }) h7 := s7
    refine wpAny_setField_rec z7 (by simp) fun h8 z8 s8 => ?_
    replace z8 : ZipF h8 z TI TO (rawInt g2.objs.size) false := z8
    replace s8 : Heap.SameBut z h7 h8 := s8
    have up : ∀ c o, c ≠ z → g2.get? c = some o → h8.get? c = some o := fun c o c1 e => s8.extBut _ _ c1 (s7.extBut _ _ c1 (Heap.get?_push_of_some _ e))
    have tt : IsTupOf2 h8 g2.objs.size y1 y2 := s8.extBut _ _ (Nat.ne_of_gt hzl) (s7.extBut _ _ (Nat.ne_of_gt hzl) (Heap.get?_push_size _ rfl))
    have e8 : h8.objs.size = g2.objs.size + 1 := by rw [s8.1, s7.1, Heap.size_push]
    refine wpAny_pure ⟨_, rfl, ?_⟩
    show Q (Value.ref g2.objs.size) ⟨h8, g, d, tk2, os⟩
    rw [hsz] at tt e8 ⊢
    exact hQ y1 y2 h8 tk2 hy1 hy2 ⟨_, _, z8, .inr ⟨_, rfl⟩⟩ ⟨_, _, up _ _ S.TOz t2⟩ (D1.frame _ _ _ j1 fun b hb o e => up b o (fun q => S.zf1 (q ▸ hb)) e) (D2.frame _ _ _ j2 fun b hb o e => up b o (fun q => S.zf2 (q ▸ hb)) e) tt e8 fun c o hc e =>
      up c o (fun q => hc (by rw [q]; exact List.mem_cons_self ..)) (hkk c o hc e)
  · replace hs1 : Heap.SameBut z hp h1 := hs1
    rw [if_neg Bool.false_ne_true]
    refine wpAny_bind ?_
    rw [← Array.forIn_toList]
    simp only [List.forIn_cons, List.forIn_nil]
    refine wpAny_bind (wpAny_bind (wpAny_holding ?_))
    refine (show wpAny _ _ (Builtin.SmallTypes.nextOf (Value.ref i1) >>= fun _ => _) _ _ ⟨h1, g, d, tk0, os⟩ from wpAny_bind (D1.item i _ _ _ l1 (D1.over st1 hs1 S.zf1) fun y1 p1 tk1 hy1 q1 r1 => wpAny_pure (wpAny_pure ?_)))
    replace r1 : Heap.SameBut i1 h1 p1 := r1
    refine wpAny_bind (wpAny_bind (wpAny_holding ?_))
    refine (show wpAny _ _ (Builtin.SmallTypes.nextOf (Value.ref i2) >>= fun _ => _) _ _ ⟨p1, g, d, tk1, os⟩ from wpAny_bind (D2.item i _ _ _ l2 (D2.over (D2.over st2 hs1 S.zf2) r1 S.sep1_2) fun y2 p2 tk2 hy2 q2 r2 => wpAny_pure (wpAny_pure (wpAny_pure ?_))))
    replace r2 : Heap.SameBut i2 p1 p2 := r2
    refine (show wpAny _ _ (newTuple [y1, y2] >>= fun _ => _) _ _ ⟨p2, g, d, tk2, os⟩ from wpAny_bind (wpAny_newTuple (wpAny_pure ⟨_, rfl, ?_⟩)))
    show Q (Value.ref p2.objs.size) ⟨p2.push { cls := .type "tuple", data := .seq #[y1, y2] }, g, d, tk2, os⟩
    have hsz : p2.objs.size = hp.objs.size := by rw [r2.1, r1.1, hs1.1]
    have tt : IsTupOf2 (p2.push { cls := .type "tuple", data := .seq #[y1, y2] }) p2.objs.size y1 y2 := Heap.get?_push_size _ rfl
    have e8 : (p2.push { cls := .type "tuple", data := .seq #[y1, y2] }).objs.size = p2.objs.size + 1 := Heap.size_push ..
    have up : ∀ c o, c ∉ [z, i1, i2] → hp.get? c = some o → (p2.push { cls := .type "tuple", data := .seq #[y1, y2] }).get? c = some o := fun c o hc e => by
      simp only [List.mem_cons, List.not_mem_nil, or_false, not_or] at hc
      exact Heap.get?_push_of_some _ (r2.extBut _ _ hc.2.2 (r1.extBut _ _ hc.2.1 (hs1.extBut _ _ hc.1 e)))
    rw [hsz] at tt e8 ⊢
    refine hQ y1 y2 _ tk2 hy1 hy2 ⟨_, _, Heap.get?_push_of_some _ (r2.extBut _ _ S.zi2 (r1.extBut _ _ S.zi1 hz1)), ho⟩ ⟨_, _, up _ _ ?_ hTO⟩ (D1.frame _ _ _ (D1.over q1 r2 S.sep2_1) fun b hb o e => Heap.get?_push_of_some _ e) (D2.frame _ _ _ q2 fun b hb o e => Heap.get?_push_of_some _ e) tt e8 fun c o hc e => up c o (fun q => hc ?_) e
    · simp only [List.mem_cons, List.not_mem_nil, or_false, not_or]
      exact ⟨S.TOz, S.Ti1, S.Ti2⟩
    · simp only [List.mem_cons, List.not_mem_nil, or_false] at q ⊢
      rcases q with q | q | q
      · exact .inl q
      · exact .inr (.inr (.inl q))
      · exact .inr (.inr (.inr q))
theorem zip_over {z TI TO i1 i2 : Addr} {fp1 fp2 : List Addr} {n1 n2 i : Nat} {P1 P2 : Nat → Value → Prop} {St1 St2 : Nat → Heap → Prop} {Q : Fin → Shared → Prop} (S : ZipSep2 z TI TO i1 i2 fp1 fp2) (D1 : Draws prog w A i1 fp1 n1 P1 St1) (D2 : Draws prog w A i2 fp2 n2 P2 St2)
    (hz : ZipAny s.heap z TI TO) (hTI : IsTupOf2 s.heap TI (.ref i1) (.ref i2)) (hTO : ∃ a b, IsTupOf2 s.heap TO a b) (st1 : St1 i s.heap) (st2 : St2 i s.heap) (l1 : i ≤ n1) (l2 : i ≤ n2) (he : i = n1 ∨ i = n2)
    (hE : ∀ h' tk e, (∀ c o, c ∉ [z, TO, i1, i2] → s.heap.get? c = some o → h'.get? c = some o) → (∃ o, h'.get? e = some o ∧ o.cls = .type "StopIteration") → E (.ref e) { s with heap := h', toks := tk }) :
    wpAny (model prog w) A (Builtin.«zip.__next__» ⟨[.ref z], []⟩) Q E s := by
  obtain ⟨hp, g, d, tk0, os⟩ := s
  obtain ⟨f0, f, hz, ho⟩ := hz
  obtain ⟨a1, a2, hTO⟩ := hTO
  show wpAny _ _ (field (.ref z) 2 >>= fun _ => _) _ _ _; refine wpAny_bind (wpAny_field hz rfl (x := (Value.bool false)) rfl ?_)
  show wpAny _ _ (field (.ref z) 3 >>= fun _ => _) _ _ _; refine wpAny_bind (wpAny_field hz rfl (x := (Value.ref TI)) rfl ?_)
  refine wpAny_bind (wpAny_seqItems (items := #[Value.ref i1, Value.ref i2]) hTI rfl ?_)
  show wpAny _ _ (Builtin.SmallTypes.ownedTupleIsFree (Value.ref z) >>= fun _ => _) _ _ _
  refine wpAny_bind (low_free hz ho ?_ fun h1 f1 hz1 hs1 => ?_)
  · rw [if_pos rfl]
    refine wpAny_bind (wpAny_rule ?_)
    refine wpAny_bind (wpAny_field hz rfl (x := Value.ref TO) rfl (wpAny_bind (wpAny_setField_rec hz (by simp) fun k0 hz0 hs0 => ?_)))
    replace hz0 : ZipF k0 z TI TO .ellipsis f := hz0
    replace hs0 : Heap.SameBut z hp k0 := hs0
    refine wpAny_bind ?_
    simp only [List.zipIdx_cons, List.zipIdx_nil, List.forIn_cons, List.forIn_nil]
    refine wpAny_bind (wpAny_bind (wpAny_onRaise ?_))
    have fin : ∀ (k1 : Heap) (tk e : Nat) (b : Addr), (∀ c o, c ∉ [z, TO, i1, i2] → hp.get? c = some o → k1.get? c = some o) → ZipF k1 z TI TO .ellipsis f → b ∈ [i1, i2] → ∀ q, Heap.ExtBut b k1 q → (∃ o, q.get? e = some o ∧ o.cls = .type "StopIteration") →
        wpAny (model prog w) A (setField (.ref z) 0 .none) (fun _ s' => E (.ref e) s') E ⟨q, g, d, tk, os⟩ := fun k1 tk e b hk hzk hb q hq ⟨oe, hoe, hce⟩ => by
      have zb : z ≠ b := fun x => by
        rcases List.mem_cons.mp hb with y | y
        · exact S.zi1 (x.trans y)
        · exact S.zi2 (x.trans (List.mem_singleton.mp y))
      have hzq : ZipF q z TI TO .ellipsis f := hq _ _ zb hzk
      have hez : e ≠ z := fun x => by subst x; rw [hzq] at hoe; cases hoe; simp at hce
      refine wpAny_setField_rec (s := ⟨q, g, d, tk, os⟩) hzq (by simp) fun q' _ hq' => ?_
      replace hq' : Heap.SameBut z q q' := hq'
      refine hE q' tk e (fun c o hc x => hq'.extBut _ _ (fun y => hc (by rw [y]; exact List.mem_cons_self ..)) (hq _ _ (fun y => hc ?_) (hk c o hc x))) ⟨oe, hq'.extBut _ _ hez hoe, hce⟩
      rw [y]
      exact List.mem_cons_of_mem _ (List.mem_cons_of_mem _ hb)
    by_cases hl : i < n1
    · refine (show wpAny _ _ (Builtin.SmallTypes.nextOf (Value.ref i1) >>= fun _ => _) _ _ ⟨k0, g, d, tk0, os⟩ from wpAny_bind (D1.item i _ _ _ hl (D1.over st1 hs0 S.zf1) fun y1 p1 tk1 hy1 q1 r1 => wpAny_pure ?_))
      replace r1 : Heap.SameBut i1 k0 p1 := r1
      have u1 : IsTupOf2 p1 TO a1 a2 := r1.extBut _ _ S.Ti1 (hs0.extBut _ _ S.TOz hTO)
      refine wpAny_bind (wpAny_seqItems (s := ⟨p1, g, d, tk1, os⟩) u1 rfl (wpAny_bind (updateSeq_IsTupOf2 (s := ⟨p1, g, d, tk1, os⟩) u1 fun g1 t1 s1 => wpAny_bind (wpAny_letGo (wpAny_pure ?_)))))
      replace s1 : Heap.SameBut TO p1 g1 := s1
      have h2 : i = n2 := by omega
      refine wpAny_bind (wpAny_bind (wpAny_onRaise ?_))
      refine (show wpAny _ _ (Builtin.SmallTypes.nextOf (Value.ref i2) >>= fun _ => _) _ _ ⟨g1, g, d, tk1, os⟩ from wpAny_bind (D2.done ⟨g1, g, d, tk1, os⟩ _ _ (by rw [← h2]; exact D2.over (D2.over (D2.over st2 hs0 S.zf2) r1 S.sep1_2) s1 S.Tf2) fun q e hq hx => ?_))
      refine fin g1 tk1 e i2 (fun c o hc x => ?_) (s1.extBut _ _ S.TOz.symm (r1.extBut _ _ S.zi1 hz0)) (by simp) q hq hx
      simp only [List.mem_cons, List.not_mem_nil, or_false, not_or] at hc
      exact s1.extBut _ _ hc.2.1 (r1.extBut _ _ hc.2.2.1 (hs0.extBut _ _ hc.1 x))
    · have h2 : i = n1 := by omega
      refine (show wpAny _ _ (Builtin.SmallTypes.nextOf (Value.ref i1) >>= fun _ => _) _ _ ⟨k0, g, d, tk0, os⟩ from wpAny_bind (D1.done ⟨k0, g, d, tk0, os⟩ _ _ (by rw [← h2]; exact D1.over st1 hs0 S.zf1) fun q e hq hx => ?_))
      exact fin k0 tk0 e i1 (fun c o hc x => hs0.extBut _ _ (fun y => hc (by rw [y]; exact List.mem_cons_self ..)) x) hz0 (by simp) q hq hx
  · replace hs1 : Heap.SameBut z hp h1 := hs1
    rw [if_neg Bool.false_ne_true]
    refine wpAny_bind ?_
    rw [← Array.forIn_toList]
    simp only [List.forIn_cons, List.forIn_nil]
    refine wpAny_bind (wpAny_bind (wpAny_holding ?_))
    by_cases hl : i < n1
    · refine (show wpAny _ _ (Builtin.SmallTypes.nextOf (Value.ref i1) >>= fun _ => _) _ _ ⟨h1, g, d, tk0, os⟩ from wpAny_bind (D1.item i _ _ _ hl (D1.over st1 hs1 S.zf1) fun y1 p1 tk1 hy1 q1 r1 => wpAny_pure (wpAny_pure ?_)))
      replace r1 : Heap.SameBut i1 h1 p1 := r1
      have h2 : i = n2 := by omega
      refine wpAny_bind (wpAny_bind (wpAny_holding ?_))
      refine (show wpAny _ _ (Builtin.SmallTypes.nextOf (Value.ref i2) >>= fun _ => _) _ _ ⟨p1, g, d, tk1, os⟩ from wpAny_bind (D2.done ⟨p1, g, d, tk1, os⟩ _ _ (by rw [← h2]; exact D2.over (D2.over st2 hs1 S.zf2) r1 S.sep1_2) fun q e hq hx => ?_))
      replace hq : Heap.ExtBut i2 p1 q := hq
      refine hE q tk1 e (fun c o hc x => ?_) hx
      simp only [List.mem_cons, List.not_mem_nil, or_false, not_or] at hc
      exact hq _ _ hc.2.2.2 (r1.extBut _ _ hc.2.2.1 (hs1.extBut _ _ hc.1 x))
    · have h2 : i = n1 := by omega
      refine (show wpAny _ _ (Builtin.SmallTypes.nextOf (Value.ref i1) >>= fun _ => _) _ _ ⟨h1, g, d, tk0, os⟩ from wpAny_bind (D1.done ⟨h1, g, d, tk0, os⟩ _ _ (by rw [← h2]; exact D1.over st1 hs1 S.zf1) fun q e hq hx => ?_))
      replace hq : Heap.ExtBut i1 h1 q := hq
      refine hE q tk0 e (fun c o hc x => ?_) hx
      simp only [List.mem_cons, List.not_mem_nil, or_false, not_or] at hc
      exact hq _ _ hc.2.2.1 (hs1.extBut _ _ hc.1 x)
end
end K4
set_option Elab.async false
set_option linter.all false
set_option maxRecDepth 100000
set_option maxHeartbeats 8000000
namespace K4
open PySem PySem.Spec PyProof.Rows L2 K4M

section
variable {prog : Program} {w : World} {A : Around} {E : Value → Shared → Prop} {s : Shared}
theorem zip_nextOf {z TI TO i1 i2 : Addr} {fp1 fp2 : List Addr} {n1 n2 i : Nat} {P1 P2 : Nat → Value → Prop} {St1 St2 : Nat → Heap → Prop} {Q : Value → Shared → Prop} (S : ZipSep2 z TI TO i1 i2 fp1 fp2) (D1 : Draws prog w A.in1 i1 fp1 n1 P1 St1) (D2 : Draws prog w A.in1 i2 fp2 n2 P2 St2)
    (hz : ZipAny s.heap z TI TO) (hTI : IsTupOf2 s.heap TI (.ref i1) (.ref i2)) (hTO : ∃ a b, IsTupOf2 s.heap TO a b) (st1 : St1 i s.heap) (st2 : St2 i s.heap) (l1 : i < n1) (l2 : i < n2)
    (hQ : ∀ x1 x2 h' tk, P1 i x1 → P2 i x2 → ZipAny h' z TI TO → (∃ a b, IsTupOf2 h' TO a b) → St1 (i + 1) h' → St2 (i + 1) h' → IsTupOf2 h' s.heap.objs.size x1 x2 → h'.objs.size = s.heap.objs.size + 1 →
      (∀ c o, c ∉ [z, TO, i1, i2] → s.heap.get? c = some o → h'.get? c = some o) → Q (.ref s.heap.objs.size) { s with heap := h', toks := tk }) :
    wpAny (model prog w) A (Builtin.SmallTypes.nextOf (.ref z)) Q E s := by
  have hT : s.TypeIs (.ref z) "zip" := by
    obtain ⟨f0, f, h, _⟩ := hz
    exact ⟨_, h, rfl⟩
  unfold Builtin.SmallTypes.nextOf
  exact wpAny_bind (wpAny_callSpecial?_slot (name := Str.ofString "__next__") hT F.slot_zip_next (wpAny_call_entry F.slot_zip_next hT F.entry_zip_next (zip_draw S D1 D2 hz hTI hTO st1 st2 l1 l2 fun x1 x2 h' tk a b c d e f g h k => wpAny_pure (hQ x1 x2 h' tk a b c d e f g h k)) (F.args_zip_next_1 _)))
theorem zip_nextEnd {z TI TO i1 i2 : Addr} {fp1 fp2 : List Addr} {n1 n2 i : Nat} {P1 P2 : Nat → Value → Prop} {St1 St2 : Nat → Heap → Prop} {Q : Value → Shared → Prop} (S : ZipSep2 z TI TO i1 i2 fp1 fp2) (D1 : Draws prog w A.in1 i1 fp1 n1 P1 St1) (D2 : Draws prog w A.in1 i2 fp2 n2 P2 St2)
    (hz : ZipAny s.heap z TI TO) (hTI : IsTupOf2 s.heap TI (.ref i1) (.ref i2)) (hTO : ∃ a b, IsTupOf2 s.heap TO a b) (st1 : St1 i s.heap) (st2 : St2 i s.heap) (l1 : i ≤ n1) (l2 : i ≤ n2) (he : i = n1 ∨ i = n2)
    (hE : ∀ h' tk e, (∀ c o, c ∉ [z, TO, i1, i2] → s.heap.get? c = some o → h'.get? c = some o) → (∃ o, h'.get? e = some o ∧ o.cls = .type "StopIteration") → E (.ref e) { s with heap := h', toks := tk }) :
    wpAny (model prog w) A (Builtin.SmallTypes.nextOf (.ref z)) Q E s := by
  have hT : s.TypeIs (.ref z) "zip" := by
    obtain ⟨f0, f, h, _⟩ := hz
    exact ⟨_, h, rfl⟩
  unfold Builtin.SmallTypes.nextOf
  exact wpAny_bind (wpAny_callSpecial?_slot (name := Str.ofString "__next__") hT F.slot_zip_next (wpAny_call_entry F.slot_zip_next hT F.entry_zip_next (zip_over S D1 D2 hz hTI hTO st1 st2 l1 l2 he hE) (F.args_zip_next_1 _)))
/-- enumerate over any iterator whose step is known -/
theorem enum_draw {e it : Addr} {i : Nat} {old : Value} {Q : Value → Shared → Prop} (he : IsEnum s.heap e it i old)
    (h : wpAny (model prog w) A (Builtin.SmallTypes.nextOf (.ref it)) (fun x s1 => IsEnum s1.heap e it i old ∧ ∀ h', IsEnumOut h' e it ((i : Int) + 1) x s1.heap.objs.size → h'.get? s1.heap.objs.size = some { cls := .type "tuple", data := .seq #[.int i s1.toks, x] } →
      h'.objs.size = s1.heap.objs.size + 1 → (∀ b o, b ≠ e → s1.heap.get? b = some o → h'.get? b = some o) → Q (.ref s1.heap.objs.size) { s1 with heap := h', toks := s1.toks + 1 }) E s) :
    wpAny (model prog w) A (Builtin.«enumerate.__next__» ⟨[.ref e], []⟩) (fun fin s' => ∃ v, fin = .done (.ret v) ∧ Q v s') E s := by
  show wpAny _ _ (field (.ref e) 2 >>= fun _ => _) _ _ _; refine wpAny_bind (wpAny_field he rfl (x := (Value.ref it)) rfl ?_)
  refine wpAny_bind (thn h fun x s1 hx => ?_)
  obtain ⟨hp, g, d, tk, os⟩ := s1
  obtain ⟨e1, hQ⟩ := hx
  replace e1 : IsEnum hp e it i old := e1
  show wpAny _ _ (field (.ref e) 3 >>= fun _ => _) _ _ _; refine wpAny_bind (wpAny_field e1 rfl (x := (rawInt i)) rfl ?_)
  show wpAny _ _ (field (.ref e) 4 >>= fun _ => _) _ _ _; refine wpAny_bind (wpAny_field e1 rfl (x := Value.none) rfl ?_)
  refine (show wpAny _ _ (mkInt i >>= fun _ => _) _ _ ⟨hp, g, d, tk, os⟩ from wpAny_bind (wpAny_mkInt ?_))
  refine (show wpAny _ _ (setField (Value.ref e) 3 (rawInt ((i : Int) + 1)) >>= fun _ => _) _ _ ⟨hp, g, d, tk + 1, os⟩ from wpAny_bind (wpAny_setField_rec e1 (by simp) fun h2 e2 s2 => ?_))
  replace s2 : Heap.SameBut e hp h2 := s2
  replace e2 : IsEnum h2 e it ((i : Int) + 1) old := e2
  refine (show wpAny _ _ (setField (Value.ref e) 4 Value.none >>= fun _ => _) _ _ ⟨h2, g, d, tk + 1, os⟩ from wpAny_bind (wpAny_setField_rec e2 (by simp) fun h3 e3 s3 => ?_))
  replace s3 : Heap.SameBut e h2 h3 := s3
  replace e3 : IsEnum h3 e it ((i : Int) + 1) old := e3
  refine (show wpAny _ _ (newTuple [Value.int i tk, x] >>= fun _ => _) _ _ ⟨h3, g, d, tk + 1, os⟩ from wpAny_bind (wpAny_newTuple ?_))
  have e4 : IsEnum (h3.push { cls := .type "tuple", data := .seq #[.int i tk, x] }) e it ((i : Int) + 1) old := Heap.get?_push_of_some _ e3
  have sz : h3.objs.size = hp.objs.size := by rw [s3.1, s2.1]
  have el : e < hp.objs.size := Heap.lt_size e1
  generalize hh : h3.push { cls := .type "tuple", data := .seq #[.int i tk, x] } = h4 at e4
  have t4 : h4.get? hp.objs.size = some { cls := .type "tuple", data := .seq #[.int i tk, x] } := by rw [← hh, ← sz]; exact Heap.get?_push_size _ rfl
  have z4 : h4.objs.size = hp.objs.size + 1 := by rw [← hh, Heap.size_push, sz]
  have k4 : ∀ b o, b ≠ e → hp.get? b = some o → h4.get? b = some o := fun b o hb q => by rw [← hh]; exact Heap.get?_push_of_some _ (s3.extBut b o hb (s2.extBut b o hb q))
  rw [sz]
  refine (show wpAny _ _ (Builtin.SmallTypes.ownedTupleIsFree (Value.ref e) >>= fun _ => _) _ _ ⟨h4, g, d, tk + 1, os⟩ from wpAny_bind ?_)
  unfold Builtin.SmallTypes.ownedTupleIsFree
  refine wpAny_bind (wpAny_field e4 rfl (x := Value.none) rfl (wpAny_pure ?_))
  simp only [if_true]
  refine wpAny_bind (wpAny_rule (wpAny_bind (wpAny_field e4 rfl (x := old) rfl (wpAny_bind (wpAny_setField_rec e4 (by simp) fun h5 e5 s5 => ?_)))))
  replace s5 : Heap.SameBut e h4 h5 := s5
  replace e5 : IsEnum h5 e it ((i : Int) + 1) x := e5
  refine (show wpAny _ _ (Builtin.SmallTypes.ownedTupleHandOut (Value.ref e) (Value.ref hp.objs.size) >>= fun _ => _) _ _ ⟨h5, g, d, tk + 1, os⟩ from wpAny_bind ?_)
  unfold Builtin.SmallTypes.ownedTupleHandOut
  refine wpAny_bind (wpAny_setField_rec e5 (by simp) fun h6 e6 s6 => ?_)
  replace s6 : Heap.SameBut e h5 h6 := s6
  replace e6 : IsEnumOut h6 e it ((i : Int) + 1) x hp.objs.size := e6
  refine wpAny_setField_rec e6 (by simp) fun h7 e7 s7 => ?_
  replace s7 : Heap.SameBut e h6 h7 := s7
  replace e7 : IsEnumOut h7 e it ((i : Int) + 1) x hp.objs.size := e7
  have up : ∀ b o, b ≠ e → h4.get? b = some o → h7.get? b = some o := fun b o hb q => s7.extBut b o hb (s6.extBut b o hb (s5.extBut b o hb q))
  exact wpAny_bind (wpAny_letGo (wpAny_pure ⟨_, rfl, hQ h7 e7 (up _ _ (Nat.ne_of_gt el) t4) (show h7.objs.size = hp.objs.size + 1 by rw [s7.1, s6.1, s5.1, z4]) fun b o hb q => up b o hb (k4 b o hb q)⟩))
theorem enum_next {e it : Addr} {i : Nat} {old : Value} {Q : Option Value → Shared → Prop} (he : IsEnum s.heap e it i old)
    (h : ∀ E, wpAny (model prog w) A.in1 (Builtin.SmallTypes.nextOf (.ref it)) (fun x s1 => IsEnum s1.heap e it i old ∧ ∀ h', IsEnumOut h' e it ((i : Int) + 1) x s1.heap.objs.size → h'.get? s1.heap.objs.size = some { cls := .type "tuple", data := .seq #[.int i s1.toks, x] } →
      h'.objs.size = s1.heap.objs.size + 1 → (∀ b o, b ≠ e → s1.heap.get? b = some o → h'.get? b = some o) → Q (some (.ref s1.heap.objs.size)) { s1 with heap := h', toks := s1.toks + 1 }) E s) :
    wpAny (model prog w) A (pyNext (.ref e)) Q E s := by
  have hT : s.TypeIs (.ref e) "enumerate" := ⟨_, he, rfl⟩
  unfold pyNext
  refine wpAny_bind (wpAny_attempt (wpAny_callSpecial?_slot (name := Str.ofString "__next__") hT F.slot_enumerate_next (wpAny_call_entry F.slot_enumerate_next hT F.entry_enumerate_next (enum_draw he (thn (h _) fun x s1 q => ⟨q.1, fun h' a b c k => ?_⟩)) (F.args_enumerate_next_1 _))))
  exact wpAny_pure (q.2 h' a b c k)
theorem enum_end {e it : Addr} {i : Int} {old : Value} {Q : Option Value → Shared → Prop} (he : IsEnum s.heap e it i old)
    (h : ∀ Q' E', (∀ x s1, (∃ o, s1.heap.get? x = some o ∧ o.cls = .type "StopIteration") → Q none s1 → E' (.ref x) s1) → wpAny (model prog w) A.in1 (Builtin.SmallTypes.nextOf (.ref it)) Q' E' s) :
    wpAny (model prog w) A (pyNext (.ref e)) Q E s := by
  have hT : s.TypeIs (.ref e) "enumerate" := ⟨_, he, rfl⟩
  unfold pyNext
  refine wpAny_bind (wpAny_attempt (wpAny_callSpecial?_slot (name := Str.ofString "__next__") hT F.slot_enumerate_next (wpAny_call_entry F.slot_enumerate_next hT F.entry_enumerate_next ?_ (F.args_enumerate_next_1 _))))
  show wpAny _ _ (field (.ref e) 2 >>= fun _ => _) _ _ _; refine wpAny_bind (wpAny_field he rfl (x := (Value.ref it)) rfl ?_)
  refine wpAny_bind (h _ _ fun x s1 hx q => ?_)
  obtain ⟨o, ho, hc⟩ := hx
  exact wpAny_bind (wpAny_isInstance (T := "StopIteration") (b := true) ⟨o, ho, hc⟩ isSubtype_stop (wpAny_pure q))
end
/-! ### the turn -/
def Itez (x y : Str) : It := ⟨fun i _ => i < min x.cps.size y.cps.size, fun i H v H' => ∃ (T2 T : Addr) (c d : Nat), v = .ref T ∧ H T2 = none ∧ upd H T2 (.tup [.str ⟨#[c]⟩, .str ⟨#[d]⟩]) T = none ∧ H' = upd (upd H T2 (.tup [.str ⟨#[c]⟩, .str ⟨#[d]⟩])) T (.tup [.int (i : Nat), .ref T2]) ∧ x.cps[i]? = some c ∧ y.cps[i]? = some d, fun i _ => min x.cps.size y.cps.size ≤ i⟩
theorem sep_at (B : Nat) : ZipSep2 (B + 4) (B + 2) (B + 3) B (B + 1) [B] [B + 1] := by
  have h : ∀ i j : Nat, i ≠ j → B + i ≠ B + j := fun i j hij q => hij (Nat.add_left_cancel q)
  have h0 : ∀ j : Nat, j ≠ 0 → B + j ≠ B := fun j hj q => hj (Nat.add_left_cancel (q.trans (Nat.add_zero B).symm))
  have m : ∀ a b : Addr, a ≠ b → a ∉ [b] := fun a b hab q => hab (List.mem_singleton.mp q)
  exact ⟨h 2 4 (by decide), h 3 4 (by decide), h 2 3 (by decide), h0 2 (by decide), List.mem_singleton.mpr rfl, m _ _ (h0 4 (by decide)), m _ _ (h0 3 (by decide)), h 2 1 (by decide), List.mem_singleton.mpr rfl, m _ _ (h 4 1 (by decide)), m _ _ (h 3 1 (by decide)), m _ _ (Ne.symm (h0 1 (by decide))), m _ _ (h0 1 (by decide))⟩
structure EzAt (x y : Str) (t t' : Tok) (B : Addr) (i : Nat) (h : Heap) : Prop where
  le : i ≤ min x.cps.size y.cps.size
  en : ∃ old, IsEnum h (B + 5) (B + 4) (i : Int) old
  zp : ZipAny h (B + 4) (B + 2) (B + 3)
  ti : IsTupOf2 h (B + 2) (.ref B) (.ref (B + 1))
  tu : ∃ a b, IsTupOf2 h (B + 3) a b
  s1 : h.IsStrIter B (strIterType x) x t i
  s2 : h.IsStrIter (B + 1) (strIterType y) y t' i
def ezL (B : Addr) : List Addr := [B + 5, B + 4, B + 2, B + 3, B, B + 1]
theorem ez_frame {x y : Str} {t t' : Tok} {B : Addr} {i : Nat} {h h' : Heap} (st : EzAt x y t t' B i h) (k : ∀ b ∈ ezL B, ∀ o, h.get? b = some o → h'.get? b = some o) : EzAt x y t t' B i h' := by
  obtain ⟨a, ⟨old, b⟩, ⟨f0, f, c, c2⟩, d, ⟨u, v, e⟩, ⟨o1, f1, f2⟩, ⟨o2, g1, g2⟩⟩ := st
  exact ⟨a, ⟨old, k _ (by simp [ezL]) _ b⟩, ⟨f0, f, k _ (by simp [ezL]) _ c, c2⟩, k _ (by simp [ezL]) _ d, ⟨u, v, k _ (by simp [ezL]) _ e⟩, ⟨o1, k _ (by simp [ezL]) _ f1, f2⟩, ⟨o2, k _ (by simp [ezL]) _ g1, g2⟩⟩
theorem ez_lt {x y : Str} {t t' : Tok} {B : Addr} {i : Nat} {h : Heap} (st : EzAt x y t t' B i h) : ∀ b ∈ ezL B, b < h.objs.size := by
  obtain ⟨a, ⟨old, b⟩, ⟨f0, f, c, c2⟩, d, ⟨u, v, e⟩, ⟨o1, f1, f2⟩, ⟨o2, g1, g2⟩⟩ := st
  intro q hq
  simp only [ezL, List.mem_cons, List.not_mem_nil, or_false] at hq
  rcases hq with rfl | rfl | rfl | rfl | rfl | rfl
  · exact Heap.lt_size b
  · exact Heap.lt_size c
  · exact Heap.lt_size d
  · exact Heap.lt_size e
  · exact Heap.lt_size f1
  · exact Heap.lt_size g1
theorem nat_ne5 (B : Nat) : B + 5 ∉ [B + 4, B + 3, B, B + 1] := by
  simp only [List.mem_cons, List.not_mem_nil, or_false]
  omega
theorem nat_ne2 (B : Nat) : B + 2 ∉ [B + 4, B + 3, B, B + 1] := by
  simp only [List.mem_cons, List.not_mem_nil, or_false]
  omega
theorem nat_in (B : Nat) : ∀ c ∈ [B + 4, B + 3, B, B + 1], c ∈ ezL B := by
  intro c h
  simp only [ezL, List.mem_cons, List.not_mem_nil, or_false] at h ⊢
  omega
theorem nat_n5 (B : Nat) : ∀ c ∈ [B + 4, B + 2, B + 3, B, B + 1], c ≠ B + 5 := by
  intro c h
  simp only [List.mem_cons, List.not_mem_nil, or_false] at h
  omega
theorem turn_ez {P : Program} {w : World} {K : PySem.W.Frag} {elts : List Expr} {kk : Nat} {tpos : Pos} (x y : Str) (t t' : Tok) (B : Addr) :
    Turn P w K (.Tuple elts kk tpos) (Itez x y) (ezL B) (B + 5) (EzAt x y t t' B) where
  mem := List.mem_cons_self ..
  obj := fun i h st b hb => by
    obtain ⟨a, ⟨old, e0⟩, ⟨f0, f, e1, _⟩, e2, ⟨u, v, e3⟩, ⟨o1, e4, _, d4⟩, ⟨o2, e5, _, d5⟩⟩ := st
    simp only [ezL, List.mem_cons, List.not_mem_nil, or_false] at hb
    rcases hb with rfl | rfl | rfl | rfl | rfl | rfl
    · exact ⟨_, e0, fun v q => nomatch q⟩
    · exact ⟨_, e1, fun v q => nomatch q⟩
    · exact ⟨_, e2, fun v q => nomatch q⟩
    · exact ⟨_, e3, fun v q => nomatch q⟩
    · exact ⟨_, e4, fun v q => by rw [d4] at q; cases q⟩
    · exact ⟨_, e5, fun v q => by rw [d5] at q; cases q⟩
  keep := fun i h h' st k => ez_frame st k
  item := by
    intro X hP hw hK hc i pins s σ H E I hf st hg
    subst hP hw hK
    have hh : X.A.handled = none := I.ok.hd hc
    have hg : i < min x.cps.size y.cps.size := hg
    have lt := ez_lt st
    obtain ⟨_, ⟨old, he⟩, hz, hTI, hTO, h1, h2⟩ := st
    have D1 := Draws.text (prog := X.prog) (w := X.w) (A := X.A.in1.in1) hh B x t
    have D2 := Draws.text (prog := X.prog) (w := X.w) (A := X.A.in1.in1) hh (B + 1) y t'
    refine enum_next he fun E' => zip_nextOf (sep_at B) D1 D2 hz hTI hTO h1 h2 (by omega) (by omega) fun x1 x2 g1 tk p1 p2 hz' hTO' n1 n2 hT2 hsz hk => ⟨hk _ _ (nat_ne5 B) he, fun g2 he2 hT hsz2 hk2 => ?_⟩
    obtain ⟨c, u1, hc1, rfl⟩ := p1
    obtain ⟨c', u2, hc2, rfl⟩ := p2
    refine ⟨_, rfl, wpAny_letOwnedTupleGo_enum (s := { s with heap := g2, toks := tk + 1 }) he2 fun g3 he3 sb => ?_⟩
    have hn2 : ∀ b ∈ ezL B, b ≠ s.heap.objs.size := fun b hb => Nat.ne_of_lt (lt b hb)
    have new1 : ObjOk X.prog X.w (upd H s.heap.objs.size (.tup [.str ⟨#[c]⟩, .str ⟨#[c']⟩])) g1 s.heap.objs.size (.tup [.str ⟨#[c]⟩, .str ⟨#[c']⟩]) :=
      ⟨by show 2 ≤ sizeLine; decide, [_, _], .cons ⟨_, rfl⟩ (.cons ⟨_, rfl⟩ .nil), ⟨_, hT2, rfl, _, rfl⟩⟩
    have I1 : Inv X pins σ (upd H s.heap.objs.size (.tup [.str ⟨#[c]⟩, .str ⟨#[c']⟩])) { s with heap := g1, toks := tk } :=
      I.turnedNew (ch := ezL B) (fun b ob hb q => hk b ob (fun z => hb (nat_in B b z)) q) hf (Nat.le_refl _) new1
    have hf1 : ∀ b ∈ ezL B, FpOk X pins (upd H s.heap.objs.size (.tup [.str ⟨#[c]⟩, .str ⟨#[c']⟩])) b := fun b hb => ⟨by rw [upd_ne (hn2 b hb)]; exact (hf b hb).1, (hf b hb).2⟩
    have up : ∀ b o, b ≠ B + 5 → g1.get? b = some o → g3.get? b = some o := fun b o hb q => (sb.2 b hb).trans (hk2 b o hb q)
    have hT3 : g3.get? g1.objs.size = some _ := (sb.2 _ (fun z => by
      have := lt (B + 5) (List.mem_cons_self ..)
      rw [← z, hsz] at this
      exact Nat.lt_irrefl _ (Nat.lt_trans (Nat.lt_succ_self _) this))).trans hT
    have new2 : ObjOk X.prog X.w (upd (upd H s.heap.objs.size (.tup [.str ⟨#[c]⟩, .str ⟨#[c']⟩])) g1.objs.size (.tup [.int (i : Nat), .ref s.heap.objs.size])) g3 g1.objs.size (.tup [.int (i : Nat), .ref s.heap.objs.size]) :=
      ⟨by show 2 ≤ sizeLine; decide, [_, _], .cons ⟨_, rfl⟩ (.cons rfl .nil), ⟨_, hT3, rfl, _, rfl⟩⟩
    have I2 := I1.turnedNew (t' := tk + 1) (ch := ezL B) (h' := g3) (fun b ob hb q => up b ob (fun z => hb (by rw [z]; exact List.mem_cons_self ..)) q) hf1 (Nat.le_refl _) new2
    refine ⟨.ref g1.objs.size, _, I2, rfl, ⟨_, _, c, c', rfl, I.hok.fresh (Nat.le_refl _), I1.hok.fresh (Nat.le_refl _), rfl, hc1, hc2⟩, ⟨by omega, ⟨_, by rw [Int.natCast_add]; exact he3⟩, ?_, up _ _ (nat_n5 B _ (by simp)) (hk _ _ (nat_ne2 B) hTI), ?_, ?_, ?_⟩, fun b hb => ?_⟩
    · obtain ⟨f0, f, a, b⟩ := hz'
      exact ⟨f0, f, up _ _ (nat_n5 B _ (by simp)) a, b⟩
    · obtain ⟨a, b, q⟩ := hTO'
      exact ⟨a, b, up _ _ (nat_n5 B _ (by simp)) q⟩
    · exact D1.frame _ _ _ n1 fun b hb o q => up b o (by rw [List.mem_singleton.mp hb]; exact nat_n5 B _ (by simp)) q
    · exact D2.frame _ _ _ n2 fun b hb o q => up b o (by rw [List.mem_singleton.mp hb]; exact nat_n5 B _ (by simp)) q
    · rw [upd_ne (fun z => ?_), upd_ne (hn2 b hb)]
      · exact (hf b hb).1
      · have := lt b hb
        rw [z, hsz] at this
        exact Nat.lt_irrefl _ (Nat.lt_trans (Nat.lt_succ_self _) this)
  done := by
    intro X hP hw hK hc i pins s σ H E I hf st hg
    subst hP hw hK
    have hh : X.A.handled = none := I.ok.hd hc
    have hg : min x.cps.size y.cps.size ≤ i := hg
    obtain ⟨hle, ⟨old, he⟩, hz, hTI, hTO, h1, h2⟩ := st
    have D1 := Draws.text (prog := X.prog) (w := X.w) (A := X.A.in1.in1) hh B x t
    have D2 := Draws.text (prog := X.prog) (w := X.w) (A := X.A.in1.in1) hh (B + 1) y t'
    refine enum_end he fun Q' E' hE => zip_nextEnd (sep_at B) D1 D2 hz hTI hTO h1 h2 (by omega) (by omega) (by omega) fun h' tk e hk hx => hE e _ hx ⟨rfl, ?_⟩
    exact I.turnedL (t' := tk) (ch := ezL B) (fun b o hb q => hk b o (fun z => hb (nat_in B b z)) q) hf
  self := fun A i s Q E st h => by
    obtain ⟨old, he⟩ := st.en
    exact wpAny_pyIter_enum he h
end K4
set_option Elab.async false
set_option linter.all false
set_option maxRecDepth 100000
set_option maxHeartbeats 8000000
namespace K4
open PySem PySem.Spec PyProof.Rows L2 K4M
section
variable {prog : Program} {w : World} {A : Around} {E : Value → Shared → Prop} {s : Shared}
theorem meets_enz (z : Addr) (fs : Array Value) :
    Meets (Builtin.«enumerate.__new__» ⟨[.type "enumerate", .ref z], []⟩) (fun _ R s => (∃ TI TO, IsZip s.heap z TI TO .none) ∧
      R (.ok (.ret (.ref s.heap.objs.size))) { s with heap := s.heap.push { cls := .type "enumerate", data := .fields #[.none, .bool false, .ref z, rawInt 0, .none, .none] } }) :=
  .of_wp fun prog w A R s h => by
    obtain ⟨hp, g, d, tk, os⟩ := s
    obtain ⟨⟨TI, TO, hz⟩, h⟩ := h
    have hsub := sub_enumerate
    have hZ : IsZip (Shared.heap ⟨hp, g, d, tk, os⟩) z TI TO .none := hz
    wp_walk using AutoSeq1.wpAny_loadPart' hz
    refine wpAny_stack_any fun st => wpAny_pure ?_
    split
    · rename_i c _ _ _ _ _
      cases (c == Value.type "enumerate") <;> (wp_walk using AutoSeq1.wpAny_loadPart' hz, wpAny_pyIter_zip hZ; exact ⟨_, rfl, h⟩)
    · wp_walk using AutoSeq1.wpAny_loadPart' hz, wpAny_pyIter_zip hZ
      exact ⟨_, rfl, h⟩
theorem call_enz {z TI TO : Addr} {Q : Value → Shared → Prop} (hz : IsZip s.heap z TI TO .none)
    (h : ∀ h', IsEnum h' s.heap.objs.size z 0 .none → (∀ b o, s.heap.get? b = some o → h'.get? b = some o) → Q (.ref s.heap.objs.size) { s with heap := h' }) :
    wpAny (model prog w) A (call (.type "enumerate") [.ref z]) Q E s := by
  have he : IsEnum (s.heap.push { cls := .type "enumerate", data := .fields #[.none, .bool false, .ref z, rawInt 0, .none, .none] }) s.heap.objs.size z 0 .none := Heap.get?_push_size _ rfl
  exact callType_new F.called_enumerate (by decide) (F.typeCall_enumerate_1 _) (F.newCall_enumerate_1 _) (fun obj => F.args_object_init_2 obj _) F.entry_enumerate_new (meets_enz z #[]) ⟨⟨_, _, hz⟩, ⟨_, he, rfl⟩, h _ he fun b o x => Heap.get?_push_of_some _ x⟩
end
def iEnz (ta : TA) : TI := fun σ H R => ta σ H fun vs H1 => ∃ x y : Str, vs = [.str x, .str y] ∧ R (Itez x y) H1
section
variable {X : Cx} {e e2 : Expr} {ta : TA} {p p2 pos pos2 tpos : Pos} {elts : List Expr} {kk : Nat}
theorem pi_enz (hg : Gl X "enumerate") (hm : X.mg "enumerate" = none) (hg2 : Gl X "zip") (hm2 : X.mg "zip" = none) (ha : PA X [e, e2] ta)
    (hs : starEach [e, e2] X.env = (false, eval e X.env) :: starEach [e2] X.env := by rfl) (hpl : (backTo pos2 (starEach [e2] X.env)).any (·.1) = false := by rfl)
    (hs2 : starEach [.Call (.Name "zip" p2) [e, e2] [] pos2] X.env = (false, eval (.Call (.Name "zip" p2) [e, e2] [] pos2) X.env) :: starEach [] X.env := by rfl) :
    PI X (.Tuple elts kk tpos) (.Call (.Name "enumerate" p) [.Call (.Name "zip" p2) [e, e2] [] pos2] [] pos) (iEnz ta) := by
  refine ⟨fun pins s σ H R I h => ?_⟩
  refine Call_ (ld_blt I hg hm boot_enumerate (PyProof.Rows.callWith_type1 (args_cons (Call_ (ld_blt I hg2 hm2 PyProof.Rows.boot_zip (PyProof.Rows.callWith_type1 (thn (ha.run pos2 pins s σ H _ I h) fun us s1 q => ?_) hs hpl))) hs2) hs2 rfl))
  obtain ⟨vs, H1, I1, r1, x, y, ev, q⟩ := q
  subst ev
  cases r1 with
  | cons r rr =>
    cases rr with
    | cons r' rr =>
      cases rr
      obtain ⟨t, rfl⟩ := r
      obtain ⟨t', rfl⟩ := r'
      refine zip_begins2 (begins_text x t) (begins_text y t') trivial trivial fun h' hz hTI hTO g1 g2 hsz hk => args_nil (call_enz hz fun h2 he hk2 => wpAny_pyIter_enum he ?_)
      have I2 : Inv X pins σ H1 { s1 with heap := h2 } := I1.kept (t' := s1.toks) fun b o q => hk2 b o (hk b o q)
      have hsz : h'.objs.size = s1.heap.objs.size + 5 := hsz
      refine ⟨s1.heap.objs.size + 5, ezL s1.heap.objs.size, EzAt x y t t' s1.heap.objs.size, Itez x y, H1, by rw [← hsz], I2, turn_ez x y t t' _, ⟨Nat.zero_le _, ⟨.none, by rw [← hsz]; exact he⟩, ⟨_, _, hk2 _ _ hz, .inl rfl⟩, hk2 _ _ hTI, ⟨_, _, hk2 _ _ hTO⟩, ⟨_, hk2 _ _ g1, rfl, rfl⟩, ⟨_, hk2 _ _ g2, rfl, rfl⟩⟩, fun b hb => ?_, q⟩
      have hle : s1.heap.objs.size ≤ b := by
        simp only [ezL, List.mem_cons, List.not_mem_nil, or_false] at hb
        rcases hb with z | z | z | z | z | z <;> rw [z] <;> first | exact Nat.le_refl _ | exact Nat.le_add_right _ _
      exact I1.fpOk hle (I1.hok.fresh hle)
/-- w[::-1] -/
def tRevS (te : TE) : TE := fun σ H Q => te σ H fun x H1 => ∃ w : List Nat, x = .str (S w) ∧ w.length ≤ 1000000 ∧ Q (.str (S w.reverse)) H1
theorem rev_picked (w : List Nat) (u : Tok) : (⟨((slicePicked (S w) none none (some (-1, u))).filterMap ((S w).cps[·]?)).toArray⟩ : Str) = S w.reverse := by
  have h1 := PyProof.Rows.step_rev_list (S w) u
  have e : (Txt.sliceBy (S w) none none (-1, u)) = (⟨((slicePicked (S w) none none (some (-1, u))).filterMap ((S w).cps[·]?)).toArray⟩ : Str) := by
    unfold Txt.sliceBy
    rw [if_neg]
    rw [show ((((some ((-1 : Int), u)).map (·.1)).getD 1 == 1)) = false from rfl, Bool.false_and]
    exact Bool.false_ne_true
  rw [← e]
  have h2 : (Txt.sliceBy (S w) none none (-1, u)).cps.toList = w.reverse := by
    rw [h1]
    apply List.ext_getElem?
    intro i
    rw [List.getElem?_map]
    have el : (S w).length = w.length := S_len w
    rw [el]
    by_cases hi : i < w.length
    · rw [List.getElem?_range hi, List.getElem?_reverse hi]
      have hj : w.length - 1 - i < w.length := by omega
      show some ((w.toArray).getD (w.length - 1 - i) 0) = _
      rw [List.getElem?_eq_getElem hj]
      simp [Array.getD, hj]
    · rw [List.getElem?_eq_none (by rw [List.length_range]; omega), List.getElem?_eq_none (by rw [List.length_reverse]; omega)]
      rfl
  show Txt.sliceBy (S w) none none (-1, u) = ⟨w.reverse.toArray⟩
  rw [← h2]
theorem pe_revS {te : TE} {k : Nat} {q1 q2 q3 : Pos} (he : PE X e te) : PE X (.Subscript e (.Slice none none (some (.UnaryOp .USub (.Constant (.int 1) k q1) q2)) q3) pos) (tRevS te) := by
  refine ⟨fun pins s σ H Q I h => ?_⟩
  refine Subscript_ (thn (he.run pins s σ H _ I h) fun v s1 q => ?_)
  obtain ⟨x, H1, I1, r1, w, ex, hw, q⟩ := q
  subst ex
  obtain ⟨t, rfl⟩ := r1
  have hst : PO X (some (.UnaryOp .USub (.Constant (.int 1) k q1) q2)) (tPart (tUn (rU fun i => .int (-i)) (tC (.int 1)))) := po_some (pe_un un_neg pe_int)
  refine wpAny_Slice (thn (po_none.run pins s1 σ H1 (fun o H2 => o = none ∧ H2 = H1) I1 ⟨rfl, rfl⟩) fun vl s2 y => ?_)
  obtain ⟨l, H2, I2, pl, rfl, rfl⟩ := y
  refine thn (po_none.run pins s2 σ H2 (fun o H3 => o = none ∧ H3 = H2) I2 ⟨rfl, rfl⟩) fun vu s3 y => ?_
  obtain ⟨u, H3, I3, pu, rfl, rfl⟩ := y
  refine thn (hst.run pins s3 σ H3 (fun o H4 => o = some (-1) ∧ H4 = H3) I3 ⟨1, rfl, -1, rfl, rfl, rfl⟩) fun vs s4 y => ?_
  obtain ⟨o, H4, I4, ps, rfl, rfl⟩ := y
  have I5 : Inv X pins σ H4 { s4 with heap := s4.heap.push { cls := .type "slice", data := .fields #[vl, vu, vs] } } := I4.kept (t' := s4.toks) fun b ob q => Heap.get?_push_of_some _ q
  cases pl
  cases pu
  cases ps with
  | int i tt =>
    show wpAny (model X.prog X.w) X.A (subscriptTail e (.Slice none none (some (.UnaryOp .USub (.Constant (.int 1) k q1) q2)) q3) (.str (S w) t) (.ref s4.heap.objs.size)) (EP X pins σ Q) X.xe { s4 with heap := s4.heap.push { cls := .type "slice", data := .fields #[.none, .none, .int (-1) tt] } }
    refine tail_any (ops := [.ref s4.heap.objs.size, .str (S w) t]) (typeIs_str _ _ _) F.slot_str_getitem.lookup ?_ (by with_unfolding_all rfl)
    refine wpAny_getItem_str_slice (l := none) (u := none) (st := some (-1, tt)) ⟨_, Heap.get?_push_size _ rfl, rfl, rfl⟩ rfl ?_
    unfold sliceMade
    rw [if_neg (by rw [show ((((some ((-1 : Int), tt)).map (·.1)).getD 1 == 1)) = false from rfl, Bool.false_and]; exact Bool.false_ne_true), rev_picked]
    have e2 := e16
    refine ⟨by rw [S_len, List.length_reverse]; omega, .str _, H4, I5.tok _, ⟨_, rfl⟩, q⟩
end
/-! ### in data -/
section
variable {C : Addr} {K : PySem.W.Frag}
def dRevS (a : TDE) : TDE := fun env n k => a env n fun x n1 => ∃ w : List Nat, x = .sh (.str w) ∧ w.length ≤ 1000000 ∧ k (.sh (.str w.reverse)) n1
theorem sim_revS {te : TE} {a : TDE} (ha : Sim C te a) : Sim C (tRevS te) (dRevS a) := fun M F H σ env n Q k s h hk => by
  refine look (ta := te) ha s h fun x n1 v F1 H1 h1 x1 o1 => ?_
  obtain ⟨w, rfl, hw, h1⟩ := h1
  cases o1
  exact ⟨w, rfl, hw, hk _ n1 _ F1 H1 h1 x1 (Rep.str _)⟩
def ezD (u w : List Nat) : List D := pairD (rngD 0 (min u.length w.length)) (pairD (signsD u) (signsD w))
theorem ezD_len (u w : List Nat) : (ezD u w).length = min u.length w.length := by
  unfold ezD pairD signsD
  rw [List.length_zipWith, rngD_len, List.length_zipWith, List.length_map, List.length_map, Nat.min_self]
theorem ezD_at {u w : List Nat} {i : Nat} {d : D} (h : (ezD u w)[i]? = some d) : ∃ c c', u[i]? = some c ∧ w[i]? = some c' ∧ d = .tup [.int (i : Int), .tup [.str [c], .str [c']]] := by
  unfold ezD at h
  obtain ⟨a, b, ha, hb, rfl⟩ := pairD_at h
  obtain ⟨_, rfl⟩ := rngD_at ha
  obtain ⟨x, y, hx, hy, rfl⟩ := pairD_at hb
  unfold signsD at hx hy
  rw [List.getElem?_map] at hx hy
  cases e : u[i]? with
  | none => rw [e] at hx; cases hx
  | some c =>
    cases e2 : w[i]? with
    | none => rw [e2] at hy; cases hy
    | some c' =>
      rw [e] at hx
      rw [e2] at hy
      cases hx
      cases hy
      exact ⟨c, c', rfl, rfl, by rw [Int.zero_add]⟩
def WalkD.ez {M : Option Addr} {F1 H1 : Hp} (u w : List Nat) : WalkD C M F1 H1 (Itez (S u) (S w)) (ezD u w) true where
  G := fun _ => True
  g0 := True.intro
  keep := fun _ _ => True.intro
  stab := fun _ _ _ _ _ => True.intro
  goes := fun i H hi q => by
    rw [ezD_len] at hi
    show i < min u.toArray.size w.toArray.size
    rw [List.size_toArray, List.size_toArray]
    exact hi
  stops := fun H q => by
    rw [ezD_len]
    show min u.toArray.size w.toArray.size ≤ min u.length w.length
    rw [List.size_toArray, List.size_toArray]
    exact Nat.le_refl _
  yields := fun i F H n x H' d s1 fh dk q hd y => by
    obtain ⟨c, c', hc, hc', rfl⟩ := ezD_at hd
    obtain ⟨T2, T, a, b, rfl, h2, hT, rfl, ha, hb⟩ := y
    have ea : a = c := by
      have : u.toArray[i]? = some a := ha
      rw [List.getElem?_toArray, hc] at this
      exact (Option.some.inj this).symm
    have eb : b = c' := by
      have : w.toArray[i]? = some b := hb
      rw [List.getElem?_toArray, hc'] at this
      exact (Option.some.inj this).symm
    subst ea eb
    obtain ⟨F1, x1, r1⟩ := pair_yield (C := C) fh dk h2 (.str [a]) (.str [b])
    obtain ⟨F2, x2, r2⟩ := pair_yield (C := C) x1.fh x1.die hT (.int (i : Int)) r1
    exact ⟨F2, x1.trans x2, r2⟩
def diEnz (t : TDA) : TDI := fun env n k => t env n fun rs n1 => ∃ u w : List Nat, rs = [.sh (.str u), .sh (.str w)] ∧ k (ezD u w) true n1
theorem sim_iEnz {ta : TA} {t : TDA} (ha : SimA C ta t) : SimI C (iEnz ta) (diEnz t) := fun M F H σ env n R k s h hk => by
  refine ha M F H σ env n _ _ s h fun rs n1 vs F1 H1 h1 x1 o1 => ?_
  obtain ⟨u, w, rfl, h1⟩ := h1
  cases o1 with
  | cons o r =>
    cases r with
    | cons o2 r =>
      cases r
      cases o
      cases o2
      exact ⟨S u, S w, rfl, hk _ _ n1 F1 H1 _ h1 x1 ⟨WalkD.ez u w⟩⟩
end
end K4
set_option Elab.async false
set_option linter.all false
set_option maxRecDepth 100000
set_option maxHeartbeats 4000000
namespace K4
open PySem PySem.Spec PyProof.Rows L2 K4M
theorem eqs_str (u v : List Nat) : D.eqs (.str u) (.str v) = (u == v) := rfl
theorem mem_ints {d : D} {ns : List Int} (h : d ∈ ns.map D.int) : ∃ i, i ∈ ns ∧ d = .int i := by
  obtain ⟨i, a, b⟩ := List.mem_map.mp h
  exact ⟨i, a, b.symm⟩
theorem drop1_cut {α : Type} (ds : List α) : (ds.drop (HT.sIx ds.length 0 (some 1))).take (HT.sIx ds.length ds.length none - HT.sIx ds.length 0 (some 1)) = ds.drop 1 := by
  have e : HT.sIx ds.length 0 (some 1) = min 1 ds.length := HT.sIx_nat ds.length 0 1
  rw [HT.sIx_none, e]
  by_cases h : 1 ≤ ds.length
  · rw [Nat.min_eq_left h, List.take_of_length_le (by rw [List.length_drop]; omega)]
  · have : ds = [] := List.length_eq_zero_iff.mp (by omega)
    subst this
    rfl
theorem cutD_drop1 (ds : List D) : cutD ds (some 1) none = ds.drop 1 := drop1_cut ds
theorem pair_ints {x : D} : ∀ {ns ms : List Int}, x ∈ pairD (ns.map D.int) (ms.map D.int) → ∃ a b, x = .tup [.int a, .int b]
  | [], _, h => by cases h
  | _ :: _, [], h => by cases h
  | a :: ns, b :: ms, h => by
    rcases List.mem_cons.mp h with h | h
    · exact ⟨a, b, h⟩
    · exact pair_ints (ns := ns) (ms := ms) h
theorem pair_cmp : ∀ (ns ms : List Int), (pairD (ns.map D.int) (ms.map D.int)).map (fun x => match x with | .tup [.int a, .int b] => D.bl (decide (a < b)) | _ => .non) = (List.zipWith (fun a b => decide (a < b)) ns ms).map D.bl
  | [], _ => rfl
  | _ :: _, [] => rfl
  | a :: ns, b :: ms => congrArg (D.bl (decide (a < b)) :: ·) (pair_cmp ns ms)
section
variable {P : Program} {w : World} {K : PySem.W.Frag} {mg : Str → Option Value} {base : Heap}
theorem scd_count : FnScope ["value"] ["value"] (defScope st_is_count) := ⟨rfl, rfl, rfl, by decide +kernel, rfl, by decide +kernel, by decide +kernel⟩
theorem okd_count {C : Addr}  (CW : Cal P w K mg base 1 "is_whole_number" ["value"] (spD C 1 fWhole)) (Z : Df K mg "is_count" st_is_count ["value"]) : FnOk P w K mg base CX0 2 Z.f Z.fd ["value"] (spD C 1 fCount) := by
  refine Z.F.ok scd_count (fun vs H Q E h => spD_len h) (fun cdv A outer s H vs Q E hr h => ?_)
  refine ⟨_, (pss_one (ps_ret (pe_and (pcall CW hr (by rfl) (pa_cons (pv 0) pa_nil)) (pe_one (pe_cmpR op_ge (pv 0) pe_int (nomark _)))))), enter (C := C) (sim_ret (sim_andV (sim_call rfl (sim_cons (sim_var 0) sim_nil)) (sim_op s_cI (sim_var 0) (sim_int _)))) h fun as n k hl h => ?_⟩
  obtain ⟨d, rfl, hd, h⟩ := h
  refine ⟨_, rfl, _, rfl, rfl, d, rfl, hd, _, rfl, ?_⟩
  cases d <;> first
    | exact hd.elim
    | exact iteF ⟨rfl, h⟩
    | skip
  exact iteT ⟨_, rfl, nofun, nofun, _, _, rfl, rfl, rfl, h⟩
theorem scd_made : FnScope ["value", "signs"] ["value", "signs"] (defScope st_is_made_of) := ⟨rfl, rfl, rfl, by decide +kernel, rfl, by decide +kernel, by decide +kernel⟩
theorem okd_made {C : Addr}  (B : Bi mg) (Z : Df K mg "is_made_of" st_is_made_of ["value", "signs"]) : FnOk P w K mg base CX0 1 Z.f Z.fd ["value", "signs"] (spD C 2 fMade) := by
  refine Z.F.ok scd_made (fun vs H Q E h => spD_len h) (fun cdv A outer s H vs Q E hr h => ?_)
  refine ⟨_, (pss_one (ps_ret (pe_and (pe_callB call_isi (by rfl) B.isi (by decide +kernel) (pa_cons (pv 0) (pa_cons (pe_bltn (v := .ty "str") (by rfl) B.str (by decide +kernel) rfl) pa_nil))) (pe_one (pe_cmpR op_eq (pe_bm PySem.F.plainAttrs_str PySem.F.slot_str_strip PySem.F.type_str_strip mt_stripChars (pv 0) (pa_cons (pv 1) pa_nil)) pe_str (nomark _)))))), enter (C := C) (sim_ret (sim_andV (sim_isi (sim_var 0)) (sim_op s_eq (sim_bmS m_strip (sim_var 0) (sim_var 1)) (sim_str (w := []) (by decide +kernel))))) h fun as n k hl h => ?_⟩
  obtain ⟨d, u, rfl, hd, h⟩ := h
  cases d <;> first
    | exact hd.elim
    | exact ⟨_, rfl, nofun, _, _, rfl, (by decide +kernel : kitB _ "str" = some false), _, rfl, rfl, h⟩
    | skip
  rename_i v
  refine ⟨_, rfl, nofun, _, _, rfl, (by decide +kernel : kitB _ "str" = some true), _, rfl, _, rfl, _, rfl, _, rfl, nofun, _, _, rfl, rfl, hd, fun z hz => ⟨nofun, nofun, rfl, rfl, rfl, rfl, ?_⟩⟩
  show dEnds k |>.rt (.sh (.bl (z == []))) n
  rw [hz]
  exact h
theorem scd_text : FnScope ["value"] ["value"] (defScope st_is_text) := ⟨rfl, rfl, rfl, by decide +kernel, rfl, by decide +kernel, by decide +kernel⟩
theorem okd_text {C : Addr}  {t : Tok} (lt : mg "LETTERS" = some (.str LET t)) (CM : Cal P w K mg base 1 "is_made_of" ["value", "signs"] (spD C 2 fMade)) (Z : Df K mg "is_text" st_is_text ["value"]) : FnOk P w K mg base CX0 2 Z.f Z.fd ["value"] (spD C 1 fText) := by
  refine Z.F.ok scd_text (fun vs H Q E h => spD_len h) (fun cdv A outer s H vs Q E hr h => ?_)
  refine ⟨_, (pss_one (ps_ret (pcall CM hr (by rfl) (pa_cons (pv 0) (pa_cons (pe_glob (v := .str LET) rfl lt ⟨_, rfl⟩) pa_nil))))), enter (C := C) (sim_ret (sim_call rfl (sim_cons (sim_var 0) (sim_cons (sim_str (w := letl) letS) sim_nil)))) h fun as n k hl h => ?_⟩
  obtain ⟨d, rfl, hd, h⟩ := h
  exact ⟨_, rfl, _, rfl, rfl, d, letl, rfl, hd, rfl, h⟩
theorem scd_ctext : FnScope ["value"] ["value"] (defScope st_check_text) := ⟨rfl, rfl, rfl, by decide +kernel, rfl, by decide +kernel, by decide +kernel⟩
theorem okd_ctext {C : Addr}  (CT : Cal P w K mg base 2 "is_text" ["value"] (spD C 1 fText)) (Z : Df K mg "check_text" st_check_text ["value"]) : FnOk P w K mg base CX0 3 Z.f Z.fd ["value"] (spD C 1 fCtext) := by
  refine Z.F.ok scd_ctext (fun vs H Q E h => spD_len h) (fun cdv A outer s H vs Q E hr h => ?_)
  refine ⟨_, (pss_one (ps_if (pt_not (pt_val (pcall CT hr (by rfl) (pa_cons (pv 0) pa_nil)))) pss_never pss_nil)), enter (C := C) (sim_ifS (sim_not (sim_tB (sim_call rfl (sim_cons (sim_var 0) sim_nil)))) sim_never sim_next) h fun as n k hl h => ?_⟩
  obtain ⟨v, rfl, hl, lo, h⟩ := h
  refine ⟨_, rfl, _, rfl, rfl, .str v, rfl, hl, _, rfl, ?_⟩
  rw [show D.made letl (.str v) = true from low_all lo]
  exact iteF h
end
end K4
set_option Elab.async false
set_option linter.all false
set_option maxRecDepth 100000
set_option maxHeartbeats 4000000
namespace K4
open PySem PySem.Spec PyProof.Rows L2 K4M
section
variable {C : Addr} {K : PySem.W.Frag}
/-! ### what one owns, lent -/
def frzE (env : List Ent) : List Ent := env.map fun e => match e with
  | .own o => .sh o.d
  | e => e
/-- it hangs on nothing that is lent -/
def Rs.free : Rs → Bool
  | .sh d => d.sc
  | .own (.lst ds) => ds.all D.sc
  | _ => false
def dBorrow (t : TDE) : TDE := fun env n k => t (frzE env) n fun r n' => r.free = true ∧ k r n'
theorem scal_rep {F F' : Hp} {v : V} {d : D} (h : d.sc = true) (r : Rep C F v d) : Rep C F' v d := by
  cases r <;> first | exact .non | exact .bl _ | exact .int _ | exact .str _ | exact absurd h Bool.false_ne_true
theorem scal_repAll {F F' : Hp} {vs : List V} {ds : List D} (h : ds.all D.sc = true) (r : RepAll C F vs ds) : RepAll C F' vs ds := by
  induction vs generalizing ds with
  | nil => cases r; exact .nil
  | cons v vs ih =>
    cases r with
    | cons h1 r1 =>
      rw [List.all_cons, Bool.and_eq_true] at h
      exact .cons (scal_rep h.1 h1) (ih h.2 r1)
open Classical in
noncomputable def lent (env : List Ent) (σ : L2.St) (F H : Hp) : Hp := fun b => if (∃ (i : Nat) (o : OD), env[i]? = some (Ent.own o) ∧ σ[i]? = some (some (V.ref b))) then H b else F b
theorem sim_borrow {te : TE} {t : TDE} (h : Sim C te t) : Sim C te (dBorrow t) := fun M F H σ env n Q k s hh hk => by
  have own : ∀ (i : Nat) (o : OD) (b : Addr), env[i]? = some (.own o) → σ[i]? = some (some (.ref b)) → F b = none ∧ M ≠ some b ∧ ∃ ho, H b = some ho ∧ RepO C F ho o := fun i o b he hb => by
    obtain ⟨p, ho, ev, h1, h2, h3, h4⟩ := s.ent i _ he
    rw [hb] at ev
    injection ev with ev
    injection ev with ev
    injection ev with ev
    subst ev
    exact ⟨h1, h2, ho, h3, h4⟩
  have sF : Same F (lent env σ F H) := fun b o e => by
    unfold lent
    split
    · rename_i hx
      obtain ⟨i, q, h1, h2⟩ := hx
      rw [(own i q b h1 h2).1] at e
      cases e
    · exact e
  have sH : Same (lent env σ F H) H := fun b o e => by
    unfold lent at e
    split at e
    · exact e
    · exact s.fh _ _ e
  have dF : DieOk M (lent env σ F H) H n := fun d hd => by
    refine ⟨(s.die d hd).1, ?_⟩
    unfold lent
    split
    · rename_i hx
      obtain ⟨i, q, h1, h2⟩ := hx
      exact absurd hd (own i q d h1 h2).2.1
    · exact (s.die d hd).2
  have st : StE C M (lent env σ F H) H σ (frzE env) n := by
    refine ⟨by unfold frzE; rw [List.length_map]; exact s.len, sH, fun i e he => ?_, dF⟩
    unfold frzE at he
    rw [List.getElem?_map] at he
    cases e0 : env[i]? with
    | none => rw [e0] at he; cases he
    | some f =>
      rw [e0] at he
      have ok := s.ent i f e0
      cases f with
      | un => cases he; exact True.intro
      | die => cases he; exact ok
      | sh d =>
        cases he
        obtain ⟨v, a, b⟩ := ok
        exact ⟨v, a, b.mono sF⟩
      | own o =>
        cases he
        obtain ⟨p, ho, ev, h1, h2, h3, h4⟩ := ok
        refine ⟨_, ev, RepO.rep ?_ (h4.mono sF)⟩
        unfold lent
        rw [if_pos ⟨i, o, e0, ev⟩]
        exact h3
  refine h M _ H σ _ n _ _ st hh fun r n' v F' H' h1 x1 o1 => ?_
  obtain ⟨hd, h1⟩ := h1
  refine hk _ n' v F H' h1 ⟨Same.refl _, fun b o e => x1.fh _ _ (x1.ff _ _ (sF _ _ e)), x1.keep, fun b o hb _ => hb, fun d hd => ⟨(x1.die d hd).1, (s.die d hd).2⟩⟩ ?_
  cases r with
  | sh d => exact scal_rep hd o1
  | loc o => cases hd
  | die => cases hd
  | own o =>
    obtain ⟨p, ho, rfl, h0, h1, h2, h3⟩ := o1
    cases o with
    | dic _ => cases hd
    | lst ds =>
      obtain ⟨vs, rfl, r⟩ := h3.lst
      refine ⟨p, _, rfl, h0, ?_, h2, scal_repAll hd r⟩
      cases q : F p with
      | none => rfl
      | some u =>
        rw [s.fh _ _ q] at h0
        cases h0
/-- a, b = e, f where the tuple is laid -/
def dAsg2 (i j : Nat) (a b : TDE) : TDS := fun E env n => a env n fun r n1 => r.ok = true ∧ b env n1 fun q n2 => ∃ e, q.ent = some e ∧ i < env.length ∧ j < env.length ∧ E.nx ((env.set i (.sh r.d)).set j e) n2
theorem sim_asg2 {i j : Nat} {ta tb : TE} {a b : TDE} (ha : Sim C ta a) (hb : Sim C tb b) : SimS C (tAsg (tTup (tCons ta (tCons tb tNil))) (gTup K 2 (gCons (gName i) (gCons (gName j) gNil)))) (dAsg2 i j a b) := fun M Fm F0 H0 F H σ env n D E s ok h =>
  look (ta := ta) ha s.e h fun r n1 v F1 H1 h1 x1 o1 => by
    obtain ⟨hok, h1⟩ := h1
    have s1 := s.ext x1
    refine hb M F1 H1 σ env n1 _ _ s1.e h1 fun q n2 w F2 H2 h2 x2 o2 => ?_
    obtain ⟨e, he, hi, hj, h2⟩ := h2
    refine ⟨by rw [e16]; show 2 ≤ _; decide, fun p hp => ?_⟩
    have x3 := Ext.allocOwn x2.fh x2.die hp (.tup [v, w])
    have o3 : RsOk C M H1 F2 (upd H2 p (.tup [v, w])) w q := by
      cases q with
      | sh d => exact o2
      | die => cases he
      | loc o => cases he
      | own o =>
        obtain ⟨p', ho, rfl, a0, a1, a2, a3⟩ := o2
        exact ⟨p', ho, rfl, a0, a1, by rw [upd_ne (ne_of_none a2 hp)]; exact a2, a3⟩
    have sA := s1.set (r := .sh r.d) (i := i) (v := v) (Ext.refl s1.e.fh s1.e.die) (rs_rep o1 hok) rfl hi
    refine ⟨p, [v, w], rfl, .inl (.inl upd_same), rfl, v, [w], rfl, w, [], rfl, rfl, ?_⟩
    exact ok.nx _ _ _ _ n2 (sA.set (x2.trans x3) o3 he (by rw [List.length_set]; exact hj)) h2
/-! ### -i -/
theorem rgV_rep {F : Hp} (a b : Int) : RepAll C F (rgV a b) (rngD a (b - a).toNat) := by
  unfold rgV rngD
  generalize List.range (b - a).toNat = l
  induction l with
  | nil => exact .nil
  | cons i r ih => exact .cons (.int _) ih
def dListRg2 (a b : TDE) : TDE := fun env n k => a env n fun x n1 => ∃ i, x = .sh (.int i) ∧ b env n1 fun y n2 => ∃ j, y = .sh (.int j) ∧ RgOk i j ∧ k (.own (.lst (rngD i (j - i).toNat))) n2
theorem sim_listRg2 {ta tb : TE} {a b : TDE} (ha : Sim C ta a) (hb : Sim C tb b) : Sim C (tLstRg (tRg2 ta tb)) (dListRg2 a b) := fun M F H σ env n Q k s h hk => by
  refine look (ta := ta) ha s h fun x n1 v F1 H1 h1 x1 o1 => ?_
  obtain ⟨i, rfl, h1⟩ := h1
  cases o1
  refine look (ta := tb) hb (s.ext x1) h1 fun y n2 w F2 H2 h2 x2 o2 => ?_
  obtain ⟨j, rfl, hr, h2⟩ := h2
  cases o2
  refine ⟨i, j, rfl, rfl, hr, fun p hp => ?_⟩
  have x3 := Ext.allocOwn x2.fh x2.die hp (.lst (rgV i j))
  refine hk _ n2 _ F2 _ h2 (x1.trans (x2.trans x3)) (rs_from' (x1.trans x2) (r := .own _) ⟨p, _, rfl, hp, ?_, upd_same, rgV_rep i j⟩)
  cases q : F2 p with
  | none => rfl
  | some u =>
    rw [x2.fh _ _ q] at hp
    cases hp
def dListRg1 (a : TDE) : TDE := fun env n k => a env n fun x n1 => ∃ j, x = .sh (.int j) ∧ RgOk 0 j ∧ k (.own (.lst (rngD 0 (j - 0).toNat))) n1
theorem sim_listRg1 {ta : TE} {a : TDE} (ha : Sim C ta a) : Sim C (tLstRg (tRg1 ta)) (dListRg1 a) := fun M F H σ env n Q k s h hk => by
  refine look (ta := ta) ha s h fun y n2 w F2 H2 h2 x2 o2 => ?_
  obtain ⟨j, rfl, hr, h2⟩ := h2
  cases o2
  refine ⟨j, rfl, hr, fun p hp => ?_⟩
  have x3 := Ext.allocOwn x2.fh x2.die hp (.lst (rgV 0 j))
  refine hk _ n2 _ F2 _ h2 (x2.trans x3) (rs_from' x2 (r := .own _) ⟨p, _, rfl, hp, ?_, upd_same, rgV_rep 0 j⟩)
  cases q : F2 p with
  | none => rfl
  | some u =>
    rw [x2.fh _ _ q] at hp
    cases hp
def fNeg : D → (Rs → Prop) → Prop := fun a k => ∃ i, a = .int i ∧ k (.sh (.int (-i)))
theorem s_neg : UnS C (rU fun i => .int (-i)) fNeg := fun M F H n x a Q k fh d vx h hk => by
  obtain ⟨i, rfl, h⟩ := h
  rw [view_int vx]
  exact ⟨i, rfl, fin fh d hk h (.int _)⟩
/-! ### the law's own: draws -/
theorem ext_dice {d : Addr} {F H H' : Hp} {n n' : Nat} (fh : Same F H) (dk : DieOk (some d) F H n) (hD : Dice H' d n') (hk : Kept H H' d) : Ext (some d) F H F H' n' := by
  have hF := (dk d rfl).2
  refine ⟨Same.refl _, fun b o e => hk b o (fun z => ?_) (fh _ _ e), fun b o hb e => hk b o (fun z => hb (by rw [z])) e, fun b o hb _ => hb, fun b hb => ?_⟩
  · rw [z, hF] at e
    cases e
  · cases hb
    exact ⟨hD, hF⟩
theorem ar2 {M : Option Addr} {F : Hp} {vs : List V} {a b : Ar} (h : ArAll C M F vs [a, b]) : ∃ x y, vs = [x, y] ∧ ArOk C M F x a ∧ ArOk C M F y b := by
  cases h with
  | cons h r =>
    cases r with
    | cons h2 r => cases r; exact ⟨_, _, rfl, h, h2⟩
theorem ar1 {M : Option Addr} {F : Hp} {vs : List V} {a : Ar} (h : ArAll C M F vs [a]) : ∃ x, vs = [x] ∧ ArOk C M F x a := by
  cases h with
  | cons h r => cases r; exact ⟨_, rfl, h⟩
def fDraw : DSp := fun as n k => ∃ m : Int, as = [.die, .d (.int m)] ∧ n < 2 ^ 59 ∧ 1 ≤ m ∧ m < 134217728 ∧ ∀ r : Int, 0 ≤ r → r < m → k (.sh (.int r)) (n + 1)
def fLetters : DSp := fun as n k => ∃ m : Nat, as = [.die, .d (.int (m : Int))] ∧ n < 2 ^ 58 ∧ m ≤ 26 ∧ ∀ u : List Nat, u.length = m → Low u → u.Pairwise (· < ·) → k (.sh (.str u)) (n + m)
def fOne : DSp := fun as n k => ∃ ds : List D, as = [.die, .d (.lst ds)] ∧ n < 2 ^ 59 ∧ 0 < ds.length ∧ ds.length < 100000 ∧ ∀ x ∈ ds, k (.sh x) (n + 1)
section
variable {P : Program} {w : World} {mg : Str → Option Value} {base : Heap} {k : Nat} {f : Addr} {fd : FuncData}
theorem drawD (h : FnOk P w K mg base CX0 k f fd ["dice", "many"] spDraw) : FnOk P w K mg base CX0 k f fd ["dice", "many"] (spD C 2 fDraw) := h.imp fun vs H Q E q => by
  obtain ⟨M, F, n, as, k, hm, fh, dk, ha, ⟨m, rfl, hn, h1, h2, hq⟩, hk⟩ := q
  obtain ⟨x, y, rfl, ⟨d, rfl, rfl⟩, r⟩ := ar2 ha
  cases r
  refine ⟨d, m, n, rfl, (dk d rfl).1, hn, h1, h2, fun r H' r0 r1 hD kp => ?_⟩
  exact hk _ (n + 1) _ F H' (hq r r0 r1) (ext_dice fh dk hD kp) (Rep.int r)
theorem oneD (h : FnOk P w K mg base CX0 k f fd ["dice", "some"] (spOne K)) : FnOk P w K mg base CX0 k f fd ["dice", "some"] (spD C 2 fOne) := h.imp fun vs H Q E q => by
  obtain ⟨M, F, n, as, k, hm, fh, dk, ha, ⟨ds, rfl, hn, h1, h2, hq⟩, hk⟩ := q
  obtain ⟨x, y, rfl, ⟨d, rfl, rfl⟩, r⟩ := ar2 ha
  cases r with
  | @lst l vs _ e r =>
    have hl := r.len
    refine ⟨d, l, n, vs, rfl, (dk d rfl).1, hn, fun z => ?_, .inl (.inl (fh _ _ e)), by omega, by omega, fun i x H' hx hD kp => ?_⟩
    · rw [z, (dk d rfl).2] at e
      cases e
    · obtain ⟨dx, hd, rx⟩ := r.at hx
      exact hk _ (n + 1) _ F H' (hq dx (List.mem_of_getElem? hd)) (ext_dice fh dk hD kp) rx
end
/-! ### exact -/
def D.dep : Nat → D → Bool
  | _, .non => true
  | _, .bl _ => true
  | _, .int _ => true
  | _, .str _ => true
  | n + 1, .lst ds => decide (ds.length ≤ 100000) && ds.all (D.dep n)
  | n + 1, .tup ds => decide (ds.length ≤ 100000) && ds.all (D.dep n)
  | _, _ => false
theorem flat_eqv {F H : Hp} {n : Nat} {x y : V} {d : D} (hs : d.sc = true) (hx : Rep C F x d) (hy : Rep C F y d) : Eqv K H n x y := by
  rw [rep_sc hs hx, rep_sc hs hy]
  refine Eqv.flat ?_
  cases d <;> first | exact True.intro | exact absurd hs Bool.false_ne_true
theorem rep_eqv {F H : Hp} (fh : Same F H) : ∀ {n : Nat} {d : D} {x y : V}, d.dep n = true → Rep C F x d → Rep C F y d → Eqv K H n x y
  | n, .non, x, y, h, hx, hy => flat_eqv rfl hx hy
  | n, .bl _, x, y, h, hx, hy => flat_eqv rfl hx hy
  | n, .int _, x, y, h, hx, hy => flat_eqv rfl hx hy
  | n, .str _, x, y, h, hx, hy => flat_eqv rfl hx hy
  | 0, .lst _, x, y, h, hx, hy => by cases h
  | 0, .tup _, x, y, h, hx, hy => by cases h
  | n + 1, .lst ds, _, _, h, .lst e r, .lst e2 r2 => by
    unfold D.dep at h
    rw [Bool.and_eq_true, decide_eq_true_eq, List.all_eq_true] at h
    refine .inr ⟨_, _, _, _, rfl, rfl, by rw [r.len]; exact h.1, by rw [r.len, r2.len], .inl ⟨.inl (.inl (fh _ _ e)), .inl (.inl (fh _ _ e2))⟩, fun i u v hu hv => ?_⟩
    obtain ⟨du, e3, ru⟩ := r.at hu
    obtain ⟨dv, e4, rv⟩ := r2.at hv
    rw [e3] at e4
    cases e4
    exact rep_eqv fh (h.2 _ (List.mem_of_getElem? e3)) ru rv
  | n + 1, .tup ds, _, _, h, .tup e r, .tup e2 r2 => by
    unfold D.dep at h
    rw [Bool.and_eq_true, decide_eq_true_eq, List.all_eq_true] at h
    refine .inr ⟨_, _, _, _, rfl, rfl, by rw [r.len]; exact h.1, by rw [r.len, r2.len], .inr ⟨.inl (.inl (fh _ _ e)), .inl (.inl (fh _ _ e2))⟩, fun i u v hu hv => ?_⟩
    obtain ⟨du, e3, ru⟩ := r.at hu
    obtain ⟨dv, e4, rv⟩ := r2.at hv
    rw [e3] at e4
    cases e4
    exact rep_eqv fh (h.2 _ (List.mem_of_getElem? e3)) ru rv
  | n, .dic _, x, y, h, hx, hy => by cases n <;> cases h
  | n, .gnd _ _, x, y, h, hx, hy => by cases n <;> cases h
def fExact (m : Nat) : DSp := fun as n k => ∃ a b : D, as = [.d a, .d b] ∧ a = b ∧ a.dep m = true ∧ k (.sh (.bl true)) n
theorem exactD {P : Program} {w : World} {mg : Str → Option Value} {base : Heap} {k m : Nat} {f : Addr} {fd : FuncData} (h : FnOk P w K mg base CX0 k f fd ["mine", "theirs"] (spExact K m)) : FnOk P w K mg base CX0 k f fd ["mine", "theirs"] (spD C 2 (fExact m)) := h.imp fun vs H Q E q => by
  obtain ⟨M, F, n, as, k, hm, fh, dk, ha, ⟨a, b, rfl, rfl, hd, hq⟩, hk⟩ := q
  obtain ⟨x, y, rfl, rx, ry⟩ := ar2 ha
  refine ⟨x, y, rfl, rep_eqv fh hd rx ry, fun H' s' => ?_⟩
  refine hk _ n _ F H' hq ⟨Same.refl _, fh.trans s', fun b o _ e => s' _ _ e, fun b o hb _ => hb, fun d hd => ⟨Same.dice s' (dk d hd).1, (dk d hd).2⟩⟩ (Rep.bl true)
/-! ### a comprehension, any -/
theorem lcR_gen {tg : TDG} {tt : TDT} {te : TDE} {env : List Ent} (I : Nat → List D → Nat → Prop) {xs : List D} {n : Nat} {k : List D → Nat → Prop} (h0 : I 0 [] n)
    (hs : ∀ (i : Nat) (x : D) (acc : List D) (n : Nat) (k : List D → Nat → Prop), xs[i]? = some x → I i acc n → (∀ acc' n', I (i + 1) acc' n' → k acc' n') → ∃ env', tg x env = some env' ∧ tt env' n fun b n1 => if b = true then te env' n1 fun y n2 => y.ok = true ∧ k (acc ++ [y.d]) n2 else k acc n1)
    (hd : ∀ acc n, I xs.length acc n → k acc n) : lcR tg tt te env xs [] n k := by
  have key : ∀ (m j : Nat) (acc : List D) (n : Nat), j + m = xs.length → I j acc n → lcR tg tt te env (xs.drop j) acc n k := fun m => by
    induction m with
    | zero =>
      intro j acc n hj hI
      have : j = xs.length := by omega
      subst this
      rw [List.drop_length]
      exact hd acc n hI
    | succ m ih =>
      intro j acc n hj hI
      have hlt : j < xs.length := by omega
      rw [List.drop_eq_getElem_cons hlt]
      exact hs j _ acc n (fun acc' n' => lcR tg tt te env (xs.drop (j + 1)) acc' n' k) (List.getElem?_eq_getElem hlt) hI fun acc' n' h => ih (j + 1) acc' n' (by omega) h
  exact key xs.length 0 [] n (by omega) h0
/-- a loop, any -/
theorem forR_gen {tg : TDG} {tb : TDS} {E : DEnds} (I : Nat → List Ent → Nat → Prop) {xs : List D} {env : List Ent} {n : Nat} (h0 : I 0 env n)
    (hs : ∀ (i : Nat) (x : D) (env : List Ent) (n : Nat) (k : List Ent → Nat → Prop), xs[i]? = some x → I i env n → (∀ e m, I (i + 1) e m → k e m) → ∃ env', tg x env = some env' ∧ tb { E with nx := k, ct := k, bk := E.nx } env' n)
    (hd : ∀ env n, I xs.length env n → E.nx env n) : forR tg tb E xs env n := by
  have key : ∀ (m : Nat) (j : Nat) (env : List Ent) (n : Nat), j + m = xs.length → I j env n → forR tg tb E (xs.drop j) env n := fun m => by
    induction m with
    | zero =>
      intro j env n hj hI
      have : j = xs.length := by omega
      subst this
      rw [List.drop_length]
      exact hd env n hI
    | succ m ih =>
      intro j env n hj hI
      have hlt : j < xs.length := by omega
      rw [List.drop_eq_getElem_cons hlt]
      exact hs j _ env n _ (List.getElem?_eq_getElem hlt) hI fun e m h => ih (j + 1) e m (by omega) h
  exact key xs.length 0 env n (by omega) h0
/-! ### the law: a loop over the dices, then a word -/
def allUn (m : Nat) : List Ent := List.replicate m .un
def lawE (m : Nat) : DEnds := { nx := fun env _ => env.length = m, rt := fun r _ => r = .sh (.bl true) }
def lawT : DEnds := { nx := fun _ _ => False, rt := fun r _ => r = .sh (.bl true) }
theorem law_loop {N : List Str} {j : Nat} {few : Int} {tb tl : TS} {b u : TDS} {vs : List V} {H : Hp} {Q : VK} {E : XK} (hb : SimS C tb b) (hl : SimS C tl u) (hj : j < N.length) (hN : 0 < N.length) (hfew : few ≤ 10)
    (hbody : b (lawE N.length) ((allUn N.length).set j .die) 0) (htail : u lawT (allUn N.length) 0) (h : spLaw K vs H Q E) :
    (tSeq (tFor (iList K (tCall (spDices K) [] E0 (tCons (tVar 0) (tCons (tC (.int few)) tNil)))) (gName j) tb) tl) { nx := fun _ H' => Q .non H', rt := Q } (L2.start N vs) H := by
  obtain ⟨a, ns, rfl, hS, _, q⟩ := h
  have hst : (L2.start N [.ref a]).length = N.length := by
    unfold L2.start
    rw [List.length_append, List.length_replicate]
    show 1 + (N.length - 1) = _
    omega
  have empS : ∀ H : Hp, Same (fun _ => none) H := fun H b o e => nomatch e
  refine ⟨.ref a, rfl, a, ns, few, rfl, hS, hfew, fun L ds H1 hL sm1 hLs hdl hds hnd => ?_⟩
  refine ⟨L, rfl, ⟨_, .inl (.inl hLs)⟩, ?_⟩
  have ends : ∀ (M : Option Addr) (H0 : Hp) (nx : L2.St → Hp → Prop), EndOk C M (fun _ => none) (fun _ => none) H0 { nx := nx, rt := Q } lawT := fun M H0 nx => ⟨fun _ _ _ _ _ _ h => h.elim, fun _ _ _ _ _ _ h => h.elim, fun _ _ _ _ _ _ h => h.elim, fun r n v F H e x o => by
    cases e
    cases o
    exact q H⟩
  refine for_list (K := K) (a := L) (xs := ds.map V.ref) (fun i σ H2 => σ.length = N.length ∧ H2 L = some (.lst (ds.map V.ref)) ∧ ∀ j d, i ≤ j → ds[j]? = some d → Dice H2 d 0)
    ⟨hst, hLs, fun j d _ hj => (hds d (List.mem_of_getElem? hj)).1⟩ (fun i σ H2 _ ⟨_, z, _⟩ => .inl (.inl z)) ?_ ?_
  · rintro i x σ H2 hx ⟨hσ, hL2, hd2⟩
    obtain ⟨d, hdi, rfl⟩ := refs_at hx
    have hdm := List.mem_of_getElem? hdi
    have neL : L ≠ d := dices_ne hLs hdm (hds d hdm).1
    have hD0 := hd2 i d (Nat.le_refl _) hdi
    have dk : DieOk (some d) (fun _ => none) H2 0 := fun b hb => by
      cases hb
      exact ⟨hD0, rfl⟩
    have noown : ∀ (i : Nat) (o : OD), ((allUn N.length).set j .die)[i]? = some (.own o) → False := fun i o he => by
      by_cases hij : j = i
      · subst hij
        rw [List.getElem?_set_self (by unfold allUn; rw [List.length_replicate]; exact hj)] at he
        cases he
      · rw [List.getElem?_set_ne hij] at he
        have := List.eq_of_mem_replicate (List.mem_of_getElem? he)
        cases this
    show tb _ (σ.set j (some (.ref d))) H2
    refine hb (some d) (fun _ => none) (fun _ => none) H2 (fun _ => none) H2 _ ((allUn N.length).set j .die) 0 _ (lawE N.length) ⟨⟨?_, empS _, fun i e he => ?_, dk⟩, Same.refl _, Ext.refl (empS _) dk, fun i o p he => absurd he (fun z => noown i o z), fun i j o o' p he => absurd he (fun z => noown i o z)⟩ ⟨fun F H' σ' env' n' s' hn => ?_, fun _ _ _ _ _ _ h => h.elim, fun _ _ _ _ _ _ h => h.elim, fun r n v F H e x o => ?_⟩ hbody
    · rw [List.length_set, List.length_set, hσ]
      unfold allUn
      rw [List.length_replicate]
    · by_cases hij : j = i
      · subst hij
        rw [List.getElem?_set_self (by unfold allUn; rw [List.length_replicate]; exact hj)] at he
        cases he
        rw [List.getElem?_set_self (by rw [hσ]; exact hj)]
        exact ⟨d, rfl, rfl⟩
      · rw [List.getElem?_set_ne hij] at he
        have := List.eq_of_mem_replicate (List.mem_of_getElem? he)
        subst this
        exact True.intro
    · have hlen := s'.e.len
      refine ⟨hlen.trans hn, dices_after hdi hnd neL hL2 hd2 (fun b o hb e => s'.x.keep b o (fun z => hb (by injection z with z; exact z.symm)) e)⟩
    · cases e
      cases o
      exact q H
  · rintro σ H2 ⟨hσ, hL2, hd2⟩
    have dk : DieOk none (fun _ => none) H2 0 := fun b hb => nomatch hb
    have noown : ∀ (i : Nat) (o : OD), (allUn N.length)[i]? = some (.own o) → False := fun i o he => by
      have := List.eq_of_mem_replicate (List.mem_of_getElem? he)
      cases this
    refine hl none (fun _ => none) (fun _ => none) H2 (fun _ => none) H2 σ (allUn N.length) 0 _ lawT ⟨⟨?_, empS _, fun i e he => ?_, dk⟩, Same.refl _, Ext.refl (empS _) dk, fun i o p he => absurd he (fun z => noown i o z), fun i j o o' p he => absurd he (fun z => noown i o z)⟩ (ends _ _ _) htail
    · unfold allUn
      rw [List.length_replicate]
      exact hσ
    · have := List.eq_of_mem_replicate (List.mem_of_getElem? he)
      subst this
      exact True.intro
end
end K4
set_option Elab.async false
set_option linter.all false
set_option maxRecDepth 100000
set_option maxHeartbeats 4000000
namespace K4
open PySem PySem.Spec PyProof.Rows L2 K4M
/-! ### arguments by name -/
def permL {α : Type} (p : Nat) (idx : List Nat) (us ws : List α) : List α := if us.length = p ∧ ws.length + p = idx.length then idx.filterMap ((us ++ ws)[·]?) else []
theorem permL_rel {p : Nat} {idx : List Nat} {vs : List V} {us : List Value} {zs : List V} {ws : List Value} (r : Vals vs us) (q : Vals zs ws) : Vals (permL p idx vs zs) (permL p idx us ws) := by
  unfold permL
  rw [r.length, q.length]
  split
  · have rr := r.append q
    clear r q
    revert rr
    generalize vs ++ zs = a
    generalize us ++ ws = b
    intro rr
    rename_i hx
    clear hx
    induction idx with
    | nil => exact .nil
    | cons i t ih =>
      rw [List.filterMap_cons, List.filterMap_cons]
      cases e : a[i]? with
      | none =>
        rw [rr.none_of e]
        exact ih
      | some x =>
        obtain ⟨u, eu, ru⟩ := rr.get e
        rw [eu]
        exact .cons ru ih
  · exact .nil
structure CalK (P : Program) (w : World) (K : PySem.W.Frag) (mg : Str → Option Value) (base : Heap) (k : Nat) (x : Str) (ps : List Str) (sp : Sp) (ks : List Str) (p : Nat) (idx : List Nat) where
  c : Cal P w K mg base k x ps sp
  kb : KBinds K c.fd ps ks (permL p idx) (permL p idx)
theorem kbD {K : PySem.W.Frag} {mg : Str → Option Value} {x : Str} {st : Stmt} {ps ks : List Str} {p : Nat} {idx : List Nat} (D : Df K mg x st ps) (hp : 0 < ps.length)
    (h : ∀ (kV dc pm cd ct : Value) (an : Option Addr) (us ws : List Value), us.length = p → ws.length + p = idx.length → bindArgs (PySem.W.fnOf x x (defArgs st) (defBody st) (defScope st) .none kV dc pm an cd ct) ⟨us, ks.zip ws⟩ = pure (ps.zip (permL p idx us ws))) : KBinds K D.fd ps ks (permL p idx) (permL p idx) where
  to := fun s us ws _ hl => by
    obtain ⟨kV, dc, pm, cd, ct, an, e⟩ := D.sh
    rw [e]
    by_cases hc : us.length = p ∧ ws.length + p = idx.length
    · exact BindsTo.of_eq (h kV dc pm cd ct an us ws hc.1 hc.2)
    · unfold permL at hl
      rw [if_neg hc] at hl
      exact absurd hl (by show ¬ 0 = ps.length; omega)
  rel := fun r q => permL_rel r q
def Df.calk {P : Program} {w : World} {K : PySem.W.Frag} {mg : Str → Option Value} {base : Heap} {x : Str} {st : Stmt} {ps : List Str} {k : Nat} {sp : Sp} (D : Df K mg x st ps) (h : FnOk P w K mg base CX0 k D.f D.fd ps sp) {ks : List Str} {p : Nat} {idx : List Nat} (kb : KBinds K D.fd ps ks (permL p idx) (permL p idx)) : CalK P w K mg base k x ps sp ks p idx := ⟨D.cal h, kb⟩
section
variable {X : Cx}
theorem pcallK {k : Nat} {x : Str} {ps ks : List Str} {sp : Sp} {idx : List Nat} {t : TA} {kws : List Keyword} {p pos : Pos} (C : CalK X.prog X.w X.K X.mg X.base k x ps sp ks 0 idx) (hr : Room k X.A) (hg : Gl X x) (hkw : PK X kws t)
    (hall : (backToKw pos (keywordEach kws X.env)).all (·.1.isSome) = true := by rfl) (hks : (backToKw pos (keywordEach kws X.env)).filterMap (·.1) = ks := by rfl) (hdb : (x == ("__debug__" : Str)) = false := by decide)
    (hpl : ((backTo pos (starEach [] X.env)).any (·.1) || (backToKw pos (keywordEach kws X.env)).any (·.1.isNone)) = false := by rfl) :
    PE X (.Call (.Name x p) [] kws pos) (tCallK sp (permL 0 idx) E0 tNil t) := by
  refine ⟨fun pins s σ H Q I h => ?_⟩
  refine wpAny_Call_Name_kw (ld_glob I hg C.c.g ?_ hdb)
  refine PySem.W.callWith_KW0 (h₀ := X.base) I.ok.mod.kin C.c.kp hall ?_ hpl
  refine thn (hkw.run pos pins s σ H _ I h) fun ws s2 ⟨zs, H2, I2, rz, q2⟩ => ⟨I2.kIn, ?_⟩
  rw [hks]
  exact run_fnk C.c.ok hr C.kb pass0 I2 .nil rz q2
theorem pcallK1 {k : Nat} {x : Str} {ps ks : List Str} {sp : Sp} {n : Nat} {idx : List Nat} {t tk : TA} {e : Expr} {es : List Expr} {kws : List Keyword} {p pos : Pos} (C : CalK X.prog X.w X.K X.mg X.base k x ps sp ks n idx) (hr : Room k X.A) (hg : Gl X x) (ha : PA X (e :: es) t) (hkw : PK X kws tk)
    (hall : (backToKw pos (keywordEach kws X.env)).all (·.1.isSome) = true := by rfl) (hks : (backToKw pos (keywordEach kws X.env)).filterMap (·.1) = ks := by rfl) (hdb : (x == ("__debug__" : Str)) = false := by decide)
    (he : starEach (e :: es) X.env = (false, eval e X.env) :: starEach es X.env := by rfl)
    (hpl : ((backTo pos (starEach (e :: es) X.env)).any (·.1) || (backToKw pos (keywordEach kws X.env)).any (·.1.isNone)) = false := by rfl) :
    PE X (.Call (.Name x p) (e :: es) kws pos) (tCallK sp (permL n idx) E0 t tk) := pe_callK C.c.ok hr hg C.c.g C.c.kp C.kb pass0 ha hkw hall hks hdb he hpl
end
section
variable {C : Addr} {K : PySem.W.Frag}
def dCallK (m p : Nat) (idx : List Nat) (f : DSp) (t tk : TDA) : TDE := fun env n k => t env n fun rs n1 => tk env n1 fun qs n2 => ∃ as, arAll (permL p idx rs qs) = some as ∧ as.length = m ∧ f as n2 k
theorem rsAll_keep {M : Option Addr} {F1 H1 F2 H2 Hs : Hp} {n2 : Nat} {vs : List V} {rs : List Rs} (x : Ext M F1 H1 F2 H2 n2) (h : RsAll C M Hs F1 H1 vs rs) (hs : ∀ v (r : Rs), RsOk C M Hs F1 H1 v r.fz → RsOk C M Hs F2 H2 v r.fz) : RsAll C M Hs F2 H2 vs rs := by
  induction h with
  | nil => exact .nil
  | cons h _ ih => exact .cons (hs _ _ h) ih
theorem rsAll_get {M : Option Addr} {Hs F H : Hp} {vs : List V} {rs : List Rs} (h : RsAll C M Hs F H vs rs) : ∀ (i : Nat), (vs[i]? = none ∧ rs[i]? = none) ∨ ∃ v r, vs[i]? = some v ∧ rs[i]? = some r ∧ RsOk C M Hs F H v r.fz := by
  induction h with
  | nil => intro i; exact .inl ⟨by simp, by simp⟩
  | @cons v vs r rs h _ ih =>
    intro i
    cases i with
    | zero => exact .inr ⟨v, r, rfl, rfl, h⟩
    | succ i =>
      rcases ih i with h | h
      · exact .inl (by simpa using h)
      · exact .inr (by simpa using h)
theorem rsAll_app {M : Option Addr} {Hs F H : Hp} {vs ws : List V} {rs qs : List Rs} (h : RsAll C M Hs F H vs rs) (g : RsAll C M Hs F H ws qs) : RsAll C M Hs F H (vs ++ ws) (rs ++ qs) := by
  induction h with
  | nil => exact g
  | cons h _ ih => exact .cons h ih
theorem rsAll_perm {M : Option Addr} {Hs F H : Hp} {p : Nat} {idx : List Nat} {vs ws : List V} {rs qs : List Rs} (h : RsAll C M Hs F H vs rs) (g : RsAll C M Hs F H ws qs) : RsAll C M Hs F H (permL p idx vs ws) (permL p idx rs qs) := by
  unfold permL
  rw [rsAll_len h, rsAll_len g]
  split
  · have rr := rsAll_app h g
    clear h g
    revert rr
    generalize vs ++ ws = a
    generalize rs ++ qs = b
    intro rr
    rename_i hx
    clear hx
    induction idx with
    | nil => exact .nil
    | cons i t ih =>
      rw [List.filterMap_cons, List.filterMap_cons]
      rcases rsAll_get rr i with ⟨e1, e2⟩ | ⟨v, r, e1, e2, o⟩
      · rw [e1, e2]
        exact ih
      · rw [e1, e2]
        exact .cons o ih
  · exact .nil
theorem sim_callK {m p : Nat} {idx : List Nat} {f : DSp} {sp : Sp} {tr tkr : TA} {t tk : TDA} (hsp : sp = spD C m f) (ht : SimA C tr t) (hk' : SimA C tkr tk) : Sim C (tCallK sp (permL p idx) E0 tr tkr) (dCallK m p idx f t tk) := fun M F H σ env n Q k s h hk => by
  subst hsp
  refine ht M F H σ env n _ _ s h fun rs n1 vs F1 H1 h1 x1 o1 => ?_
  refine hk' M F1 H1 σ env n1 _ _ (s.ext x1) h1 fun qs n2 ws F2 H2 h2 x2 o2 => ?_
  obtain ⟨as, e, hm, h2⟩ := h2
  have o1' : RsAll C M H F2 H2 vs rs := rsAll_keep x2 o1 fun v r o => rs_keep x2 o
  have o := rsAll_perm (p := p) (idx := idx) o1' (rsAll_from x1 o2)
  exact ⟨M, F2, n2, as, k, hm, x2.fh, x2.die, rsAll_ar o (arAll_map e), h2, fun r n' v F' H' h3 x3 o3 => hk r n' v F' H' h3 (x1.trans (x2.trans x3)) (rs_from' (x1.trans x2) o3)⟩
/-! ### tests that are known -/
theorem shN {d : D} : Rs.sh d ≠ .die := nofun
theorem ownN {d : OD} : Rs.own d ≠ .die := nofun
theorem locN {d : OD} : Rs.loc d ≠ .die := nofun
theorem ifN {b : Bool} {A B : Prop} (h : b = true) (q : B) : if (!b) = true then A else B := by
  subst h
  exact iteF q
theorem ifY {b : Bool} {A B : Prop} (h : b = true) (q : A) : if b = true then A else B := by
  subst h
  exact iteT q
theorem ifX {b : Bool} {A B : Prop} (h : b = false) (q : B) : if b = true then A else B := by
  subst h
  exact iteF q
/-! ### a value's truth -/
def D.tru : D → Option Bool
  | .non => some false
  | .bl b => some b
  | .int i => some (i != 0)
  | .str w => some (!w.isEmpty)
  | .lst ds => some (!ds.isEmpty)
  | .tup ds => some (!ds.isEmpty)
  | .dic ds => some (!ds.isEmpty)
  | .gnd _ _ => none
def dTru (a : TDE) : TDT := fun env n k => a env n fun x n1 => x ≠ .die ∧ (∀ w, x.d = .str w → w.length ≤ 1000000) ∧ ∃ b, x.d.tru = some b ∧ k b n1
theorem repAll_empty {F : Hp} {vs : List V} {ds : List D} (r : RepAll C F vs ds) : vs.isEmpty = ds.isEmpty := by cases r <;> rfl
theorem repKV_empty {F : Hp} {vs : List (Key × V)} {ds : List (D × D)} (r : RepKV C F vs ds) : vs.isEmpty = ds.isEmpty := by cases r <;> rfl
theorem view_tru {M : Option Addr} {F H : Hp} (fh : Same F H) {v : V} {d : D} {b : Bool} (h : View C M F H v d) (hl : ∀ w, d = .str w → w.length ≤ 1000000) (e : d.tru = some b) : TruV K v H b := by
  cases d with
  | non => cases h; cases e; rfl
  | bl c => cases h; cases e; rfl
  | int c => cases h; cases e; rfl
  | str c =>
    cases h
    cases e
    have := hl c rfl
    refine ⟨by rw [S_len, e16]; omega, ?_⟩
    rw [S_len]
    cases c with
    | nil => rfl
    | cons _ _ =>
      symm
      show (_ != (0 : Int)) = true
      rw [bne_iff_ne, List.length_cons]
      omega
  | lst c =>
    obtain ⟨p, vs, rfl, _, h1, r⟩ := h
    cases e
    exact .inl ⟨vs, .inl (.inl h1), by rw [repAll_empty r]⟩
  | tup c =>
    cases e
    cases h with
    | tup h1 r => exact .inr (.inl ⟨_, .inl (.inl (fh _ _ h1)), by rw [repAll_empty r]⟩)
  | dic c =>
    obtain ⟨p, vs, rfl, _, h1, r⟩ := h
    cases e
    exact .inr (.inr ⟨vs, h1, by rw [repKV_empty r]⟩)
  | gnd _ _ => cases e
abbrev tTruV (K : PySem.W.Frag) (ta : TE) : TT := fun σ H Q => ta σ H fun x H' => ∃ k, TruV K x H' k ∧ Q k H'
theorem pt_tru {X : Cx} {a : Expr} {ta : TE} (ha : PE X a ta) (he : ∀ whole, isTrue a X.env whole = (do let v ← whole; standAt a.pos; holding [v] (truthy v)) := by intro _; rfl) : PT X a (tTruV X.K ta) := by
  refine ⟨fun pins s σ H Q I h => ?_⟩
  exact isTrue_plain (thn (ha.run pins s σ H _ I h) fun v s1 ⟨x, H1, I1, r1, q1⟩ => tru_ok pins s1 σ H1 x v Q I1 r1 q1) (he _)
theorem pt_truK {X : Cx} {K : PySem.W.Frag} {a : Expr} {ta : TE} (ha : PE X a ta) (he : ∀ whole, isTrue a X.env whole = (do let v ← whole; standAt a.pos; holding [v] (truthy v)) := by intro _; rfl) (hK : X.K = K := by rfl) : PT X a (tTruV K ta) := by
  subst hK
  exact pt_tru ha he
theorem sim_tru {ta : TE} {a : TDE} (ha : Sim C ta a) : SimT C (tTruV K ta) (dTru a) := fun M F H σ env n Q k s h hk => by
  refine look (ta := ta) ha s h fun x n1 v F1 H1 h1 x1 o1 => ?_
  obtain ⟨hx, hl, b, e, h1⟩ := h1
  exact ⟨b, view_tru x1.fh (rs_view x1.fh x1.die o1 hx) hl e, hk b n1 F1 H1 h1 x1⟩
end
end K4
set_option Elab.async false
set_option linter.all false
set_option maxRecDepth 100000
set_option maxHeartbeats 4000000
namespace K4
open PySem PySem.Spec PyProof.Rows L2 K4M
section
variable {P : Program} {w : World} {K : PySem.W.Frag} {mg : Str → Option Value} {base : Heap} {k : Nat} {f : Addr} {fd : FuncData} {C : Addr}
theorem lettersD (h : FnOk P w K mg base CX0 k f fd ["dice", "many"] spLetters) : FnOk P w K mg base CX0 k f fd ["dice", "many"] (spD C 2 fLetters) := h.imp fun vs H Q E q => by
  obtain ⟨M, F, n, as, k, hm, fh, dk, ha, ⟨m, rfl, hn, h1, hq⟩, hk⟩ := q
  obtain ⟨x, y, rfl, ⟨d, rfl, rfl⟩, r⟩ := ar2 ha
  cases r
  refine ⟨d, m, n, rfl, (dk d rfl).1, hn, h1, fun u H' e1 e2 e3 hD kp => ?_⟩
  exact hk _ _ _ F H' (hq u e1 e2 e3) (ext_dice fh dk hD kp) (Rep.str u)
end
/-! ### the law's own texts -/
def fAnyText : DSp := fun as n k => ∃ m : Nat, as = [.die, .d (.int (m : Int))] ∧ n < 2 ^ 50 ∧ m ≤ 1000 ∧ ∀ (u : List Nat) (n' : Nat), u.length ≤ m → Low u → n' ≤ n + m + 20 → k (.sh (.str u)) n'
theorem signs_mem {d : D} {u : List Nat} (h : d ∈ signsD u) : ∃ c, c ∈ u ∧ d = .str [c] := by
  obtain ⟨c, a, b⟩ := List.mem_map.mp h
  exact ⟨c, a, b.symm⟩
theorem ones_sumD (ls : List Nat) : ((ls.map fun c => [c]).map List.length).sum = ls.length := by
  induction ls with
  | nil => rfl
  | cons c r ih =>
    rw [List.map_cons, List.map_cons, List.sum_cons, ih]
    show 1 + r.length = r.length + 1
    omega
section
variable {P : Program} {w : World} {K : PySem.W.Frag} {mg : Str → Option Value} {base : Heap}
end
end K4
set_option Elab.async false
set_option linter.all false
set_option maxRecDepth 100000
set_option maxHeartbeats 8000000
namespace K4
open PySem PySem.Spec PyProof.Rows L2 K4M
local macro_rules | `(tactic| trivial) => `(tactic| first | assumption | omega | (simp only [List.length_map, List.length_append, List.length_cons, List.length_nil, List.length_replicate, List.length_set]; omega) | decide)
local macro_rules | `(tactic| rfl') => `(tactic| repeat (first | refine ⟨_, rfl, ?_⟩ | refine ⟨rfl, ?_⟩ | refine ⟨shN, ?_⟩ | refine ⟨ownN, ?_⟩ | refine ⟨locN, ?_⟩ | refine ⟨_, _, rfl, rfl, ?_⟩ | refine ⟨_, _, rfl, ?_⟩ | refine ⟨_, .inr rfl, ?_⟩ | refine ⟨_, .inl rfl, ?_⟩ | refine ⟨_, _, _, rfl, rfl, rfl, ?_⟩ | refine And.intro (by trivial) ?_ | refine ifN rfl ?_ | refine ifY rfl ?_ | refine ifX rfl ?_ | refine ⟨shN, _, true, rfl, (by decide +kernel), ?_⟩ | refine ⟨shN, _, false, rfl, (by decide +kernel), ?_⟩ | refine ⟨locN, _, true, rfl, (by decide +kernel), ?_⟩ | refine ⟨locN, _, false, rfl, (by decide +kernel), ?_⟩))
local macro_rules | `(tactic| ac_rfl) => `(tactic| first | refine ⟨_, rfl, ?_⟩ | refine ⟨rfl, ?_⟩ | refine ⟨shN, ?_⟩ | refine ⟨ownN, ?_⟩ | refine ⟨locN, ?_⟩ | refine ⟨_, _, rfl, rfl, ?_⟩ | refine ⟨_, _, rfl, ?_⟩ | refine ⟨_, .inr rfl, ?_⟩ | refine ⟨_, .inl rfl, ?_⟩ | refine ⟨_, _, _, rfl, rfl, rfl, ?_⟩ | refine And.intro (by trivial) ?_ | refine ifN rfl ?_ | refine ifY rfl ?_ | refine ifX rfl ?_ | refine ⟨shN, _, true, rfl, (by decide +kernel), ?_⟩ | refine ⟨shN, _, false, rfl, (by decide +kernel), ?_⟩ | refine ⟨locN, _, true, rfl, (by decide +kernel), ?_⟩ | refine ⟨locN, _, false, rfl, (by decide +kernel), ?_⟩)
/-! ### the mathematics of edits -/
theorem cutN_take (u : List Nat) (a : Nat) : cutN u none (some (a : Int)) = u.take a := by
  unfold cutN
  rw [HT.sIx_nat, HT.sIx_none, List.drop_zero, Nat.sub_zero]
  by_cases h : a ≤ u.length
  · rw [Nat.min_eq_left h]
  · rw [Nat.min_eq_right (by omega), List.take_of_length_le (Nat.le_refl _), List.take_of_length_le (by omega)]
theorem cutN_drop (u : List Nat) (a : Nat) : cutN u (some (a : Int)) none = u.drop a := by
  unfold cutN
  rw [HT.sIx_nat, HT.sIx_none]
  by_cases h : a ≤ u.length
  · rw [Nat.min_eq_left h, List.take_of_length_le (by rw [List.length_drop]; exact Nat.le_refl _)]
  · rw [Nat.min_eq_right (by omega), Nat.sub_self, List.take_zero, List.drop_eq_nil_of_le (by omega)]
theorem cutN_two (u : List Nat) (a b : Nat) : cutN u (some (a : Int)) (some (b : Int)) = (u.drop a).take (b - a) := by
  unfold cutN
  rw [HT.sIx_nat, HT.sIx_nat]
  by_cases h : a ≤ u.length
  · rw [Nat.min_eq_left h]
    by_cases h2 : b ≤ u.length
    · rw [Nat.min_eq_left h2]
    · rw [Nat.min_eq_right (by omega), List.take_of_length_le (by rw [List.length_drop]; exact Nat.le_refl _), List.take_of_length_le (by rw [List.length_drop]; omega)]
  · rw [Nat.min_eq_right (by omega : u.length ≤ a), List.drop_eq_nil_of_le (Nat.le_refl _), List.take_nil, List.drop_eq_nil_of_le (by omega), List.take_nil]
def edW (u : List Nat) (a o : Nat) (w : List Nat) : List Nat := u.take a ++ w ++ u.drop (a + o)
def lkN : List Nat → List Nat → Nat
  | a :: u, b :: w => if a = b then lkN u w + 1 else 0
  | _, _ => 0
theorem lkN_le : ∀ u w : List Nat, lkN u w ≤ u.length ∧ lkN u w ≤ w.length
  | [], _ => ⟨Nat.zero_le _, Nat.zero_le _⟩
  | _ :: _, [] => ⟨Nat.zero_le _, Nat.zero_le _⟩
  | a :: u, b :: w => by
    unfold lkN
    have := lkN_le u w
    rw [List.length_cons, List.length_cons]
    split
    · omega
    · omega
theorem lkN_take : ∀ u w : List Nat, u.take (lkN u w) = w.take (lkN u w)
  | [], w => by cases w <;> rfl
  | _ :: _, [] => rfl
  | a :: u, b :: w => by
    unfold lkN
    split
    · rename_i h
      rw [List.take_succ_cons, List.take_succ_cons, lkN_take u w, h]
    · rfl
theorem lkN_step : ∀ (u w : List Nat) (i : Nat) (c d : Nat), u[i]? = some c → w[i]? = some d → i ≤ lkN u w → (c = d → i + 1 ≤ lkN u w) ∧ (c ≠ d → lkN u w = i)
  | [], _, _, _, _, h, _, _ => by simp at h
  | _ :: _, [], _, _, _, _, h, _ => by simp at h
  | a :: u, b :: w, 0, c, d, h1, h2, h3 => by
    simp only [List.getElem?_cons_zero, Option.some.injEq] at h1 h2
    subst h1 h2
    unfold lkN
    exact ⟨fun h => by rw [if_pos h]; omega, fun h => by rw [if_neg h]⟩
  | a :: u, b :: w, i + 1, c, d, h1, h2, h3 => by
    simp only [List.getElem?_cons_succ] at h1 h2
    unfold lkN at h3 ⊢
    by_cases e : a = b
    · rw [if_pos e] at h3 ⊢
      have := lkN_step u w i c d h1 h2 (by omega)
      exact ⟨fun h => by have := this.1 h; omega, fun h => by have := this.2 h; omega⟩
    · rw [if_neg e] at h3
      omega
theorem lkN_end (u w : List Nat) {i : Nat} (h : i ≤ lkN u w) (h2 : min u.length w.length ≤ i) : lkN u w = i := by
  have := lkN_le u w
  omega
def btA (u w : List Nat) : Nat := lkN u w
def btB (u w : List Nat) : Nat := lkN (u.drop (btA u w)).reverse (w.drop (btA u w)).reverse
def btD (u w : List Nat) : D := .tup [.int (btA u w : Nat), .int ((u.length - btA u w - btB u w : Nat) : Int), .str ((w.drop (btA u w)).take (w.length - btB u w - btA u w))]
theorem btB_le (u w : List Nat) : btB u w ≤ u.length - btA u w ∧ btB u w ≤ w.length - btA u w := by
  have := lkN_le (u.drop (btA u w)).reverse (w.drop (btA u w)).reverse
  rw [List.length_reverse, List.length_reverse, List.length_drop, List.length_drop] at this
  exact this
theorem rev_take {u w : List Nat} {n : Nat} (h : u.reverse.take n = w.reverse.take n) : u.drop (u.length - n) = w.drop (w.length - n) := by
  have := congrArg List.reverse h
  rw [List.reverse_take, List.reverse_take, List.reverse_reverse, List.reverse_reverse, List.length_reverse, List.length_reverse] at this
  exact this
/-- the edit between two texts makes the one the other -/
theorem bt_ed (u w : List Nat) : edW u (btA u w) (u.length - btA u w - btB u w) ((w.drop (btA u w)).take (w.length - btB u w - btA u w)) = w := by
  have h1 := lkN_take u w
  have h2 := rev_take (lkN_take (u.drop (btA u w)).reverse (w.drop (btA u w)).reverse)
  have l1 := lkN_le u w
  have l2 := btB_le u w
  unfold edW
  rw [List.length_drop, List.length_drop, List.drop_drop, List.drop_drop] at h2
  have e1 : btA u w + (u.length - btA u w - btB u w) = btA u w + (u.length - btA u w - btB u w) := rfl
  show u.take (btA u w) ++ _ ++ u.drop (btA u w + (u.length - btA u w - btB u w)) = w
  rw [show u.take (btA u w) = w.take (btA u w) from h1, show u.drop (btA u w + (u.length - btA u w - btB u w)) = w.drop (btA u w + (w.length - btA u w - btB u w)) from h2]
  rw [show w.length - btB u w - btA u w = w.length - btA u w - btB u w by omega, List.append_assoc, ← List.drop_drop, List.take_append_drop, List.take_append_drop]
/-- and back -/
theorem ed_back (u : List Nat) (a o : Nat) (w : List Nat) (h : a + o ≤ u.length) : edW (edW u a o w) a w.length ((u.drop a).take o) = u ∧ ((edW u a o w).drop a).take w.length = w := by
  have hl : (u.take a).length = a := by rw [List.length_take]; omega
  have e1 : (edW u a o w).take a = u.take a := by
    unfold edW
    rw [List.append_assoc, List.take_append_of_le_length (by omega), List.take_take, Nat.min_self]
  have e2 : (edW u a o w).drop a = w ++ u.drop (a + o) := by
    unfold edW
    rw [List.append_assoc]
    conv => lhs; rw [← hl]
    rw [hl, List.drop_append_of_le_length (by omega), List.drop_eq_nil_of_le (by omega), List.nil_append]
  refine ⟨?_, ?_⟩
  · show (edW u a o w).take a ++ _ ++ (edW u a o w).drop (a + w.length) = u
    rw [e1, ← List.drop_drop, e2, List.drop_left, List.append_assoc, ← List.drop_drop, List.take_append_drop, List.take_append_drop]
  · rw [e2, List.take_left]
theorem edW_len (u : List Nat) (a o : Nat) (w : List Nat) (h : a + o ≤ u.length) : (edW u a o w).length = u.length - o + w.length := by
  unfold edW
  rw [List.length_append, List.length_append, List.length_take, List.length_drop]
  omega
theorem edW_low {u w : List Nat} {a o : Nat} (h : Low u) (g : Low w) : Low (edW u a o w) := fun c hc => by
  unfold edW at hc
  rcases List.mem_append.mp hc with hc | hc
  · rcases List.mem_append.mp hc with hc | hc
    · exact h c (List.mem_of_mem_take hc)
    · exact g c hc
  · exact h c (List.mem_of_mem_drop hc)
theorem cut_low {u : List Nat} {a n : Nat} (h : Low u) : Low ((u.drop a).take n) := fun c hc => h c (List.mem_of_mem_drop (List.mem_of_mem_take hc))
/-! ### the program's edits -/
abbrev edD (a o : Nat) (w : List Nat) : D := .tup [.int (a : Int), .int (o : Int), .str w]
structure EdOk (u : List Nat) (a o : Nat) (w : List Nat) : Prop where
  lo : Low u
  lw : Low w
  hu : u.length ≤ 1000
  hw : w.length ≤ 1000
  h : a + o ≤ u.length
def fIeo : DSp := fun as n k => ∃ (u : List Nat) (a o : Nat) (w : List Nat), as = [.d (.str u), .d (edD a o w)] ∧ EdOk u a o w ∧ k (.sh (.bl true)) n
def fCed : DSp := fun as n k => ∃ (u : List Nat) (a o : Nat) (w : List Nat), as = [.d (.str u), .d (edD a o w)] ∧ EdOk u a o w ∧ k (.sh .non) n
def fTed : DSp := fun as n k => ∃ (u : List Nat) (a o : Nat) (w : List Nat), as = [.d (.str u), .d (edD a o w)] ∧ EdOk u a o w ∧ k (.sh (.str (edW u a o w))) n
def fEbk : DSp := fun as n k => ∃ (u : List Nat) (a o : Nat) (w : List Nat), as = [.d (.str u), .d (edD a o w)] ∧ EdOk u a o w ∧ k (.sh (edD a w.length ((u.drop a).take o))) n
def fAla : DSp := fun as n k => ∃ u w : List Nat, as = [.d (.str u), .d (.str w)] ∧ u.length ≤ 1000 ∧ w.length ≤ 1000 ∧ k (.sh (.int (lkN u w : Nat))) n
def fEbt : DSp := fun as n k => ∃ u w : List Nat, as = [.d (.str u), .d (.str w)] ∧ u.length ≤ 1000 ∧ w.length ≤ 1000 ∧ Low u ∧ Low w ∧ k (.sh (btD u w)) n
section
variable {P : Program} {w : World} {K : PySem.W.Frag} {mg : Str → Option Value} {base : Heap}
theorem scd_ieo : FnScope ["text", "value", "at", "out", "put"] ["text", "value"] (defScope st_is_edit_of) := ⟨rfl, rfl, rfl, by decide +kernel, rfl, by decide +kernel, by decide +kernel⟩
theorem okd_ieo {C : Addr}  (B : Bi mg) (CC : Cal P w K mg base 2 "is_count" ["value"] (spD C 1 fCount)) (CT : Cal P w K mg base 2 "is_text" ["value"] (spD C 1 fText)) (Z : Df K mg "is_edit_of" st_is_edit_of ["text", "value"]) : FnOk P w K mg base CX0 3 Z.f Z.fd ["text", "value"] (spD C 2 fIeo) := by
  refine Z.F.ok scd_ieo (fun vs H Q E h => spD_len h) (fun cdv A outer s H vs Q E hr h => ?_)
  refine ⟨_, (pss_cons (ps_if (PW.pt (pw_or (pt_not (pt_val (pe_callB call_isi (by rfl) B.isi (by decide +kernel) (pa_cons (pv 1) (pa_cons (pe_bltn (v := .ty "tuple") (by rfl) B.tuple (by decide +kernel) rfl) pa_nil))))) (pw_or1 (pt_cmpR op_ne (pe_callB call_len_seq (by rfl) B.len PySem.boot_len (pa_cons (pv 1) pa_nil)) pe_int (nomark _))))) pss_never pss_nil) (pss_cons (ps_asg (pv 1) (pg_tup rfl (pgs_cons (pg_name (i := 2) scd_ieo.nd rfl (.inl rfl)) (pgs_cons (pg_name (i := 3) scd_ieo.nd rfl (.inl rfl)) (pgs_cons (pg_name (i := 4) scd_ieo.nd rfl (.inl rfl)) pgs_nil))))) (pss_one (ps_ret (pe_and (pcall CC hr (by rfl) (pa_cons (pv 2) pa_nil)) (pe_and (pcall CC hr (by rfl) (pa_cons (pv 3) pa_nil)) (pe_and (pe_cmpR op_le (pe_op op_add (pv 2) (pv 3)) (pe_callB call_len_str (by rfl) B.len PySem.boot_len (pa_cons (pv 0) pa_nil)) (nomark _)) (pe_one (pcall CT hr (by rfl) (pa_cons (pv 4) pa_nil)))))))))), enter (C := C) (sim_seq (sim_ifS (sim_or (sim_not (sim_tB (sim_isi (sim_var 1)))) (sim_tTest (sim_op s_ne (sim_cb c_len (sim_cons (sim_var 1) sim_nil)) (sim_int _)))) sim_never sim_next) (sim_seq (sim_asg (sim_var 1) (sim_gTup (gdCons_len (gdCons_len (gdCons_len gdNil_len))) (sim_gCons (sim_gName 2) (sim_gCons (sim_gName 3) (sim_gCons (sim_gName 4) sim_gNil))))) (sim_ret (sim_andV (sim_call rfl (sim_cons (sim_var 2) sim_nil)) (sim_andV (sim_call rfl (sim_cons (sim_var 3) sim_nil)) (sim_andV (sim_op s_cI (sim_op s_rI0 (sim_var 2) (sim_var 3)) (sim_cb c_lenS (sim_cons (sim_var 0) sim_nil))) (sim_call rfl (sim_cons (sim_var 4) sim_nil)))))))) h fun as n k hl h => ?_⟩
  obtain ⟨u, a, o, w, rfl, ho, h⟩ := h
  have h1 := ho.lw
  have h2 := ho.h
  have h3 := ho.hu
  have h4 := ho.hw
  rfl'
  refine ifY (decide_eq_true (by omega)) ⟨_, rfl, _, rfl, rfl, .str w, rfl, (show w.length ≤ 1000000 by omega), rfl, ?_⟩
  rw [show D.made letl (.str w) = true from low_all h1]
  exact h
theorem scd_ced : FnScope ["text", "edit"] ["text", "edit"] (defScope st__check_edit) := ⟨rfl, rfl, rfl, by decide +kernel, rfl, by decide +kernel, by decide +kernel⟩
theorem okd_ced {C : Addr}  (CX : Cal P w K mg base 3 "check_text" ["value"] (spD C 1 fCtext)) (CI : Cal P w K mg base 3 "is_edit_of" ["text", "value"] (spD C 2 fIeo)) (Z : Df K mg "_check_edit" st__check_edit ["text", "edit"]) : FnOk P w K mg base CX0 4 Z.f Z.fd ["text", "edit"] (spD C 2 fCed) := by
  refine Z.F.ok scd_ced (fun vs H Q E h => spD_len h) (fun cdv A outer s H vs Q E hr h => ?_)
  refine ⟨_, (pss_cons (ps_expr (pcall CX hr (by rfl) (pa_cons (pv 0) pa_nil))) (pss_one (ps_if (pt_not (pt_val (pcall CI hr (by rfl) (pa_cons (pv 0) (pa_cons (pv 1) pa_nil))))) pss_never pss_nil))), enter (C := C) (sim_seq (sim_drop (sim_call rfl (sim_cons (sim_var 0) sim_nil))) (sim_ifS (sim_not (sim_tB (sim_call rfl (sim_cons (sim_var 0) (sim_cons (sim_var 1) sim_nil))))) sim_never sim_next)) h fun as n k hl h => ?_⟩
  obtain ⟨u, a, o, w, rfl, ho, h⟩ := h
  have h1 := ho.lo
  have h3 := ho.hu
  exact ⟨_, rfl, _, rfl, rfl, u, rfl, by omega, h1, _, rfl, _, rfl, _, rfl, rfl, u, a, o, w, rfl, ho, true, rfl, h⟩
theorem scd_ted : FnScope ["text", "edit", "at", "out", "put"] ["text", "edit"] (defScope st_text_edited) := ⟨rfl, rfl, rfl, by decide +kernel, rfl, by decide +kernel, by decide +kernel⟩
theorem okd_ted {C : Addr}  (B : Bi mg) (Z : Df K mg "text_edited" st_text_edited ["text", "edit"]) : FnOk P w K mg base CX0 1 Z.f Z.fd ["text", "edit"] (spD C 2 fTed) := by
  refine Z.F.ok scd_ted (fun vs H Q E h => spD_len h) (fun cdv A outer s H vs Q E hr h => ?_)
  refine ⟨_, (pss_cons (ps_asg (pv 1) (pg_tup rfl (pgs_cons (pg_name (i := 2) scd_ted.nd rfl (.inl rfl)) (pgs_cons (pg_name (i := 3) scd_ted.nd rfl (.inl rfl)) (pgs_cons (pg_name (i := 4) scd_ted.nd rfl (.inl rfl)) pgs_nil))))) (pss_one (ps_ret (pe_op op_add_str (pe_op op_add_str (pe_slice sl_str (pv 0) po_none (po_some (pv 2))) (pv 4)) (pe_slice sl_str (pv 0) (po_some (pe_op op_add (pv 2) (pv 3))) po_none))))), enter (C := C) (sim_seq (sim_asg (sim_var 1) (sim_gTup (gdCons_len (gdCons_len (gdCons_len gdNil_len))) (sim_gCons (sim_gName 2) (sim_gCons (sim_gName 3) (sim_gCons (sim_gName 4) sim_gNil))))) (sim_ret (sim_op s_addS (sim_op s_addS (sim_sl s_slS (sim_var 0) sim_noPart (sim_part (sim_var 2))) (sim_var 4)) (sim_sl s_slS (sim_var 0) (sim_part (sim_op s_rI0 (sim_var 2) (sim_var 3))) sim_noPart)))) h fun as n k hl h => ?_⟩
  obtain ⟨u, a, o, w, rfl, ho, h⟩ := h
  have h2 := ho.h
  have h3 := ho.hu
  have h4 := ho.hw
  rfl'
  rw [cutN_take]
  refine ⟨by rw [List.length_take]; omega, ?_⟩
  rfl'
  rw [show ((a : Int) + (o : Int)) = ((a + o : Nat) : Int) by omega, cutN_drop]
  refine ⟨by rw [List.length_append, List.length_take, List.length_drop]; omega, rfl, h⟩
theorem scd_edd : FnScope ["text", "edit"] ["text", "edit"] (defScope st_edited) := ⟨rfl, rfl, rfl, by decide +kernel, rfl, by decide +kernel, by decide +kernel⟩
theorem okd_edd {C : Addr}  (CE : Cal P w K mg base 4 "_check_edit" ["text", "edit"] (spD C 2 fCed)) (CT : Cal P w K mg base 1 "text_edited" ["text", "edit"] (spD C 2 fTed)) (Z : Df K mg "edited" st_edited ["text", "edit"]) : FnOk P w K mg base CX0 5 Z.f Z.fd ["text", "edit"] (spD C 2 fTed) := by
  refine Z.F.ok scd_edd (fun vs H Q E h => spD_len h) (fun cdv A outer s H vs Q E hr h => ?_)
  have r1 : Room 1 _ := hr.mono (by decide)
  refine ⟨_, (pss_cons (ps_expr (pcall CE hr (by rfl) (pa_cons (pv 0) (pa_cons (pv 1) pa_nil)))) (pss_one (ps_ret (pcall CT r1 (by rfl) (pa_cons (pv 0) (pa_cons (pv 1) pa_nil)))))), enter (C := C) (sim_seq (sim_drop (sim_call rfl (sim_cons (sim_var 0) (sim_cons (sim_var 1) sim_nil)))) (sim_ret (sim_call rfl (sim_cons (sim_var 0) (sim_cons (sim_var 1) sim_nil))))) h fun as n k hl h => ?_⟩
  obtain ⟨u, a, o, w, rfl, ho, h⟩ := h
  exact ⟨_, rfl, _, rfl, _, rfl, rfl, u, a, o, w, rfl, ho, _, rfl, _, rfl, _, rfl, rfl, u, a, o, w, rfl, ho, rfl, h⟩
theorem scd_ebk : FnScope ["text", "edit", "at", "out", "put"] ["text", "edit"] (defScope st_edit_back) := ⟨rfl, rfl, rfl, by decide +kernel, rfl, by decide +kernel, by decide +kernel⟩
theorem okd_ebk {C : Addr}  (B : Bi mg) (CE : Cal P w K mg base 4 "_check_edit" ["text", "edit"] (spD C 2 fCed)) (Z : Df K mg "edit_back" st_edit_back ["text", "edit"]) : FnOk P w K mg base CX0 5 Z.f Z.fd ["text", "edit"] (spD C 2 fEbk) := by
  refine Z.F.ok scd_ebk (fun vs H Q E h => spD_len h) (fun cdv A outer s H vs Q E hr h => ?_)
  refine ⟨_, (pss_cons (ps_expr (pcall CE hr (by rfl) (pa_cons (pv 0) (pa_cons (pv 1) pa_nil)))) (pss_cons (ps_asg (pv 1) (pg_tup rfl (pgs_cons (pg_name (i := 2) scd_ebk.nd rfl (.inl rfl)) (pgs_cons (pg_name (i := 3) scd_ebk.nd rfl (.inl rfl)) (pgs_cons (pg_name (i := 4) scd_ebk.nd rfl (.inl rfl)) pgs_nil))))) (pss_one (ps_ret (pe_tup (pa_cons (pv 2) (pa_cons (pe_callB call_len_str (by rfl) B.len PySem.boot_len (pa_cons (pv 4) pa_nil)) (pa_cons (pe_slice sl_str (pv 0) (po_some (pv 2)) (po_some (pe_op op_add (pv 2) (pv 3)))) pa_nil)))))))), enter (C := C) (sim_seq (sim_drop (sim_call rfl (sim_cons (sim_var 0) (sim_cons (sim_var 1) sim_nil)))) (sim_seq (sim_asg (sim_var 1) (sim_gTup (gdCons_len (gdCons_len (gdCons_len gdNil_len))) (sim_gCons (sim_gName 2) (sim_gCons (sim_gName 3) (sim_gCons (sim_gName 4) sim_gNil))))) (sim_ret (sim_tup (sim_cons (sim_var 2) (sim_cons (sim_cb c_lenS (sim_cons (sim_var 4) sim_nil)) (sim_cons (sim_sl s_slS (sim_var 0) (sim_part (sim_var 2)) (sim_part (sim_op s_rI0 (sim_var 2) (sim_var 3)))) sim_nil))))))) h fun as n k hl h => ?_⟩
  obtain ⟨u, a, o, w, rfl, ho, h⟩ := h
  have h2 := ho.h
  have h3 := ho.hu
  have h4 := ho.hw
  refine ⟨_, rfl, _, rfl, _, rfl, rfl, u, a, o, w, rfl, ho, ?_⟩
  rfl'
  rw [show ((a : Int) + (o : Int)) = ((a + o : Nat) : Int) by omega, cutN_two, show a + o - a = o by omega]
  rfl'
  exact h
theorem scd_ala : FnScope ["one", "other", "at", "thing", "late"] ["one", "other"] (defScope st__alike_ahead) := ⟨rfl, rfl, rfl, by decide +kernel, rfl, by decide +kernel, by decide +kernel⟩
theorem okd_ala {C : Addr}  (B : Bi mg) (Z : Df K mg "_alike_ahead" st__alike_ahead ["one", "other"]) : FnOk P w K mg base CX0 1 Z.f Z.fd ["one", "other"] (spD C 2 fAla) := by
  refine Z.F.ok scd_ala (fun vs H Q E h => spD_len h) (fun cdv A outer s H vs Q E hr h => ?_)
  refine ⟨_, (pss_cons (ps_for PassesOwn.never rfl (pi_enz (by rfl) B.enum (by rfl) B.zip (pa_cons (pv 0) (pa_cons (pv 1) pa_nil))) (pg_tup rfl (pgs_cons (pg_name (i := 2) scd_ala.nd rfl (.inl rfl)) (pgs_cons (pg_tup rfl (pgs_cons (pg_name (i := 3) scd_ala.nd rfl (.inl rfl)) (pgs_cons (pg_name (i := 4) scd_ala.nd rfl (.inl rfl)) pgs_nil))) pgs_nil))) (pss_one (ps_if (pt_cmpR op_ne (pv 3) (pv 4) (nomark _)) (pss_one (ps_ret (pv 2))) pss_nil))) (pss_one (ps_ret (pe_callB (call_min2 rfl) (by rfl) B.min (by decide +kernel) (pa_cons (pe_callB call_len_str (by rfl) B.len PySem.boot_len (pa_cons (pv 0) pa_nil)) (pa_cons (pe_callB call_len_str (by rfl) B.len PySem.boot_len (pa_cons (pv 1) pa_nil)) pa_nil)))))), enter (C := C) (sim_seq (sim_for (sim_iEnz (sim_cons (sim_var 0) (sim_cons (sim_var 1) sim_nil))) (sim_gTup (gdCons_len (gdCons_len gdNil_len)) (sim_gCons (sim_gName 2) (sim_gCons (sim_gTup (gdCons_len (gdCons_len gdNil_len)) (sim_gCons (sim_gName 3) (sim_gCons (sim_gName 4) sim_gNil))) sim_gNil))) (sim_ifS (sim_tTest (sim_op s_ne (sim_var 3) (sim_var 4))) (sim_ret (sim_var 2)) sim_next)) (sim_ret (sim_cb c_2I (sim_cons (sim_cb c_lenS (sim_cons (sim_var 0) sim_nil)) (sim_cons (sim_cb c_lenS (sim_cons (sim_var 1) sim_nil)) sim_nil))))) h fun as n k hl h => ?_⟩
  obtain ⟨u, w, rfl, h1, h2, h⟩ := h
  rfl'
  refine forR_gen (fun i env m => m = n ∧ (∃ x y z : Ent, env = [.sh (.str u), .sh (.str w), x, y, z]) ∧ i ≤ lkN u w) ⟨rfl, ⟨_, _, _, rfl⟩, Nat.zero_le _⟩ ?_ ?_
  · rintro i x env m k' hx ⟨rfl, ⟨x1, x2, x3, rfl⟩, hi⟩ hk'
    obtain ⟨c, d, hc, hd, rfl⟩ := ezD_at hx
    have hst := lkN_step u w i c d hc hd hi
    rfl'
    by_cases e : c = d
    · subst e
      exact ifX (b := !D.eqs (.str [c]) (.str [c])) (by simp [D.eqs]) (hk' _ _ ⟨rfl, ⟨_, _, _, rfl⟩, hst.1 rfl⟩)
    · refine ifY (b := !D.eqs (.str [c]) (.str [d])) (by simp [D.eqs, e]) ⟨_, rfl, rfl, ?_⟩
      rw [hst.2 e] at h
      exact h
  · rintro env m ⟨rfl, ⟨x1, x2, x3, rfl⟩, hi⟩
    rw [ezD_len] at hi
    rfl'
    have e := lkN_end u w hi (Nat.le_refl _)
    have e2 : (if (w.length : Int) < (u.length : Int) then (w.length : Int) else (u.length : Int)) = ((lkN u w : Nat) : Int) := by
      rw [e]
      split <;> omega
    show k (.sh (.int (if (w.length : Int) < (u.length : Int) then (w.length : Int) else (u.length : Int)))) m
    rw [e2]
    exact h
theorem rev_cut (u : List Nat) (a : Nat) : (cutN u (some (a : Int)) none).reverse = (u.drop a).reverse := by rw [cutN_drop]
theorem scd_ebt : FnScope ["text", "late", "at", "behind"] ["text", "late"] (defScope st_edit_between) := ⟨rfl, rfl, rfl, by decide +kernel, rfl, by decide +kernel, by decide +kernel⟩
theorem okd_ebt {C : Addr}  (B : Bi mg) (CX : Cal P w K mg base 3 "check_text" ["value"] (spD C 1 fCtext)) (CA : Cal P w K mg base 1 "_alike_ahead" ["one", "other"] (spD C 2 fAla)) (Z : Df K mg "edit_between" st_edit_between ["text", "late"]) : FnOk P w K mg base CX0 4 Z.f Z.fd ["text", "late"] (spD C 2 fEbt) := by
  refine Z.F.ok scd_ebt (fun vs H Q E h => spD_len h) (fun cdv A outer s H vs Q E hr h => ?_)
  have r1 : Room 1 _ := hr.mono (by decide)
  refine ⟨_, (pss_cons (ps_expr (pcall CX hr (by rfl) (pa_cons (pv 0) pa_nil))) (pss_cons (ps_expr (pcall CX hr (by rfl) (pa_cons (pv 1) pa_nil))) (pss_cons (ps_set (i := 2) scd_ebt.nd rfl (.inl rfl) (pcall CA r1 (by rfl) (pa_cons (pv 0) (pa_cons (pv 1) pa_nil)))) (pss_cons (ps_set (i := 3) scd_ebt.nd rfl (.inl rfl) (pcall CA r1 (by rfl) (pa_cons (pe_revS (pe_slice sl_str (pv 0) (po_some (pv 2)) po_none)) (pa_cons (pe_revS (pe_slice sl_str (pv 1) (po_some (pv 2)) po_none)) pa_nil)))) (pss_one (ps_ret (pe_tup (pa_cons (pv 2) (pa_cons (pe_op op_sub (pe_op op_sub (pe_callB call_len_str (by rfl) B.len PySem.boot_len (pa_cons (pv 0) pa_nil)) (pv 2)) (pv 3)) (pa_cons (pe_slice sl_str (pv 1) (po_some (pv 2)) (po_some (pe_op op_sub (pe_callB call_len_str (by rfl) B.len PySem.boot_len (pa_cons (pv 1) pa_nil)) (pv 3)))) pa_nil)))))))))), enter (C := C) (sim_seq (sim_drop (sim_call rfl (sim_cons (sim_var 0) sim_nil))) (sim_seq (sim_drop (sim_call rfl (sim_cons (sim_var 1) sim_nil))) (sim_seq (sim_setF (i := 2) (sim_call rfl (sim_cons (sim_var 0) (sim_cons (sim_var 1) sim_nil)))) (sim_seq (sim_setF (i := 3) (sim_call rfl (sim_cons (sim_revS (sim_sl s_slS (sim_var 0) (sim_part (sim_var 2)) sim_noPart)) (sim_cons (sim_revS (sim_sl s_slS (sim_var 1) (sim_part (sim_var 2)) sim_noPart)) sim_nil)))) (sim_ret (sim_tup (sim_cons (sim_var 2) (sim_cons (sim_op s_rI0 (sim_op s_rI0 (sim_cb c_lenS (sim_cons (sim_var 0) sim_nil)) (sim_var 2)) (sim_var 3)) (sim_cons (sim_sl s_slS (sim_var 1) (sim_part (sim_var 2)) (sim_part (sim_op s_rI0 (sim_cb c_lenS (sim_cons (sim_var 1) sim_nil)) (sim_var 3)))) sim_nil))))))))) h fun as n k hl h => ?_⟩
  obtain ⟨u, w, rfl, h1, h2, lo, lo2, h⟩ := h
  have l1 := lkN_le u w
  have l2 := btB_le u w
  rfl'
  rw [cutN_drop]
  refine ⟨by rw [List.length_drop]; omega, ?_⟩
  rfl'
  rw [cutN_drop]
  refine ⟨by rw [List.length_drop]; omega, ?_⟩
  rfl'
  refine ⟨by rw [List.length_reverse, List.length_drop]; omega, by rw [List.length_reverse, List.length_drop]; omega, ?_⟩
  rfl'
  have e1 : (u.length : Int) - ((lkN u w : Nat) : Int) - ((lkN (u.drop (lkN u w)).reverse (w.drop (lkN u w)).reverse : Nat) : Int) = ((u.length - btA u w - btB u w : Nat) : Int) := by
    have l3 : lkN (u.drop (lkN u w)).reverse (w.drop (lkN u w)).reverse ≤ u.length - lkN u w := l2.1
    show _ = ((u.length - lkN u w - lkN (u.drop (lkN u w)).reverse (w.drop (lkN u w)).reverse : Nat) : Int)
    omega
  have e2 : (w.length : Int) - ((lkN (u.drop (lkN u w)).reverse (w.drop (lkN u w)).reverse : Nat) : Int) = ((w.length - btB u w : Nat) : Int) := by
    have l3 : lkN (u.drop (lkN u w)).reverse (w.drop (lkN u w)).reverse ≤ w.length - lkN u w := l2.2
    show _ = ((w.length - lkN (u.drop (lkN u w)).reverse (w.drop (lkN u w)).reverse : Nat) : Int)
    omega
  show k (.sh (.tup [.int (lkN u w : Nat), .int ((u.length : Int) - ((lkN u w : Nat) : Int) - ((lkN (u.drop (lkN u w)).reverse (w.drop (lkN u w)).reverse : Nat) : Int)), .str (cutN w (some ((lkN u w : Nat) : Int)) (some ((w.length : Int) - ((lkN (u.drop (lkN u w)).reverse (w.drop (lkN u w)).reverse : Nat) : Int))))])) n
  rw [e1, e2, cutN_two]
  exact h
end
end K4
set_option Elab.async false
set_option linter.all false
set_option maxRecDepth 100000
set_option maxHeartbeats 8000000
namespace K4
open PySem PySem.Spec PyProof.Rows L2 K4M
local macro_rules | `(tactic| trivial) => `(tactic| first | assumption | omega | (simp only [List.length_map, List.length_append, List.length_cons, List.length_nil, List.length_replicate, List.length_set]; omega) | decide)
local macro_rules | `(tactic| rfl') => `(tactic| repeat (first | refine ⟨_, rfl, ?_⟩ | refine ⟨rfl, ?_⟩ | refine ⟨shN, ?_⟩ | refine ⟨ownN, ?_⟩ | refine ⟨locN, ?_⟩ | refine ⟨_, _, rfl, rfl, ?_⟩ | refine ⟨_, _, rfl, ?_⟩ | refine ⟨_, .inr rfl, ?_⟩ | refine ⟨_, .inl rfl, ?_⟩ | refine ⟨_, _, _, rfl, rfl, rfl, ?_⟩ | refine And.intro (by trivial) ?_ | refine ifN rfl ?_ | refine ifY rfl ?_ | refine ifX rfl ?_ | refine ⟨shN, _, true, rfl, (by decide +kernel), ?_⟩ | refine ⟨shN, _, false, rfl, (by decide +kernel), ?_⟩ | refine ⟨locN, _, true, rfl, (by decide +kernel), ?_⟩ | refine ⟨locN, _, false, rfl, (by decide +kernel), ?_⟩))
local macro_rules | `(tactic| ac_rfl) => `(tactic| first | refine ⟨_, rfl, ?_⟩ | refine ⟨rfl, ?_⟩ | refine ⟨shN, ?_⟩ | refine ⟨ownN, ?_⟩ | refine ⟨locN, ?_⟩ | refine ⟨_, _, rfl, rfl, ?_⟩ | refine ⟨_, _, rfl, ?_⟩ | refine ⟨_, .inr rfl, ?_⟩ | refine ⟨_, .inl rfl, ?_⟩ | refine ⟨_, _, _, rfl, rfl, rfl, ?_⟩ | refine And.intro (by trivial) ?_ | refine ifN rfl ?_ | refine ifY rfl ?_ | refine ifX rfl ?_ | refine ⟨shN, _, true, rfl, (by decide +kernel), ?_⟩ | refine ⟨shN, _, false, rfl, (by decide +kernel), ?_⟩ | refine ⟨locN, _, true, rfl, (by decide +kernel), ?_⟩ | refine ⟨locN, _, false, rfl, (by decide +kernel), ?_⟩)
/-! ### the law's own texts and edits -/
abbrev gdD (u : List Nat) (g : Nat) : D := .tup [.str u, .int (g : Int)]
def fLtext : DSp := fun as n k => ∃ (u : List Nat) (g m : Nat), as = [.die, .d (gdD u g), .d (.int (m : Int))] ∧ n < 2 ^ 50 ∧ 0 < u.length ∧ u.length ≤ 26 ∧ g ≤ 100 ∧ 1 ≤ g ∧ m ≤ 1000 ∧ ∀ (w : List Nat) (n' : Nat), w.length ≤ m → (∀ c ∈ w, c ∈ u) → n' ≤ n + 200000 → k (.sh (.str w)) n'
def fLedit : DSp := fun as n k => ∃ (u : List Nat) (g : Nat) (t : List Nat), as = [.die, .d (gdD u g), .d (.str t)] ∧ n < 2 ^ 49 ∧ 0 < u.length ∧ u.length ≤ 26 ∧ g ≤ 100 ∧ 1 ≤ g ∧ t.length ≤ 900 ∧ ∀ (a o : Nat) (w : List Nat) (n' : Nat), a + o ≤ t.length → w.length ≤ 8 → (∀ c ∈ w, c ∈ u) → n' ≤ n + 300000 → k (.sh (edD a o w)) n'
def fLlike : DSp := fun as n k => ∃ u w : List Nat, as = [.d (.str u), .d (.str w)] ∧ u.length ≤ 1000 ∧ w.length ≤ 1000 ∧ k (.sh (.int (lkN u w : Nat))) n
def fLchg : DSp := fun as n k => ∃ (u : List Nat) (a o : Nat) (w : List Nat), as = [.d (.str u), .d (edD a o w)] ∧ u.length ≤ 1000 ∧ w.length ≤ 1000 ∧ k (.sh (.str (edW u a o w))) n
def fLbt : DSp := fun as n k => ∃ u w : List Nat, as = [.d (.str u), .d (.str w)] ∧ u.length ≤ 1000 ∧ w.length ≤ 1000 ∧ k (.sh (btD u w)) n
theorem signsD_at {u : List Nat} {i : Nat} {d : D} (h : (signsD u)[i]? = some d) : ∃ c, u[i]? = some c ∧ d = .str [c] := by
  unfold signsD at h
  rw [List.getElem?_map] at h
  cases e : u[i]? with
  | none => rw [e] at h; cases h
  | some c => rw [e] at h; cases h; exact ⟨c, rfl, rfl⟩
theorem mem_rep {c : Nat} {ls : List Nat} {k : Nat} (h : c ∈ rep ls k) : c ∈ ls := by
  unfold rep at h
  obtain ⟨l, hl, hc⟩ := List.mem_flatten.mp h
  rw [(List.mem_replicate.mp hl).2] at hc
  exact hc
theorem atI_six {q : Int} (h0 : 0 ≤ q) (h1 : q < 6) {a p : Nat} {b : Int} (hb : 0 ≤ b) : ∃ z : Nat, atI [D.int 0, .int b, .int 1, .int 2, .int 3, .int (p : Int)] q = some (.int (z : Int)) := by
  obtain ⟨b', rfl⟩ : ∃ b' : Nat, b = (b' : Int) := ⟨b.toNat, by omega⟩
  have h : q = 0 ∨ q = 1 ∨ q = 2 ∨ q = 3 ∨ q = 4 ∨ q = 5 := by omega
  rcases h with rfl | rfl | rfl | rfl | rfl | rfl
  · exact ⟨0, rfl⟩
  · exact ⟨b', rfl⟩
  · exact ⟨1, rfl⟩
  · exact ⟨2, rfl⟩
  · exact ⟨3, rfl⟩
  · exact ⟨p, rfl⟩
theorem atI_five {q : Int} (h0 : 0 ≤ q) (h1 : q < 5) {a b c d e : Nat} {m : Nat} (ha : a ≤ m) (hb : b ≤ m) (hc : c ≤ m) (hd : d ≤ m) (he : e ≤ m) : ∃ z : Nat, z ≤ m ∧ atI [D.int (a : Int), .int (b : Int), .int (c : Int), .int (d : Int), .int (e : Int)] q = some (.int (z : Int)) := by
  have h : q = 0 ∨ q = 1 ∨ q = 2 ∨ q = 3 ∨ q = 4 := by omega
  rcases h with rfl | rfl | rfl | rfl | rfl
  · exact ⟨a, ha, rfl⟩
  · exact ⟨b, hb, rfl⟩
  · exact ⟨c, hc, rfl⟩
  · exact ⟨d, hd, rfl⟩
  · exact ⟨e, he, rfl⟩
section
variable {P : Program} {w : World} {K : PySem.W.Frag} {mg : Str → Option Value} {base : Heap}
theorem scd_lch : FnScope ["text", "edit"] ["text", "edit"] (defScope st__law_changed) := ⟨rfl, rfl, rfl, by decide +kernel, rfl, by decide +kernel, by decide +kernel⟩
theorem okd_lch {C : Addr}  (B : Bi mg) (Z : Df K mg "_law_changed" st__law_changed ["text", "edit"]) : FnOk P w K mg base CX0 1 Z.f Z.fd ["text", "edit"] (spD C 2 fLchg) := by
  refine Z.F.ok scd_lch (fun vs H Q E h => spD_len h) (fun cdv A outer s H vs Q E hr h => ?_)
  refine ⟨_, (pss_one (ps_ret (pe_op op_add_str (pe_op op_add_str (pe_slice sl_str (pv 0) po_none (po_some (pe_ix (r := rIxT K) ix_tup (pv 1) pe_int (fun _ _ => rfl)))) (pe_ix (r := rIxT K) ix_tup (pv 1) pe_int (fun _ _ => rfl))) (pe_slice sl_str (pv 0) (po_some (pe_op op_add (pe_ix (r := rIxT K) ix_tup (pv 1) pe_int (fun _ _ => rfl)) (pe_ix (r := rIxT K) ix_tup (pv 1) pe_int (fun _ _ => rfl)))) po_none)))), enter (C := C) (sim_ret (sim_op s_addS (sim_op s_addS (sim_sl s_slS (sim_var 0) sim_noPart (sim_part (sim_op s_ixT (sim_var 1) (sim_int _)))) (sim_op s_ixT (sim_var 1) (sim_int _))) (sim_sl s_slS (sim_var 0) (sim_part (sim_op s_rI0 (sim_op s_ixT (sim_var 1) (sim_int _)) (sim_op s_ixT (sim_var 1) (sim_int _)))) sim_noPart))) h fun as n k hl h => ?_⟩
  obtain ⟨u, a, o, w, rfl, h1, h2, h⟩ := h
  rfl'
  rw [cutN_take]
  refine ⟨by rw [List.length_take]; omega, ?_⟩
  rfl'
  rw [show ((a : Int) + (o : Int)) = ((a + o : Nat) : Int) by omega, cutN_drop]
  refine ⟨by rw [List.length_append, List.length_take, List.length_drop]; omega, rfl, h⟩
theorem scd_llk : FnScope ["text", "late", "many", "one", "other"] ["text", "late"] (defScope st__law_like) := ⟨rfl, rfl, rfl, by decide +kernel, rfl, by decide +kernel, by decide +kernel⟩
theorem okd_llk {C : Addr}  (B : Bi mg) (Z : Df K mg "_law_like" st__law_like ["text", "late"]) : FnOk P w K mg base CX0 1 Z.f Z.fd ["text", "late"] (spD C 2 fLlike) := by
  refine Z.F.ok scd_llk (fun vs H Q E h => spD_len h) (fun cdv A outer s H vs Q E hr h => ?_)
  refine ⟨_, (pss_cons (ps_set (i := 2) scd_llk.nd rfl (.inl rfl) pe_int) (pss_cons (ps_for PassesOwn.never rfl (pi_zip (by rfl) B.zip (pa_cons (pe_callTy (call_listS rfl) (by rfl) B.list (by decide +kernel) (pa_cons (pv 0) pa_nil)) (pa_cons (pe_callTy (call_listS rfl) (by rfl) B.list (by decide +kernel) (pa_cons (pv 1) pa_nil)) pa_nil))) (pg_tup rfl (pgs_cons (pg_name (i := 3) scd_llk.nd rfl (.inl rfl)) (pgs_cons (pg_name (i := 4) scd_llk.nd rfl (.inl rfl)) pgs_nil))) (pss_cons (ps_if (pt_cmpR op_ne (pv 3) (pv 4) (nomark _)) (pss_one ps_break) pss_nil) (pss_one (ps_set (i := 2) scd_llk.nd rfl (.inl rfl) (pe_op op_add (pv 2) pe_int))))) (pss_one (ps_ret (pv 2))))), enter (C := C) (sim_seq (sim_setF (i := 2) (sim_int _)) (sim_seq (sim_for (sim_iZip (sim_cons (sim_cb c_listS (sim_cons (sim_var 0) sim_nil)) (sim_cons (sim_cb c_listS (sim_cons (sim_var 1) sim_nil)) sim_nil))) (sim_gTup (gdCons_len (gdCons_len gdNil_len)) (sim_gCons (sim_gName 3) (sim_gCons (sim_gName 4) sim_gNil))) (sim_seq (sim_ifS (sim_tTest (sim_op s_ne (sim_var 3) (sim_var 4))) sim_brk sim_next) (sim_setF (i := 2) (sim_op s_rI0 (sim_var 2) (sim_int _))))) (sim_ret (sim_var 2)))) h fun as n k hl h => ?_⟩
  obtain ⟨u, w, rfl, h1, h2, h⟩ := h
  rfl'
  refine ⟨_, _, _, _, rfl, rfl, rfl, ownN, ownN, rfl, ?_⟩
  refine forR_gen (fun i env m => m = n ∧ (∃ x y : Ent, env = [.sh (.str u), .sh (.str w), .sh (.int (i : Nat)), x, y]) ∧ i ≤ lkN u w) ⟨rfl, ⟨_, _, rfl⟩, Nat.zero_le _⟩ ?_ ?_
  · rintro i x env m k' hx ⟨rfl, ⟨x1, x2, rfl⟩, hi⟩ hk'
    obtain ⟨a, b, ha, hb, rfl⟩ := pairD_at hx
    obtain ⟨c, hc, rfl⟩ := signsD_at ha
    obtain ⟨d, hd, rfl⟩ := signsD_at hb
    have hst := lkN_step u w i c d hc hd hi
    rfl'
    by_cases e : c = d
    · subst e
      refine ifX (b := !D.eqs (.str [c]) (.str [c])) (by simp [D.eqs]) ?_
      rfl'
      exact hk' _ _ ⟨rfl, ⟨_, _, by rw [Int.natCast_add]; rfl⟩, hst.1 rfl⟩
    · refine ifY (b := !D.eqs (.str [c]) (.str [d])) (by simp [D.eqs, e]) ?_
      rw [hst.2 e] at h
      rfl'
      exact h
  · rintro env m ⟨rfl, ⟨x1, x2, rfl⟩, hi⟩
    have e := lkN_end u w hi (by unfold pairD signsD; rw [List.length_zipWith, List.length_map, List.length_map]; exact Nat.le_refl _)
    rw [← e]
    rfl'
    exact h
theorem scd_lbt : FnScope ["text", "late", "at", "behind"] ["text", "late"] (defScope st__law_between) := ⟨rfl, rfl, rfl, by decide +kernel, rfl, by decide +kernel, by decide +kernel⟩
theorem okd_lbt {C : Addr}  (B : Bi mg) (CL : Cal P w K mg base 1 "_law_like" ["text", "late"] (spD C 2 fLlike)) (Z : Df K mg "_law_between" st__law_between ["text", "late"]) : FnOk P w K mg base CX0 2 Z.f Z.fd ["text", "late"] (spD C 2 fLbt) := by
  refine Z.F.ok scd_lbt (fun vs H Q E h => spD_len h) (fun cdv A outer s H vs Q E hr h => ?_)
  refine ⟨_, (pss_cons (ps_set (i := 2) scd_lbt.nd rfl (.inl rfl) (pcall CL hr (by rfl) (pa_cons (pv 0) (pa_cons (pv 1) pa_nil)))) (pss_cons (ps_set (i := 3) scd_lbt.nd rfl (.inl rfl) (pcall CL hr (by rfl) (pa_cons (pe_revS (pe_slice sl_str (pv 0) (po_some (pv 2)) po_none)) (pa_cons (pe_revS (pe_slice sl_str (pv 1) (po_some (pv 2)) po_none)) pa_nil)))) (pss_one (ps_ret (pe_tup (pa_cons (pv 2) (pa_cons (pe_op op_sub (pe_op op_sub (pe_callB call_len_str (by rfl) B.len PySem.boot_len (pa_cons (pv 0) pa_nil)) (pv 2)) (pv 3)) (pa_cons (pe_slice sl_str (pv 1) (po_some (pv 2)) (po_some (pe_op op_sub (pe_callB call_len_str (by rfl) B.len PySem.boot_len (pa_cons (pv 1) pa_nil)) (pv 3)))) pa_nil)))))))), enter (C := C) (sim_seq (sim_setF (i := 2) (sim_call rfl (sim_cons (sim_var 0) (sim_cons (sim_var 1) sim_nil)))) (sim_seq (sim_setF (i := 3) (sim_call rfl (sim_cons (sim_revS (sim_sl s_slS (sim_var 0) (sim_part (sim_var 2)) sim_noPart)) (sim_cons (sim_revS (sim_sl s_slS (sim_var 1) (sim_part (sim_var 2)) sim_noPart)) sim_nil)))) (sim_ret (sim_tup (sim_cons (sim_var 2) (sim_cons (sim_op s_rI0 (sim_op s_rI0 (sim_cb c_lenS (sim_cons (sim_var 0) sim_nil)) (sim_var 2)) (sim_var 3)) (sim_cons (sim_sl s_slS (sim_var 1) (sim_part (sim_var 2)) (sim_part (sim_op s_rI0 (sim_cb c_lenS (sim_cons (sim_var 1) sim_nil)) (sim_var 3)))) sim_nil))))))) h fun as n k hl h => ?_⟩
  obtain ⟨u, w, rfl, h1, h2, h⟩ := h
  have l1 := lkN_le u w
  have l2 := btB_le u w
  rfl'
  rw [cutN_drop]
  refine ⟨by rw [List.length_drop]; omega, ?_⟩
  rfl'
  rw [cutN_drop]
  refine ⟨by rw [List.length_drop]; omega, ?_⟩
  rfl'
  refine ⟨by rw [List.length_reverse, List.length_drop]; omega, by rw [List.length_reverse, List.length_drop]; omega, ?_⟩
  rfl'
  have e1 : (u.length : Int) - ((lkN u w : Nat) : Int) - ((lkN (u.drop (lkN u w)).reverse (w.drop (lkN u w)).reverse : Nat) : Int) = ((u.length - btA u w - btB u w : Nat) : Int) := by
    have l3 : lkN (u.drop (lkN u w)).reverse (w.drop (lkN u w)).reverse ≤ u.length - lkN u w := l2.1
    show _ = ((u.length - lkN u w - lkN (u.drop (lkN u w)).reverse (w.drop (lkN u w)).reverse : Nat) : Int)
    omega
  have e2 : (w.length : Int) - ((lkN (u.drop (lkN u w)).reverse (w.drop (lkN u w)).reverse : Nat) : Int) = ((w.length - btB u w : Nat) : Int) := by
    have l3 : lkN (u.drop (lkN u w)).reverse (w.drop (lkN u w)).reverse ≤ w.length - lkN u w := l2.2
    show _ = ((w.length - lkN (u.drop (lkN u w)).reverse (w.drop (lkN u w)).reverse : Nat) : Int)
    omega
  show k (.sh (.tup [.int (lkN u w : Nat), .int ((u.length : Int) - ((lkN u w : Nat) : Int) - ((lkN (u.drop (lkN u w)).reverse (w.drop (lkN u w)).reverse : Nat) : Int)), .str (cutN w (some ((lkN u w : Nat) : Int)) (some ((w.length : Int) - ((lkN (u.drop (lkN u w)).reverse (w.drop (lkN u w)).reverse : Nat) : Int))))])) n
  rw [e1, e2, cutN_two]
  exact h
theorem scd_ltx : FnScope ["dice", "ground", "most", "signs", "found", "size", "way", "word", "spin"] ["dice", "ground", "most"] (defScope st__law_text) := ⟨rfl, rfl, rfl, by decide +kernel, rfl, by decide +kernel, by decide +kernel⟩
theorem okd_ltx {C : Addr}  (B : Bi mg) (CD : Cal P w K mg base 2 "_law_draw" ["dice", "many"] (spD C 2 fDraw)) (CO : Cal P w K mg base 3 "_law_one_of" ["dice", "some"] (spD C 2 fOne)) (Z : Df K mg "_law_text" st__law_text ["dice", "ground", "most"]) : FnOk P w K mg base CX0 4 Z.f Z.fd ["dice", "ground", "most"] (spD C 3 fLtext) := by
  refine Z.F.ok scd_ltx (fun vs H Q E h => spD_len h) (fun cdv A outer s H vs Q E hr h => ?_)
  have r2 : Room 2 _ := hr.mono (by decide)
  refine ⟨_, (pss_cons (ps_asg (pe_tup (pa_cons (pe_callTy (call_listS rfl) (by rfl) B.list (by decide +kernel) (pa_cons (pe_ix (r := rIxT K) ix_tup (pv 1) pe_int (fun _ _ => rfl)) pa_nil)) (pa_cons pe_str pa_nil))) (pg_tup rfl (pgs_cons (pg_name (i := 3) scd_ltx.nd rfl (.inr rfl)) (pgs_cons (pg_name (i := 4) scd_ltx.nd rfl (.inl rfl)) pgs_nil)))) (pss_cons (ps_set (i := 5) scd_ltx.nd rfl (.inl rfl) (pcall CD r2 (by rfl) (pa_cons (pv 0) (pa_cons (pe_op op_add (pv 2) pe_int) pa_nil)))) (pss_cons (ps_while PassesOwn.never (pt_cmpR op_lt (pe_callB call_len_str (by rfl) B.len PySem.boot_len (pa_cons (pv 4) pa_nil)) (pv 5) (nomark _)) (pss_cons (ps_set (i := 6) scd_ltx.nd rfl (.inl rfl) (pcall CD r2 (by rfl) (pa_cons (pv 0) (pa_cons pe_int pa_nil)))) (pss_one (ps_if (pt_cmpR op_eq (pv 6) pe_int (nomark _)) (pss_cons (ps_set (i := 7) scd_ltx.nd rfl (.inl rfl) (pe_join pe_str (pe_lc (own := [("spin", 8)]) (g := (gName 8)) (tt := tYes) rfl scd_ltx.nd (pi_range1 (by rfl) B.range (pa_cons (pe_op op_add pe_int (pcall CD r2 (by rfl) (pa_cons (pv 0) (pa_cons (pe_ix (r := rIxT K) ix_tup (pv 1) pe_int (fun _ _ => rfl)) pa_nil)))) pa_nil)) (blkOk_by (N := ["dice", "ground", "most", "signs", "found", "size", "way", "word", "spin"]) (sc := defScope st__law_text) (by decide +kernel)) (fun _ _ _ _ _ => (pg_name (i := 8) scd_ltx.nd rfl (.inl rfl))) (fun _ _ _ _ _ => pts_nil) (fun _ _ _ _ _ => (pcall CO hr (by rfl) (pa_cons (pv 0) (pa_cons (pv 3) pa_nil))))))) (pss_one (ps_set (i := 4) scd_ltx.nd rfl (.inl rfl) (pe_op op_add_str (pv 4) (pe_op op_mulS (pv 7) (pe_op op_add pe_int (pcall CD r2 (by rfl) (pa_cons (pv 0) (pa_cons pe_int pa_nil))))))))) (pss_one (ps_if (pt_cmpR op_eq (pv 6) pe_int (nomark _)) (pss_one (ps_set (i := 4) scd_ltx.nd rfl (.inl rfl) (pe_op op_add_str (pv 4) (pe_op op_mulS (pe_ix (r := rIxL K) ix_list (pv 3) pe_int (fun _ _ => rfl)) (pe_op op_add pe_int (pcall CD r2 (by rfl) (pa_cons (pv 0) (pa_cons pe_int pa_nil)))))))) (pss_one (ps_set (i := 4) scd_ltx.nd rfl (.inl rfl) (pe_op op_add_str (pv 4) (pe_join pe_str (pe_lc (own := [("spin", 8)]) (g := (gName 8)) (tt := tYes) rfl scd_ltx.nd (pi_range1 (by rfl) B.range (pa_cons (pe_op op_add pe_int (pcall CD r2 (by rfl) (pa_cons (pv 0) (pa_cons pe_int pa_nil)))) pa_nil)) (blkOk_by (N := ["dice", "ground", "most", "signs", "found", "size", "way", "word", "spin"]) (sc := defScope st__law_text) (by decide +kernel)) (fun _ _ _ _ _ => (pg_name (i := 8) scd_ltx.nd rfl (.inl rfl))) (fun _ _ _ _ _ => pts_nil) (fun _ _ _ _ _ => (pcall CO hr (by rfl) (pa_cons (pv 0) (pa_cons (pv 3) pa_nil))))))))))))))) (pss_one (ps_ret (pe_slice sl_str (pv 4) po_none (po_some (pv 5)))))))), enter (C := C) (sim_seq (sim_asg (sim_tup (sim_cons (sim_cb c_listS (sim_cons (sim_op s_ixT (sim_var 1) (sim_int _)) sim_nil)) (sim_cons (sim_str (w := []) (by decide +kernel)) sim_nil))) (sim_gTup (gdCons_len (gdCons_len gdNil_len)) (sim_gCons (sim_gName 3) (sim_gCons (sim_gName 4) sim_gNil)))) (sim_seq (sim_setF (i := 5) (sim_call rfl (sim_cons (sim_var 0) (sim_cons (sim_op s_rI0 (sim_var 2) (sim_int _)) sim_nil)))) (sim_seq (sim_while (sim_tTest (sim_op s_cI (sim_cb c_lenS (sim_cons (sim_var 4) sim_nil)) (sim_var 5))) (sim_seq (sim_setF (i := 6) (sim_call rfl (sim_cons (sim_var 0) (sim_cons (sim_int _) sim_nil)))) (sim_ifS (sim_tTest (sim_op s_eq (sim_var 6) (sim_int _))) (sim_seq (sim_setF (i := 7) (sim_m1 m_join (sim_str (w := []) (by decide +kernel)) (sim_lc (sim_iRng1 (sim_cons (sim_op s_rI0 (sim_int _) (sim_call rfl (sim_cons (sim_var 0) (sim_cons (sim_op s_ixT (sim_var 1) (sim_int _)) sim_nil)))) sim_nil)) (sim_gName 8) (by decide) sim_yes (sim_call rfl (sim_cons (sim_var 0) (sim_cons (sim_var 3) sim_nil)))))) (sim_setF (i := 4) (sim_op s_addS (sim_var 4) (sim_op s_mulS (sim_var 7) (sim_op s_rI0 (sim_int _) (sim_call rfl (sim_cons (sim_var 0) (sim_cons (sim_int _) sim_nil)))))))) (sim_ifS (sim_tTest (sim_op s_eq (sim_var 6) (sim_int _))) (sim_setF (i := 4) (sim_op s_addS (sim_var 4) (sim_op s_mulS (sim_op s_ix (sim_var 3) (sim_int _)) (sim_op s_rI0 (sim_int _) (sim_call rfl (sim_cons (sim_var 0) (sim_cons (sim_int _) sim_nil))))))) (sim_setF (i := 4) (sim_op s_addS (sim_var 4) (sim_m1 m_join (sim_str (w := []) (by decide +kernel)) (sim_lc (sim_iRng1 (sim_cons (sim_op s_rI0 (sim_int _) (sim_call rfl (sim_cons (sim_var 0) (sim_cons (sim_int _) sim_nil)))) sim_nil)) (sim_gName 8) (by decide) sim_yes (sim_call rfl (sim_cons (sim_var 0) (sim_cons (sim_var 3) sim_nil))))))))))) (sim_ret (sim_sl s_slS (sim_var 4) sim_noPart (sim_part (sim_var 5))))))) h fun as n k hl h => ?_⟩
  obtain ⟨u, g, m, rfl, hn, hu, hu2, hg, hg1, hm, h⟩ := h
  rfl'
  refine fun s s0 s1 => ?_
  obtain ⟨s', rfl⟩ : ∃ s' : Nat, s = (s' : Int) := ⟨s.toNat, by omega⟩
  rfl'
  refine ⟨fun t env n' => ∃ (f : List Nat) (x y z : Ent), env = [.die, .sh (gdD u g), .sh (.int (m : Int)), .sh (.lst (signsD u)), .sh (.str f), .sh (.int (s' : Int)), x, y, z] ∧ (∀ c ∈ f, c ∈ u) ∧ f.length ≤ 1000 + 4 * g + 4 ∧ t = s' - f.length ∧ n' ≤ n + 1 + f.length * 108, ⟨_, [], _, _, _, rfl, (fun _ h => by cases h), by show 0 ≤ _; omega, rfl, by show _ ≤ n + 1 + 0 * 108; omega⟩, ?_⟩
  rintro t env n' ⟨f, x, y, z, rfl, hf, hl, rfl, hn'⟩
  rfl'
  refine ite2 (fun hb => ?_) (fun hb => ?_)
  · have hb : f.length < s' := by have := of_decide_eq_true hb; omega
    rfl'
    refine fun r r0 r1 => ?_
    rfl'
    refine ite2 (fun hc => ?_) (fun hc => ?_)
    · ac_rfl
      ac_rfl
      ac_rfl
      ac_rfl
      ac_rfl
      ac_rfl
      refine ⟨[.str u, .int (g : Int)], 1, .int (g : Int), rfl, rfl, rfl, ?_⟩
      ac_rfl
      ac_rfl
      ac_rfl
      refine ⟨by omega, by omega, by omega, fun p p0 p1 => ?_⟩
      rfl'
      refine ⟨by rw [rngD_len]; omega, ?_⟩
      refine lcR_inv (fun i acc q => ∃ ls : List Nat, ls.length = i ∧ (∀ c ∈ ls, c ∈ u) ∧ acc = ls.map (fun c => D.str [c]) ∧ q = n' + 2 + i) ⟨[], rfl, (fun _ h => by cases h), rfl, by omega⟩ ?_ ?_
      · rintro i xx acc q hx ⟨ls, hls, hm1, rfl, rfl⟩
        have hi := (rngD_at hx).1
        refine ⟨_, rfl, fun k' hk' => ⟨_, rfl, _, rfl, _, rfl, rfl, signsD u, rfl, by omega, by unfold signsD; rw [List.length_map]; omega, by unfold signsD; rw [List.length_map]; omega, fun x hx => ?_⟩⟩
        obtain ⟨c, hc2, rfl⟩ := signs_mem hx
        refine hk' _ _ rfl ⟨ls ++ [c], by rw [List.length_append, hls]; rfl, fun y hy => ?_, by rw [List.map_append]; rfl, by omega⟩
        rcases List.mem_append.mp hy with hy | hy
        · exact hm1 y hy
        · rw [List.mem_singleton.mp hy]
          exact hc2
      · rintro acc q ⟨ls, hls, hm1, rfl, rfl⟩
        have er := rngD_len 0 (1 + p).toNat
        rw [er] at hls
        refine ⟨nofun, [], ls.map fun c => [c], rfl, .inl ?_, ?_, rfl, by show 7 < 9; decide, ?_⟩
        · show D.lst _ = D.lst _
          rw [List.map_map]
          rfl
        · rw [ones_sumD, List.length_map]
          show ls.length + ls.length * 0 ≤ _
          omega
        rw [joinN_nil, flatten_ones]
        rfl'
        refine fun v v0 v1 => ?_
        obtain ⟨v', hv'⟩ : ∃ v' : Nat, 1 + v = (v' : Int) := ⟨(1 + v).toNat, by omega⟩
        rfl'
        refine ⟨ls, v', rfl, congrArg D.int hv', ?_, by omega, by omega, ?_⟩
        · have : ls.length * v' ≤ ls.length * 4 := Nat.mul_le_mul_left _ (by omega)
          omega
        rfl'
        have hrl := rep_len ls v'
        have hm1' : ls.length ≤ v' * ls.length := Nat.le_mul_of_pos_left _ (by omega)
        have hm2 : v' * ls.length ≤ 4 * ls.length := Nat.mul_le_mul_right _ (by omega)
        refine ⟨by omega, rfl, by show 4 < 9; decide, ?_⟩
        refine ⟨s' - (f ++ rep ls v').length, by rw [List.length_append]; omega, f ++ rep ls v', _, _, _, rfl, fun c hc => ?_, by rw [List.length_append]; omega, rfl, by rw [List.length_append]; omega⟩
        rcases List.mem_append.mp hc with hc | hc
        · exact hf c hc
        · exact hm1 c (mem_rep hc)
    · rfl'
      refine ite2 (fun hd => ?_) (fun hd => ?_)
      · rfl'
        obtain ⟨c0, ur, rfl⟩ : ∃ c r, u = c :: r := by
          cases u with
          | nil => exact absurd hu (Nat.lt_irrefl 0)
          | cons c r => exact ⟨c, r, rfl⟩
        refine ⟨signsD (c0 :: ur), 0, .str [c0], rfl, rfl, atI_eq (k := 0) rfl rfl, ?_⟩
        rfl'
        refine fun v v0 v1 => ?_
        obtain ⟨v', hv'⟩ : ∃ v' : Nat, 1 + v = (v' : Int) := ⟨(1 + v).toNat, by omega⟩
        rfl'
        have hone : ([c0] : List Nat).length = 1 := rfl
        refine ⟨[c0], v', rfl, congrArg D.int hv', by rw [hone]; omega, by omega, by omega, ?_⟩
        rfl'
        have hrl := rep_len [c0] v'
        rw [hone, Nat.mul_one] at hrl
        refine ⟨by omega, rfl, by show 4 < 9; decide, ?_⟩
        refine ⟨s' - (f ++ rep [c0] v').length, by rw [List.length_append]; omega, f ++ rep [c0] v', _, _, _, rfl, fun c hc => ?_, by rw [List.length_append]; omega, rfl, by rw [List.length_append]; omega⟩
        rcases List.mem_append.mp hc with hc | hc
        · exact hf c hc
        · rw [List.mem_singleton.mp (mem_rep hc)]
          exact List.mem_cons_self ..
      · rfl'
        refine fun p p0 p1 => ?_
        rfl'
        refine ⟨by rw [rngD_len]; omega, ?_⟩
        refine lcR_inv (fun i acc q => ∃ ls : List Nat, ls.length = i ∧ (∀ c ∈ ls, c ∈ u) ∧ acc = ls.map (fun c => D.str [c]) ∧ q = n' + 2 + i) ⟨[], rfl, (fun _ h => by cases h), rfl, by omega⟩ ?_ ?_
        · rintro i xx acc q hx ⟨ls, hls, hm1, rfl, rfl⟩
          have hi := (rngD_at hx).1
          refine ⟨_, rfl, fun k' hk' => ⟨_, rfl, _, rfl, _, rfl, rfl, signsD u, rfl, by omega, by unfold signsD; rw [List.length_map]; omega, by unfold signsD; rw [List.length_map]; omega, fun x hx => ?_⟩⟩
          obtain ⟨c, hc2, rfl⟩ := signs_mem hx
          refine hk' _ _ rfl ⟨ls ++ [c], by rw [List.length_append, hls]; rfl, fun y hy => ?_, by rw [List.map_append]; rfl, by omega⟩
          rcases List.mem_append.mp hy with hy | hy
          · exact hm1 y hy
          · rw [List.mem_singleton.mp hy]
            exact hc2
        · rintro acc q ⟨ls, hls, hm1, rfl, rfl⟩
          have er := rngD_len 0 (1 + p).toNat
          rw [er] at hls
          refine ⟨nofun, [], ls.map fun c => [c], rfl, .inl ?_, ?_, nofun, _, _, rfl, rfl, ?_⟩
          · show D.lst _ = D.lst _
            rw [List.map_map]
            rfl
          · rw [ones_sumD, List.length_map]
            show ls.length + ls.length * 0 ≤ _
            omega
          rw [joinN_nil, flatten_ones]
          refine ⟨by omega, rfl, by show 4 < 9; decide, ?_⟩
          refine ⟨s' - (f ++ ls).length, by rw [List.length_append]; omega, f ++ ls, _, _, _, rfl, fun c hc => ?_, by rw [List.length_append]; omega, rfl, by rw [List.length_append]; omega⟩
          rcases List.mem_append.mp hc with hc | hc
          · exact hf c hc
          · exact hm1 c hc
  · have hb : ¬ f.length < s' := fun q => hb (decide_eq_true (by omega))
    rfl'
    rw [cutN_take]
    exact h _ _ (by rw [List.length_take]; omega) (fun c hc => hf c (List.mem_of_mem_take hc)) (by omega)
theorem scd_led : FnScope ["dice", "ground", "text", "at", "way", "out"] ["dice", "ground", "text"] (defScope st__law_edit) := ⟨rfl, rfl, rfl, by decide +kernel, rfl, by decide +kernel, by decide +kernel⟩
theorem okd_led {C : Addr}  (B : Bi mg) (CD : Cal P w K mg base 2 "_law_draw" ["dice", "many"] (spD C 2 fDraw)) (CT : Cal P w K mg base 4 "_law_text" ["dice", "ground", "most"] (spD C 3 fLtext)) (Z : Df K mg "_law_edit" st__law_edit ["dice", "ground", "text"]) : FnOk P w K mg base CX0 5 Z.f Z.fd ["dice", "ground", "text"] (spD C 3 fLedit) := by
  refine Z.F.ok scd_led (fun vs H Q E h => spD_len h) (fun cdv A outer s H vs Q E hr h => ?_)
  have r2 : Room 2 _ := hr.mono (by decide)
  refine ⟨_, (pss_cons (ps_set (i := 3) scd_led.nd rfl (.inl rfl) (pcall CD r2 (by rfl) (pa_cons (pv 0) (pa_cons (pe_op op_add (pe_callB call_len_str (by rfl) B.len PySem.boot_len (pa_cons (pv 2) pa_nil)) pe_int) pa_nil)))) (pss_cons (ps_set (i := 4) scd_led.nd rfl (.inl rfl) (pcall CD r2 (by rfl) (pa_cons (pv 0) (pa_cons pe_int pa_nil)))) (pss_cons (ps_set (i := 5) scd_led.nd rfl (.inl rfl) (pe_ix (r := rIxL K) ix_list (pe_lst (pa_cons pe_int (pa_cons (pe_op op_sub (pe_callB call_len_str (by rfl) B.len PySem.boot_len (pa_cons (pv 2) pa_nil)) (pv 3)) (pa_cons pe_int (pa_cons pe_int (pa_cons pe_int (pa_cons (pcall CD r2 (by rfl) (pa_cons (pv 0) (pa_cons (pe_op op_add (pe_op op_sub (pe_callB call_len_str (by rfl) B.len PySem.boot_len (pa_cons (pv 2) pa_nil)) (pv 3)) pe_int) pa_nil))) pa_nil))))))) (pv 4) (fun _ _ => rfl))) (pss_one (ps_ret (pe_tup (pa_cons (pv 3) (pa_cons (pe_callB (call_min2 rfl) (by rfl) B.min (by decide +kernel) (pa_cons (pv 5) (pa_cons (pe_op op_sub (pe_callB call_len_str (by rfl) B.len PySem.boot_len (pa_cons (pv 2) pa_nil)) (pv 3)) pa_nil))) (pa_cons (pcall CT hr (by rfl) (pa_cons (pv 0) (pa_cons (pv 1) (pa_cons (pe_ix (r := rIxL K) ix_list (pe_lst (pa_cons pe_int (pa_cons pe_int (pa_cons pe_int (pa_cons pe_int (pa_cons pe_int pa_nil)))))) (pcall CD r2 (by rfl) (pa_cons (pv 0) (pa_cons pe_int pa_nil))) (fun _ _ => rfl)) pa_nil)))) pa_nil))))))))), enter (C := C) (sim_seq (sim_setF (i := 3) (sim_call rfl (sim_cons (sim_var 0) (sim_cons (sim_op s_rI0 (sim_cb c_lenS (sim_cons (sim_var 2) sim_nil)) (sim_int _)) sim_nil)))) (sim_seq (sim_setF (i := 4) (sim_call rfl (sim_cons (sim_var 0) (sim_cons (sim_int _) sim_nil)))) (sim_seq (sim_setF (i := 5) (sim_op s_ix (sim_lst (sim_cons (sim_int _) (sim_cons (sim_op s_rI0 (sim_cb c_lenS (sim_cons (sim_var 2) sim_nil)) (sim_var 3)) (sim_cons (sim_int _) (sim_cons (sim_int _) (sim_cons (sim_int _) (sim_cons (sim_call rfl (sim_cons (sim_var 0) (sim_cons (sim_op s_rI0 (sim_op s_rI0 (sim_cb c_lenS (sim_cons (sim_var 2) sim_nil)) (sim_var 3)) (sim_int _)) sim_nil))) sim_nil))))))) (sim_var 4))) (sim_ret (sim_tup (sim_cons (sim_var 3) (sim_cons (sim_cb c_2I (sim_cons (sim_var 5) (sim_cons (sim_op s_rI0 (sim_cb c_lenS (sim_cons (sim_var 2) sim_nil)) (sim_var 3)) sim_nil))) (sim_cons (sim_call rfl (sim_cons (sim_var 0) (sim_cons (sim_var 1) (sim_cons (sim_op s_ix (sim_lst (sim_cons (sim_int _) (sim_cons (sim_int _) (sim_cons (sim_int _) (sim_cons (sim_int _) (sim_cons (sim_int _) sim_nil)))))) (sim_call rfl (sim_cons (sim_var 0) (sim_cons (sim_int _) sim_nil)))) sim_nil)))) sim_nil)))))))) h fun as n k hl h => ?_⟩
  obtain ⟨u, g, t, rfl, hn, hu, hu2, hg, hg1, ht, h⟩ := h
  rfl'
  refine fun a a0 a1 => ?_
  obtain ⟨a', rfl⟩ : ∃ a' : Nat, a = (a' : Int) := ⟨a.toNat, by omega⟩
  rfl'
  refine fun q q0 q1 => ?_
  rfl'
  refine fun p p0 p1 => ?_
  obtain ⟨p', rfl⟩ : ∃ p' : Nat, p = (p' : Int) := ⟨p.toNat, by omega⟩
  rfl'
  obtain ⟨z, hz⟩ := atI_six (a := 0) (p := p') q0 q1 (show (0 : Int) ≤ (t.length : Int) - (a' : Int) by omega)
  refine ⟨_, _, _, rfl, rfl, hz, ?_⟩
  rfl'
  refine fun v v0 v1 => ?_
  rfl'
  obtain ⟨y, hy, ey⟩ := atI_five (a := 0) (b := 1) (c := 2) (d := 4) (e := 8) (m := 8) v0 v1 (by decide) (by decide) (by decide) (by decide) (by decide)
  refine ⟨_, _, _, rfl, rfl, ey, ?_⟩
  rfl'
  refine ⟨u, g, y, rfl, by omega, hu, hu2, hg, hg1, by omega, fun w n' hw hmw hn' => ?_⟩
  rfl'
  have em : (if (t.length : Int) - (a' : Int) < (z : Int) then (t.length : Int) - (a' : Int) else (z : Int)) = ((min z (t.length - a') : Nat) : Int) := by split <;> omega
  show k (.sh (.tup [.int (a' : Int), .int (if (t.length : Int) - (a' : Int) < (z : Int) then (t.length : Int) - (a' : Int) else (z : Int)), .str w])) n'
  rw [em]
  exact h a' _ w n' (by omega) (by omega) hmw (by omega)
end
end K4
set_option Elab.async false
set_option linter.all false
set_option maxRecDepth 100000
set_option maxHeartbeats 8000000
namespace K4
open PySem PySem.Spec PyProof.Rows L2 K4M
local macro_rules | `(tactic| trivial) => `(tactic| first | assumption | omega | (simp only [List.length_map, List.length_append, List.length_cons, List.length_nil, List.length_replicate, List.length_set]; omega) | decide)
local macro_rules | `(tactic| rfl') => `(tactic| repeat (first | refine ⟨_, rfl, ?_⟩ | refine ⟨rfl, ?_⟩ | refine ⟨shN, ?_⟩ | refine ⟨ownN, ?_⟩ | refine ⟨locN, ?_⟩ | refine ⟨_, _, rfl, rfl, ?_⟩ | refine ⟨_, _, rfl, ?_⟩ | refine ⟨_, .inr rfl, ?_⟩ | refine ⟨_, .inl rfl, ?_⟩ | refine ⟨_, _, _, rfl, rfl, rfl, ?_⟩ | refine And.intro (by trivial) ?_ | refine ifN rfl ?_ | refine ifY rfl ?_ | refine ifX rfl ?_ | refine ⟨shN, _, true, rfl, (by decide +kernel), ?_⟩ | refine ⟨shN, _, false, rfl, (by decide +kernel), ?_⟩ | refine ⟨locN, _, true, rfl, (by decide +kernel), ?_⟩ | refine ⟨locN, _, false, rfl, (by decide +kernel), ?_⟩))
local macro_rules | `(tactic| ac_rfl) => `(tactic| first | refine ⟨_, rfl, ?_⟩ | refine ⟨rfl, ?_⟩ | refine ⟨shN, ?_⟩ | refine ⟨ownN, ?_⟩ | refine ⟨locN, ?_⟩ | refine ⟨_, _, rfl, rfl, ?_⟩ | refine ⟨_, _, rfl, ?_⟩ | refine ⟨_, .inr rfl, ?_⟩ | refine ⟨_, .inl rfl, ?_⟩ | refine ⟨_, _, _, rfl, rfl, rfl, ?_⟩ | refine And.intro (by trivial) ?_ | refine ifN rfl ?_ | refine ifY rfl ?_ | refine ifX rfl ?_ | refine ⟨shN, _, true, rfl, (by decide +kernel), ?_⟩ | refine ⟨shN, _, false, rfl, (by decide +kernel), ?_⟩ | refine ⟨locN, _, true, rfl, (by decide +kernel), ?_⟩ | refine ⟨locN, _, false, rfl, (by decide +kernel), ?_⟩)
theorem cutE (t : List Nat) (a o : Nat) : cutN t (some (a : Int)) (some ((a : Int) + (o : Int))) = (t.drop a).take o := by
  rw [show ((a : Int) + (o : Int)) = ((a + o : Nat) : Int) by omega, cutN_two, show a + o - a = o by omega]
theorem dep_ed (a o : Int) (w : List Nat) : D.dep 3 (.tup [.int a, .int o, .str w]) = true := rfl
theorem both {A : Prop} (R : List Ent → Nat → Prop) {S : (List Ent → Nat → Prop) → Prop} (h : S R → A) (g : S R) : A := h g
section
variable {P : Program} {w : World} {K : PySem.W.Frag} {mg : Str → Option Value} {base : Heap}
theorem scd_law : FnScope ["script", "dice", "ground", "text", "edit", "late", "back", "other", "one", "two", "between"] ["script"] (defScope st_law) := ⟨rfl, rfl, rfl, by decide +kernel, rfl, by decide +kernel, by decide +kernel⟩
theorem okd_law {C : Addr} (B : Bi mg) (Z : Df K mg "law" st_law ["script"]) (CDs : Cal P w K mg base 2 "_law_dices" ["script", "few"] (spDices K)) (CL : Cal P w K mg base 3 "_law_letters" ["dice", "many"] (spD C 2 fLetters)) (CD : Cal P w K mg base 2 "_law_draw" ["dice", "many"] (spD C 2 fDraw)) (CT : Cal P w K mg base 4 "_law_text" ["dice", "ground", "most"] (spD C 3 fLtext)) (CE : Cal P w K mg base 5 "_law_edit" ["dice", "ground", "text"] (spD C 3 fLedit)) (CEd : Cal P w K mg base 5 "edited" ["text", "edit"] (spD C 2 fTed)) (CEb : Cal P w K mg base 5 "edit_back" ["text", "edit"] (spD C 2 fEbk)) (CX : Cal P w K mg base 4 "_law_exact" ["mine", "theirs"] (spD C 2 (fExact 3))) (CC : Cal P w K mg base 1 "_law_changed" ["text", "edit"] (spD C 2 fLchg)) (CB : Cal P w K mg base 4 "edit_between" ["text", "late"] (spD C 2 fEbt)) (CLb : Cal P w K mg base 2 "_law_between" ["text", "late"] (spD C 2 fLbt)) :
    FnOk P w K mg base CX0 6 Z.f Z.fd ["script"] (spLaw K) := by
  refine Z.F.ok scd_law (fun vs H Q E h => ?_) (fun cdv A outer s' H vs Q E hr h => ?_)
  · obtain ⟨a, ns, rfl, _⟩ := h
    rfl
  have r1 : Room 1 _ := hr.mono (by decide)
  have r2 : Room 2 _ := hr.mono (by decide)
  have r3 : Room 3 _ := hr.mono (by decide)
  have r4 : Room 4 _ := hr.mono (by decide)
  refine ⟨_, (pss_cons (ps_for PassesOwn.never rfl (pi_list (pcall CDs r2 (by rfl) (pa_cons (pv 0) (pa_cons pe_int pa_nil)))) (pg_name (i := 1) scd_law.nd rfl (.inl rfl)) (pss_cons (ps_set (i := 2) scd_law.nd rfl (.inl rfl) (pe_tup (pa_cons (pcall CL r3 (by rfl) (pa_cons (pv 1) (pa_cons (pe_op op_add pe_int (pcall CD r2 (by rfl) (pa_cons (pv 1) (pa_cons pe_int pa_nil)))) pa_nil))) (pa_cons (pe_op op_add pe_int (pcall CD r2 (by rfl) (pa_cons (pv 1) (pa_cons pe_int pa_nil)))) pa_nil)))) (pss_cons (ps_set (i := 3) scd_law.nd rfl (.inl rfl) (pcall CT r4 (by rfl) (pa_cons (pv 1) (pa_cons (pv 2) (pa_cons (pe_ix (r := rIxL K) ix_list (pe_lst (pa_cons pe_int (pa_cons pe_int (pa_cons pe_int (pa_cons pe_int (pa_cons pe_int pa_nil)))))) (pcall CD r2 (by rfl) (pa_cons (pv 1) (pa_cons pe_int pa_nil))) (fun _ _ => rfl)) pa_nil))))) (pss_cons (ps_set (i := 4) scd_law.nd rfl (.inl rfl) (pcall CE hr (by rfl) (pa_cons (pv 1) (pa_cons (pv 2) (pa_cons (pv 3) pa_nil))))) (pss_cons (ps_set (i := 5) scd_law.nd rfl (.inl rfl) (pcall CEd hr (by rfl) (pa_cons (pv 3) (pa_cons (pv 4) pa_nil)))) (pss_cons (ps_if (pt_not (pt_val (pcall CX r4 (by rfl) (pa_cons (pv 5) (pa_cons (pcall CC r1 (by rfl) (pa_cons (pv 3) (pa_cons (pv 4) pa_nil))) pa_nil))))) pss_never pss_nil) (pss_cons (ps_set (i := 6) scd_law.nd rfl (.inl rfl) (pcall CEb hr (by rfl) (pa_cons (pv 3) (pa_cons (pv 4) pa_nil)))) (pss_cons (ps_if (PW.pt (pw_or (pt_not (pt_val (pcall CX r4 (by rfl) (pa_cons (pv 6) (pa_cons (pe_tup (pa_cons (pe_ix (r := rIxT K) ix_tup (pv 4) pe_int (fun _ _ => rfl)) (pa_cons (pe_callB call_len_str (by rfl) B.len PySem.boot_len (pa_cons (pe_ix (r := rIxT K) ix_tup (pv 4) pe_int (fun _ _ => rfl)) pa_nil)) (pa_cons (pe_slice sl_str (pv 3) (po_some (pe_ix (r := rIxT K) ix_tup (pv 4) pe_int (fun _ _ => rfl))) (po_some (pe_op op_add (pe_ix (r := rIxT K) ix_tup (pv 4) pe_int (fun _ _ => rfl)) (pe_ix (r := rIxT K) ix_tup (pv 4) pe_int (fun _ _ => rfl))))) pa_nil)))) pa_nil))))) (pw_or1 (pt_not (pt_val (pcall CX r4 (by rfl) (pa_cons (pcall CEd hr (by rfl) (pa_cons (pv 5) (pa_cons (pv 6) pa_nil))) (pa_cons (pv 3) pa_nil)))))))) pss_never pss_nil) (pss_cons (ps_if (pt_not (pt_val (pcall CX r4 (by rfl) (pa_cons (pcall CEb hr (by rfl) (pa_cons (pv 5) (pa_cons (pv 6) pa_nil))) (pa_cons (pv 4) pa_nil))))) pss_never pss_nil) (pss_cons (ps_set (i := 7) scd_law.nd rfl (.inl rfl) (pv 5)) (pss_cons (ps_if (PW.pt (pw_and (pt_cmpR op_lt (pe_callB call_len_str (by rfl) B.len PySem.boot_len (pa_cons (pv 5) pa_nil)) pe_int (nomark _)) (pw_and1 (pt_cmpR op_eq (pcall CD r2 (by rfl) (pa_cons (pv 1) (pa_cons pe_int pa_nil))) pe_int (nomark _))))) (pss_one (ps_set (i := 7) scd_law.nd rfl (.inl rfl) (pcall CEd hr (by rfl) (pa_cons (pv 5) (pa_cons (pcall CE hr (by rfl) (pa_cons (pv 1) (pa_cons (pv 2) (pa_cons (pv 5) pa_nil)))) pa_nil))))) (pss_one (ps_if (pt_cmpR op_eq (pcall CD r2 (by rfl) (pa_cons (pv 1) (pa_cons pe_int pa_nil))) pe_int (nomark _)) (pss_one (ps_set (i := 7) scd_law.nd rfl (.inl rfl) (pcall CT r4 (by rfl) (pa_cons (pv 1) (pa_cons (pv 2) (pa_cons pe_int pa_nil)))))) pss_nil))) (pss_one (ps_for PassesOwn.never rfl (pi_list (pe_lst (pa_cons (pe_tup (pa_cons (pv 3) (pa_cons (pv 7) pa_nil))) (pa_cons (pe_tup (pa_cons (pv 7) (pa_cons (pv 3) pa_nil))) (pa_cons (pe_tup (pa_cons (pv 5) (pa_cons (pv 7) pa_nil))) (pa_cons (pe_tup (pa_cons (pv 3) (pa_cons (pv 3) pa_nil))) pa_nil)))))) (pg_tup rfl (pgs_cons (pg_name (i := 8) scd_law.nd rfl (.inl rfl)) (pgs_cons (pg_name (i := 9) scd_law.nd rfl (.inl rfl)) pgs_nil))) (pss_cons (ps_set (i := 10) scd_law.nd rfl (.inl rfl) (pcall CB r4 (by rfl) (pa_cons (pv 8) (pa_cons (pv 9) pa_nil)))) (pss_one (ps_if (PW.pt (pw_or (pt_not (pt_val (pcall CX r4 (by rfl) (pa_cons (pv 10) (pa_cons (pcall CLb r2 (by rfl) (pa_cons (pv 8) (pa_cons (pv 9) pa_nil))) pa_nil))))) (pw_or1 (pt_not (pt_val (pcall CX r4 (by rfl) (pa_cons (pcall CEd hr (by rfl) (pa_cons (pv 8) (pa_cons (pv 10) pa_nil))) (pa_cons (pv 9) pa_nil)))))))) pss_never pss_nil)))))))))))))))) (pss_one (ps_ret pe_bl))), law_loop (C := C) (sim_seq (sim_setF (i := 2) (sim_tup (sim_cons (sim_call rfl (sim_cons (sim_var 1) (sim_cons (sim_op s_rI0 (sim_int _) (sim_call rfl (sim_cons (sim_var 1) (sim_cons (sim_int _) sim_nil)))) sim_nil))) (sim_cons (sim_op s_rI0 (sim_int _) (sim_call rfl (sim_cons (sim_var 1) (sim_cons (sim_int _) sim_nil)))) sim_nil)))) (sim_seq (sim_setF (i := 3) (sim_call rfl (sim_cons (sim_var 1) (sim_cons (sim_var 2) (sim_cons (sim_op s_ix (sim_lst (sim_cons (sim_int _) (sim_cons (sim_int _) (sim_cons (sim_int _) (sim_cons (sim_int _) (sim_cons (sim_int _) sim_nil)))))) (sim_call rfl (sim_cons (sim_var 1) (sim_cons (sim_int _) sim_nil)))) sim_nil))))) (sim_seq (sim_setF (i := 4) (sim_call rfl (sim_cons (sim_var 1) (sim_cons (sim_var 2) (sim_cons (sim_var 3) sim_nil))))) (sim_seq (sim_setF (i := 5) (sim_call rfl (sim_cons (sim_var 3) (sim_cons (sim_var 4) sim_nil)))) (sim_seq (sim_ifS (sim_not (sim_tB (sim_borrow (sim_call rfl (sim_cons (sim_var 5) (sim_cons (sim_call rfl (sim_cons (sim_var 3) (sim_cons (sim_var 4) sim_nil))) sim_nil)))))) sim_never sim_next) (sim_seq (sim_setF (i := 6) (sim_call rfl (sim_cons (sim_var 3) (sim_cons (sim_var 4) sim_nil)))) (sim_seq (sim_ifS (sim_or (sim_not (sim_tB (sim_borrow (sim_call rfl (sim_cons (sim_var 6) (sim_cons (sim_tup (sim_cons (sim_op s_ixT (sim_var 4) (sim_int _)) (sim_cons (sim_cb c_lenS (sim_cons (sim_op s_ixT (sim_var 4) (sim_int _)) sim_nil)) (sim_cons (sim_sl s_slS (sim_var 3) (sim_part (sim_op s_ixT (sim_var 4) (sim_int _))) (sim_part (sim_op s_rI0 (sim_op s_ixT (sim_var 4) (sim_int _)) (sim_op s_ixT (sim_var 4) (sim_int _))))) sim_nil)))) sim_nil)))))) (sim_not (sim_tB (sim_borrow (sim_call rfl (sim_cons (sim_call rfl (sim_cons (sim_var 5) (sim_cons (sim_var 6) sim_nil))) (sim_cons (sim_var 3) sim_nil))))))) sim_never sim_next) (sim_seq (sim_ifS (sim_not (sim_tB (sim_borrow (sim_call rfl (sim_cons (sim_call rfl (sim_cons (sim_var 5) (sim_cons (sim_var 6) sim_nil))) (sim_cons (sim_var 4) sim_nil)))))) sim_never sim_next) (sim_seq (sim_setF (i := 7) (sim_var 5)) (sim_seq (sim_ifS (sim_and (sim_tTest (sim_op s_cI (sim_cb c_lenS (sim_cons (sim_var 5) sim_nil)) (sim_int _))) (sim_tTest (sim_op s_eq (sim_call rfl (sim_cons (sim_var 1) (sim_cons (sim_int _) sim_nil))) (sim_int _)))) (sim_setF (i := 7) (sim_call rfl (sim_cons (sim_var 5) (sim_cons (sim_call rfl (sim_cons (sim_var 1) (sim_cons (sim_var 2) (sim_cons (sim_var 5) sim_nil)))) sim_nil)))) (sim_ifS (sim_tTest (sim_op s_eq (sim_call rfl (sim_cons (sim_var 1) (sim_cons (sim_int _) sim_nil))) (sim_int _))) (sim_setF (i := 7) (sim_call rfl (sim_cons (sim_var 1) (sim_cons (sim_var 2) (sim_cons (sim_int _) sim_nil))))) sim_next)) (sim_for (sim_iList (sim_lst (sim_cons (sim_tup (sim_cons (sim_var 3) (sim_cons (sim_var 7) sim_nil))) (sim_cons (sim_tup (sim_cons (sim_var 7) (sim_cons (sim_var 3) sim_nil))) (sim_cons (sim_tup (sim_cons (sim_var 5) (sim_cons (sim_var 7) sim_nil))) (sim_cons (sim_tup (sim_cons (sim_var 3) (sim_cons (sim_var 3) sim_nil))) sim_nil)))))) (sim_gTup (gdCons_len (gdCons_len gdNil_len)) (sim_gCons (sim_gName 8) (sim_gCons (sim_gName 9) sim_gNil))) (sim_seq (sim_setF (i := 10) (sim_call rfl (sim_cons (sim_var 8) (sim_cons (sim_var 9) sim_nil)))) (sim_ifS (sim_or (sim_not (sim_tB (sim_borrow (sim_call rfl (sim_cons (sim_var 10) (sim_cons (sim_call rfl (sim_cons (sim_var 8) (sim_cons (sim_var 9) sim_nil))) sim_nil)))))) (sim_not (sim_tB (sim_borrow (sim_call rfl (sim_cons (sim_call rfl (sim_cons (sim_var 8) (sim_cons (sim_var 10) sim_nil))) (sim_cons (sim_var 9) sim_nil))))))) sim_never sim_next))))))))))))) (sim_ret (sim_bl _)) (by decide) (by decide) (by decide) ?_ ?_ h⟩
  · refine (show dSeq _ _ (lawE 11) [.un, .die, .un, .un, .un, .un, .un, .un, .un, .un, .un] 0 from ?_)
    rfl'
    refine fun a a0 a1 => ?_
    obtain ⟨mm, em⟩ : ∃ mm : Nat, 2 + a = (mm : Int) := ⟨(2 + a).toNat, by omega⟩
    rfl'
    refine ⟨mm, congrArg (fun x => [Ar.die, .d (.int x)]) em, by omega, by omega, fun u hu lo pw => ?_⟩
    rfl'
    refine fun b b0 b1 => ?_
    obtain ⟨g, eg⟩ : ∃ g : Nat, 2 + b = (g : Int) := ⟨(2 + b).toNat, by omega⟩
    rfl'
    refine fun c c0 c1 => ?_
    rfl'
    obtain ⟨m1, hm1, e1⟩ := atI_five (a := 4) (b := 12) (c := 40) (d := 40) (e := 110) (m := 110) c0 c1 (by decide) (by decide) (by decide) (by decide) (by decide)
    refine ⟨_, _, _, rfl, rfl, e1, ?_⟩
    rfl'
    refine ⟨u, g, m1, congrArg (fun x => [Ar.die, .d (.tup [.str u, .int x]), .d (.int (m1 : Int))]) eg, by omega, by omega, by omega, by omega, by omega, by omega, fun t n1 ht hmt hn1 => ?_⟩
    have lt : Low t := fun c hc => lo c (hmt c hc)
    rfl'
    refine ⟨u, g, t, congrArg (fun x => [Ar.die, .d (.tup [.str u, .int x]), .d (.str t)]) eg, by omega, by omega, by omega, by omega, by omega, by omega, fun at' ou pu n2 hao hpu hmp hn2 => ?_⟩
    have lp : Low pu := fun c hc => lo c (hmp c hc)
    have ok1 : EdOk t at' ou pu := ⟨lt, lp, by omega, by omega, hao⟩
    have ll := edW_len t at' ou pu hao
    have lw := edW_low (a := at') (o := ou) lt lp
    obtain ⟨q1, q2⟩ := ed_back t at' ou pu hao
    have lc : ((t.drop at').take ou).length = ou := by rw [List.length_take, List.length_drop]; omega
    rfl'
    refine ⟨t, at', ou, pu, rfl, ok1, ?_⟩
    rfl'
    refine ⟨t, at', ou, pu, rfl, by omega, by omega, ?_⟩
    rfl'
    refine ⟨t, at', ou, pu, rfl, ok1, ?_⟩
    rfl'
    refine ⟨congrArg (fun x => D.tup [.int (at' : Int), .int (pu.length : Int), .str x]) (cutE t at' ou).symm, dep_ed _ _ _, rfl, ?_⟩
    rfl'
    have ok2 : EdOk (edW t at' ou pu) at' pu.length ((t.drop at').take ou) := ⟨lw, cut_low lt, by omega, by omega, by omega⟩
    refine ⟨edW t at' ou pu, at', pu.length, (t.drop at').take ou, rfl, ok2, ?_⟩
    rw [q1]
    rfl'
    refine ⟨edW t at' ou pu, at', pu.length, (t.drop at').take ou, rfl, ok2, ?_⟩
    rw [q2, lc]
    rfl'
    refine both ?R (S := fun R => ∀ (ot : List Nat) (m : Nat), Low ot → ot.length ≤ 200 → R [.un, .die, .sh (.tup [.str u, .int (2 + b)]), .sh (.str t), .sh (edD at' ou pu), .sh (.str (edW t at' ou pu)), .sh (edD at' pu.length ((t.drop at').take ou)), .sh (.str ot), .un, .un, .un] m) (fun key => ?g1) ?g2
    case g1 =>
      refine ite2  (fun hx => ?_) (fun hx => ?_)
      · have hx := of_decide_eq_true hx
        rfl'
        refine fun d d0 d1 => ?_
        rfl'
        refine ite2 (fun hy => ?_) (fun hy => ?_)
        · rfl'
          refine ⟨u, g, edW t at' ou pu, congrArg (fun x => [Ar.die, .d (.tup [.str u, .int x]), .d (.str (edW t at' ou pu))]) eg, by omega, by omega, by omega, by omega, by omega, by omega, fun a3 o3 p3 n3 h3 hp3 hm3 hn3 => ?_⟩
          have lp3 : Low p3 := fun c hc => lo c (hm3 c hc)
          have l3 := edW_len (edW t at' ou pu) a3 o3 p3 h3
          rfl'
          refine ⟨edW t at' ou pu, a3, o3, p3, rfl, ⟨lw, lp3, by omega, by omega, h3⟩, ?_⟩
          refine ⟨rfl, by show 7 < 11; decide, ?_⟩
          exact key (edW (edW t at' ou pu) a3 o3 p3) _ (edW_low lw lp3) (by omega)
        · skip
          ac_rfl
          ac_rfl
          ac_rfl
          rfl'
          refine fun v v0 v1 => ?_
          rfl'
          refine ite2 (fun hz => ?_) (fun hz => ?_)
          · rfl'
            refine ⟨u, g, 40, congrArg (fun x => [Ar.die, .d (.tup [.str u, .int x]), .d (.int 40)]) eg, by omega, by omega, by omega, by omega, by omega, by omega, fun t4 n4 ht4 hmt4 hn4 => ?_⟩
            refine ⟨rfl, by show 7 < 11; decide, ?_⟩
            exact key t4 _ (fun c hc => lo c (hmt4 c hc)) (by omega)
          · exact key (edW t at' ou pu) _ lw (by omega)
      · skip
        ac_rfl
        ac_rfl
        ac_rfl
        rfl'
        refine fun v v0 v1 => ?_
        rfl'
        refine ite2 (fun hz => ?_) (fun hz => ?_)
        · rfl'
          refine ⟨u, g, 40, congrArg (fun x => [Ar.die, .d (.tup [.str u, .int x]), .d (.int 40)]) eg, by omega, by omega, by omega, by omega, by omega, by omega, fun t4 n4 ht4 hmt4 hn4 => ?_⟩
          refine ⟨rfl, by show 7 < 11; decide, ?_⟩
          exact key t4 _ (fun c hc => lo c (hmt4 c hc)) (by omega)
        · exact key (edW t at' ou pu) _ lw (by omega)
    case g2 =>
      intro ot m lo3 hl3
      iterate 17 ac_rfl
      refine ⟨by show 4 ≤ 1000000; decide, _, rfl, ownN, rfl, ?_⟩
      refine forR_gen (fun i env m => ∃ x8 x9 x10 : Ent, env = [.un, .die, .sh (.tup [.str u, .int (2 + b)]), .sh (.str t), .sh (edD at' ou pu), .sh (.str (edW t at' ou pu)), .sh (edD at' pu.length ((t.drop at').take ou)), .sh (.str ot), x8, x9, x10]) ⟨_, _, _, rfl⟩ ?_ ?_
      · rintro i x env m k' hx ⟨x8, x9, x10, rfl⟩ hk'
        have hmem := List.mem_of_getElem? hx
        obtain ⟨a5, b5, la, lb, ha, hb, rfl⟩ : ∃ a5 b5 : List Nat, Low a5 ∧ Low b5 ∧ a5.length ≤ 1000 ∧ b5.length ≤ 1000 ∧ x = .tup [.str a5, .str b5] := by
          rcases List.mem_cons.mp hmem with q | hmem
          · exact ⟨t, ot, lt, lo3, by omega, by omega, q⟩
          rcases List.mem_cons.mp hmem with q | hmem
          · exact ⟨ot, t, lo3, lt, by omega, by omega, q⟩
          rcases List.mem_cons.mp hmem with q | hmem
          · exact ⟨edW t at' ou pu, ot, lw, lo3, by omega, by omega, q⟩
          · exact ⟨t, t, lt, lt, by omega, by omega, List.mem_singleton.mp hmem⟩
        have hbt := bt_ed a5 b5
        have okB : EdOk a5 (btA a5 b5) (a5.length - btA a5 b5 - btB a5 b5) ((b5.drop (btA a5 b5)).take (b5.length - btB a5 b5 - btA a5 b5)) := ⟨la, cut_low lb, ha, by rw [List.length_take, List.length_drop]; omega, by
          have := lkN_le a5 b5
          have h7 : btA a5 b5 = lkN a5 b5 := rfl
          omega⟩
        clear hx hmem
        rfl'
        refine ⟨a5, btA a5 b5, a5.length - btA a5 b5 - btB a5 b5, (b5.drop (btA a5 b5)).take (b5.length - btB a5 b5 - btA a5 b5), rfl, okB, ?_⟩
        rw [hbt]
        rfl'
        exact hk' _ _ ⟨_, _, _, rfl⟩
      · rintro env m ⟨x8, x9, x10, rfl⟩
        rfl
  · rfl'
    rfl
end
end K4
set_option Elab.async false
set_option linter.all false
set_option maxRecDepth 100000
set_option maxHeartbeats 4000000
namespace K4
open PySem PySem.Spec PyProof.Rows L2 K4M
/-- a def as the top has left it -/
def df_mk {K : PySem.W.Frag} {h : Heap} {mg : Str → Option Value} (X : K.In h) (G : h.Ns mainGlobals mg) {x : Str} {st : Stmt} {ps : List Str} {f : Addr} {oc : Value} {od an : Option Addr} {sl : Array (Option Value)} {kV dc pm cd ct : Value}
    (a : PySem.W.nsIn K mainGlobals x = some (some (.ref f))) (l : K.lookup f = some ⟨oc, od, .func (PySem.W.fnOf x x (defArgs st) (defBody st) (defScope st) .none kV dc pm an cd ct), sl⟩) (c : PySem.W.codeIn K cd x = true) (k : PySem.W.keepIn K (.ref f) = true)
    (b : ∀ (kV doc pm : Value) (an : Option Addr) (cdv ct : Value) (us : List Value), us.length = ps.length → bindArgs (PySem.W.fnOf x x (defArgs st) (defBody st) (defScope st) .none kV doc pm an cdv ct) ⟨us, []⟩ = pure (ps.zip us)) : Df K mg x st ps :=
  ⟨f, _, fun_mk (st := st) l c k, (fun_mk (st := st) l c k).binds b, PySem.W.mg_of X G a, ⟨_, _, _, _, _, _, rfl⟩⟩
theorem all_mk {l : PySem.W.OpenLaw} {w : World} {K : PySem.W.Frag} {h : Heap} {mg : Str → Option Value} {fa f1 : Addr} (X : K.In h) (G : h.Ns mainGlobals mg) (hfa : mg "law" = some (.ref fa))
    {od1 an1 : Option Addr} {sl1 : Array (Option Value)} {oc1 kV1 dc1 pm1 cd1 ct1 : Value}
    (a1 : PySem.W.nsIn K mainGlobals "law" = some (some (.ref f1))) (l1 : K.lookup f1 = some ⟨oc1, od1, .func (PySem.W.fnOf "law" "law" (defArgs st_law) (defBody st_law) (defScope st_law) .none kV1 dc1 pm1 an1 cd1 ct1), sl1⟩) (c1 : PySem.W.codeIn K cd1 "law" = true) (k1 : PySem.W.keepIn K (.ref f1) = true)
    (B : Bi mg) {t : Tok} (lt : PySem.W.nsIn K mainGlobals "LETTERS" = some (some (.str LET t)))
    (d__law_dice : Df K mg "_law_dice" st__law_dice ["script", "at"])
    (d__law_dices : Df K mg "_law_dices" st__law_dices ["script", "few"])
    (d__law_mixed : Df K mg "_law_mixed" st__law_mixed ["seed", "spin", "at"])
    (d__law_draw : Df K mg "_law_draw" st__law_draw ["dice", "many"])
    (d__law_letters : Df K mg "_law_letters" st__law_letters ["dice", "many"])
    (d__law_one_of : Df K mg "_law_one_of" st__law_one_of ["dice", "some"])
    (d__law_text : Df K mg "_law_text" st__law_text ["dice", "ground", "most"])
    (d__law_edit : Df K mg "_law_edit" st__law_edit ["dice", "ground", "text"])
    (d_is_made_of : Df K mg "is_made_of" st_is_made_of ["value", "signs"])
    (d_is_text : Df K mg "is_text" st_is_text ["value"])
    (d_check_text : Df K mg "check_text" st_check_text ["value"])
    (d_is_whole_number : Df K mg "is_whole_number" st_is_whole_number ["value"])
    (d_is_count : Df K mg "is_count" st_is_count ["value"])
    (d_is_edit_of : Df K mg "is_edit_of" st_is_edit_of ["text", "value"])
    (d__check_edit : Df K mg "_check_edit" st__check_edit ["text", "edit"])
    (d_text_edited : Df K mg "text_edited" st_text_edited ["text", "edit"])
    (d_edited : Df K mg "edited" st_edited ["text", "edit"])
    (d_edit_back : Df K mg "edit_back" st_edit_back ["text", "edit"])
    (d__law_changed : Df K mg "_law_changed" st__law_changed ["text", "edit"])
    (d__alike_ahead : Df K mg "_alike_ahead" st__alike_ahead ["one", "other"])
    (d_edit_between : Df K mg "edit_between" st_edit_between ["text", "late"])
    (d__law_like : Df K mg "_law_like" st__law_like ["text", "late"])
    (d__law_between : Df K mg "_law_between" st__law_between ["text", "late"])
    (d__law_exact : Df K mg "_law_exact" st__law_exact ["mine", "theirs"])
    : ∃ fd : FuncData, (∀ (s : Shared) (v : Value), BindsTo s fd ⟨[v], []⟩ [("script", v)]) ∧ ∀ base : Heap, K.In base → base.Ns mainGlobals mg → FnOk l.prog w K mg base CX0 6 fa fd ["script"] (spLaw K) := by
  have e := hfa.symm.trans (PySem.W.mg_of X G a1)
  cases e
  have F1 := fun_mk (st := st_law) l1 c1 k1
  have b1 := F1.binds (ps := ["script"]) fun _ _ _ _ _ _ us hl => match us, hl with | [_], _ => rfl
  refine ⟨PySem.W.fnOf "law" "law" (defArgs st_law) (defBody st_law) (defScope st_law) .none kV1 dc1 pm1 an1 cd1 ct1, fun s v => .of_eq rfl, fun base _ _ => ?_⟩
  have c_exact3 := d__law_exact.cal (P := l.prog) (w := w) (base := base) (exactD (C := 0) (ok_exact B d__law_exact 3))
  have c__law_dice := d__law_dice.cal (P := l.prog) (w := w) (base := base) (ok_dice B d__law_dice)
  have c__law_dices := d__law_dices.cal (P := l.prog) (w := w) (base := base) (ok_dices B d__law_dices c__law_dice)
  have c__law_mixed := d__law_mixed.cal (P := l.prog) (w := w) (base := base) (ok_mixed B d__law_mixed)
  have c__law_draw_r := d__law_draw.cal (P := l.prog) (w := w) (base := base) (ok_draw B d__law_draw c__law_mixed)
  have c__law_letters := d__law_letters.cal (P := l.prog) (w := w) (base := base) (lettersD (C := 0) (ok_letters B d__law_letters c__law_draw_r))
  have c__law_draw := d__law_draw.cal (P := l.prog) (w := w) (base := base) (drawD (C := 0) (ok_draw B d__law_draw c__law_mixed))
  have c__law_one_of := d__law_one_of.cal (P := l.prog) (w := w) (base := base) (oneD (C := 0) (ok_one_of B d__law_one_of c__law_draw_r))
  have c__law_text := d__law_text.cal (P := l.prog) (w := w) (base := base) (okd_ltx (C := 0) B c__law_draw c__law_one_of d__law_text)
  have c__law_edit := d__law_edit.cal (P := l.prog) (w := w) (base := base) (okd_led (C := 0) B c__law_draw c__law_text d__law_edit)
  have c_is_made_of := d_is_made_of.cal (P := l.prog) (w := w) (base := base) (okd_made (C := 0) B d_is_made_of)
  have c_is_text := d_is_text.cal (P := l.prog) (w := w) (base := base) (okd_text (C := 0) (PySem.W.mg_of X G lt) c_is_made_of d_is_text)
  have c_check_text := d_check_text.cal (P := l.prog) (w := w) (base := base) (okd_ctext (C := 0) c_is_text d_check_text)
  have c_is_whole_number := d_is_whole_number.cal (P := l.prog) (w := w) (base := base) (okd_whole (C := 0) B d_is_whole_number)
  have c_is_count := d_is_count.cal (P := l.prog) (w := w) (base := base) (okd_count (C := 0) c_is_whole_number d_is_count)
  have c_is_edit_of := d_is_edit_of.cal (P := l.prog) (w := w) (base := base) (okd_ieo (C := 0) B c_is_count c_is_text d_is_edit_of)
  have c__check_edit := d__check_edit.cal (P := l.prog) (w := w) (base := base) (okd_ced (C := 0) c_check_text c_is_edit_of d__check_edit)
  have c_text_edited := d_text_edited.cal (P := l.prog) (w := w) (base := base) (okd_ted (C := 0) B d_text_edited)
  have c_edited := d_edited.cal (P := l.prog) (w := w) (base := base) (okd_edd (C := 0) c__check_edit c_text_edited d_edited)
  have c_edit_back := d_edit_back.cal (P := l.prog) (w := w) (base := base) (okd_ebk (C := 0) B c__check_edit d_edit_back)
  have c__law_changed := d__law_changed.cal (P := l.prog) (w := w) (base := base) (okd_lch (C := 0) B d__law_changed)
  have c__alike_ahead := d__alike_ahead.cal (P := l.prog) (w := w) (base := base) (okd_ala (C := 0) B d__alike_ahead)
  have c_edit_between := d_edit_between.cal (P := l.prog) (w := w) (base := base) (okd_ebt (C := 0) B c_check_text c__alike_ahead d_edit_between)
  have c__law_like := d__law_like.cal (P := l.prog) (w := w) (base := base) (okd_llk (C := 0) B d__law_like)
  have c__law_between := d__law_between.cal (P := l.prog) (w := w) (base := base) (okd_lbt (C := 0) B c__law_like d__law_between)
  exact okd_law (C := 0) B ⟨_, _, F1, b1, PySem.W.mg_of X G a1, ⟨_, _, _, _, _, _, rfl⟩⟩ c__law_dices c__law_letters c__law_draw c__law_text c__law_edit c_edited c_edit_back c_exact3 c__law_changed c_edit_between c__law_between
end K4
open PySem PySem.W PyProof.Rows
set_option maxRecDepth 100000 in
set_option maxHeartbeats 0 in
theorem PySem.Challenge.cw_owncuts_k44_whole_edits_made_holds : PySem.Challenge.rw_owncuts_k44_whole_edits_made.Holds := by
  w_on; o_law; k_head; (case hw => w_witness2)
  k_fill
  refine L2.walk_of (l := PySem.Challenge.rw_owncuts_k44_whole_edits_made) (n := 63) (k := 6) (x := "script") (CX := fun _ => L2.CX0) (sp := fun w => K4.spLaw _) rfl (by decide) rfl ⟨rfl, by decide, by decide⟩ (fun w h Y => PySem.W.kIn_of Y) ?F (fun _ _ a ns hl _ hS => ⟨a, ns, rfl, hS, hl, fun _ => rfl⟩) (fun _ _ _ _ _ h => h)
  case F =>
    intro w mg fa h KX G hmg
    have z_len : mg "len" = none := PySem.W.mg_none_of KX G (by k_is)
    have z_range : mg "range" = none := PySem.W.mg_none_of KX G (by k_is)
    have z_sum : mg "sum" = none := PySem.W.mg_none_of KX G (by k_is)
    have z_max : mg "max" = none := PySem.W.mg_none_of KX G (by k_is)
    have z_min : mg "min" = none := PySem.W.mg_none_of KX G (by k_is)
    have z_int : mg "int" = none := PySem.W.mg_none_of KX G (by k_is)
    have z_isinstance : mg "isinstance" = none := PySem.W.mg_none_of KX G (by k_is)
    have z_list : mg "list" = none := PySem.W.mg_none_of KX G (by k_is)
    have z_any : mg "any" = none := PySem.W.mg_none_of KX G (by k_is)
    have z_all : mg "all" = none := PySem.W.mg_none_of KX G (by k_is)
    have z_zip : mg "zip" = none := PySem.W.mg_none_of KX G (by k_is)
    have z_bool : mg "bool" = none := PySem.W.mg_none_of KX G (by k_is)
    have z_str : mg "str" = none := PySem.W.mg_none_of KX G (by k_is)
    have z_tuple : mg "tuple" = none := PySem.W.mg_none_of KX G (by k_is)
    have z_dict : mg "dict" = none := PySem.W.mg_none_of KX G (by k_is)
    have z_sorted : mg "sorted" = none := PySem.W.mg_none_of KX G (by k_is)
    have z_set : mg "set" = none := PySem.W.mg_none_of KX G (by k_is)
    have z_repr : mg "repr" = none := PySem.W.mg_none_of KX G (by k_is)
    have z_abs : mg "abs" = none := PySem.W.mg_none_of KX G (by k_is)
    have z_enumerate : mg "enumerate" = none := PySem.W.mg_none_of KX G (by k_is)
    have d__law_dice := K4.df_mk (x := "_law_dice") (st := K4.st__law_dice) (ps := ["script", "at"]) KX G (by k_is) (by k_is) (by k_is) (by k_is) (fun _ _ _ _ _ _ us hl => match us, hl with | [_, _], _ => rfl)
    have d__law_dices := K4.df_mk (x := "_law_dices") (st := K4.st__law_dices) (ps := ["script", "few"]) KX G (by k_is) (by k_is) (by k_is) (by k_is) (fun _ _ _ _ _ _ us hl => match us, hl with | [_, _], _ => rfl)
    have d__law_mixed := K4.df_mk (x := "_law_mixed") (st := K4.st__law_mixed) (ps := ["seed", "spin", "at"]) KX G (by k_is) (by k_is) (by k_is) (by k_is) (fun _ _ _ _ _ _ us hl => match us, hl with | [_, _, _], _ => rfl)
    have d__law_draw := K4.df_mk (x := "_law_draw") (st := K4.st__law_draw) (ps := ["dice", "many"]) KX G (by k_is) (by k_is) (by k_is) (by k_is) (fun _ _ _ _ _ _ us hl => match us, hl with | [_, _], _ => rfl)
    have d__law_letters := K4.df_mk (x := "_law_letters") (st := K4.st__law_letters) (ps := ["dice", "many"]) KX G (by k_is) (by k_is) (by k_is) (by k_is) (fun _ _ _ _ _ _ us hl => match us, hl with | [_, _], _ => rfl)
    have d__law_one_of := K4.df_mk (x := "_law_one_of") (st := K4.st__law_one_of) (ps := ["dice", "some"]) KX G (by k_is) (by k_is) (by k_is) (by k_is) (fun _ _ _ _ _ _ us hl => match us, hl with | [_, _], _ => rfl)
    have d__law_text := K4.df_mk (x := "_law_text") (st := K4.st__law_text) (ps := ["dice", "ground", "most"]) KX G (by k_is) (by k_is) (by k_is) (by k_is) (fun _ _ _ _ _ _ us hl => match us, hl with | [_, _, _], _ => rfl)
    have d__law_edit := K4.df_mk (x := "_law_edit") (st := K4.st__law_edit) (ps := ["dice", "ground", "text"]) KX G (by k_is) (by k_is) (by k_is) (by k_is) (fun _ _ _ _ _ _ us hl => match us, hl with | [_, _, _], _ => rfl)
    have d_is_made_of := K4.df_mk (x := "is_made_of") (st := K4.st_is_made_of) (ps := ["value", "signs"]) KX G (by k_is) (by k_is) (by k_is) (by k_is) (fun _ _ _ _ _ _ us hl => match us, hl with | [_, _], _ => rfl)
    have d_is_text := K4.df_mk (x := "is_text") (st := K4.st_is_text) (ps := ["value"]) KX G (by k_is) (by k_is) (by k_is) (by k_is) (fun _ _ _ _ _ _ us hl => match us, hl with | [_], _ => rfl)
    have d_check_text := K4.df_mk (x := "check_text") (st := K4.st_check_text) (ps := ["value"]) KX G (by k_is) (by k_is) (by k_is) (by k_is) (fun _ _ _ _ _ _ us hl => match us, hl with | [_], _ => rfl)
    have d_is_whole_number := K4.df_mk (x := "is_whole_number") (st := K4.st_is_whole_number) (ps := ["value"]) KX G (by k_is) (by k_is) (by k_is) (by k_is) (fun _ _ _ _ _ _ us hl => match us, hl with | [_], _ => rfl)
    have d_is_count := K4.df_mk (x := "is_count") (st := K4.st_is_count) (ps := ["value"]) KX G (by k_is) (by k_is) (by k_is) (by k_is) (fun _ _ _ _ _ _ us hl => match us, hl with | [_], _ => rfl)
    have d_is_edit_of := K4.df_mk (x := "is_edit_of") (st := K4.st_is_edit_of) (ps := ["text", "value"]) KX G (by k_is) (by k_is) (by k_is) (by k_is) (fun _ _ _ _ _ _ us hl => match us, hl with | [_, _], _ => rfl)
    have d__check_edit := K4.df_mk (x := "_check_edit") (st := K4.st__check_edit) (ps := ["text", "edit"]) KX G (by k_is) (by k_is) (by k_is) (by k_is) (fun _ _ _ _ _ _ us hl => match us, hl with | [_, _], _ => rfl)
    have d_text_edited := K4.df_mk (x := "text_edited") (st := K4.st_text_edited) (ps := ["text", "edit"]) KX G (by k_is) (by k_is) (by k_is) (by k_is) (fun _ _ _ _ _ _ us hl => match us, hl with | [_, _], _ => rfl)
    have d_edited := K4.df_mk (x := "edited") (st := K4.st_edited) (ps := ["text", "edit"]) KX G (by k_is) (by k_is) (by k_is) (by k_is) (fun _ _ _ _ _ _ us hl => match us, hl with | [_, _], _ => rfl)
    have d_edit_back := K4.df_mk (x := "edit_back") (st := K4.st_edit_back) (ps := ["text", "edit"]) KX G (by k_is) (by k_is) (by k_is) (by k_is) (fun _ _ _ _ _ _ us hl => match us, hl with | [_, _], _ => rfl)
    have d__law_changed := K4.df_mk (x := "_law_changed") (st := K4.st__law_changed) (ps := ["text", "edit"]) KX G (by k_is) (by k_is) (by k_is) (by k_is) (fun _ _ _ _ _ _ us hl => match us, hl with | [_, _], _ => rfl)
    have d__alike_ahead := K4.df_mk (x := "_alike_ahead") (st := K4.st__alike_ahead) (ps := ["one", "other"]) KX G (by k_is) (by k_is) (by k_is) (by k_is) (fun _ _ _ _ _ _ us hl => match us, hl with | [_, _], _ => rfl)
    have d_edit_between := K4.df_mk (x := "edit_between") (st := K4.st_edit_between) (ps := ["text", "late"]) KX G (by k_is) (by k_is) (by k_is) (by k_is) (fun _ _ _ _ _ _ us hl => match us, hl with | [_, _], _ => rfl)
    have d__law_like := K4.df_mk (x := "_law_like") (st := K4.st__law_like) (ps := ["text", "late"]) KX G (by k_is) (by k_is) (by k_is) (by k_is) (fun _ _ _ _ _ _ us hl => match us, hl with | [_, _], _ => rfl)
    have d__law_between := K4.df_mk (x := "_law_between") (st := K4.st__law_between) (ps := ["text", "late"]) KX G (by k_is) (by k_is) (by k_is) (by k_is) (fun _ _ _ _ _ _ us hl => match us, hl with | [_, _], _ => rfl)
    have d__law_exact := K4.df_mk (x := "_law_exact") (st := K4.st__law_exact) (ps := ["mine", "theirs"]) KX G (by k_is) (by k_is) (by k_is) (by k_is) (fun _ _ _ _ _ _ us hl => match us, hl with | [_, _], _ => rfl)
    refine' K4.all_mk KX G hmg ?a1 ?l1 ?c1 ?k1 ⟨z_len, z_range, z_sum, z_max, z_min, z_int, z_isinstance, z_list, z_any, z_all, z_zip, z_bool, z_str, z_tuple, z_dict, z_sorted, z_set, z_repr, z_abs, z_enumerate⟩ ?lt d__law_dice d__law_dices d__law_mixed d__law_draw d__law_letters d__law_one_of d__law_text d__law_edit d_is_made_of d_is_text d_check_text d_is_whole_number d_is_count d_is_edit_of d__check_edit d_text_edited d_edited d_edit_back d__law_changed d__alike_ahead d_edit_between d__law_like d__law_between d__law_exact
    (case a1 => k_is); (case l1 => k_is); (case c1 => k_is); (case k1 => k_is); (case lt => k_is)
