import PyProof.Rows.All
import Wide.All
import OpenK.AllK
import Wide.FinOn
import HandS.ForMost
import HandS.Wide
import HandS.WideBits
import HandS.IsInst
import HandS.StrMore
import HandS.Zip
import HandS.Flow
import HandS.Conv
import HandS.Style
import HandS.Set
import HandS.Walk
import HandS.SetFor
import KE.DataMinMax
import PyProof.DictUpdate
import PySem.Challenge.RW_owncuts_k07_whole_windows_and_own_ones
set_option Elab.async false
set_option linter.all false
set_option maxRecDepth 100000
set_option maxHeartbeats 8000000
/-! sets of texts of one sign: made of a text, sorted -/
namespace K4S
open PySem PySem.Spec PyProof.Rows L2
/-- the set at a holds, in the order of its table, what is told by the values vs in some order; vs stand for unlike texts -/
def Holds (P : Program) (w : World) (h : Heap) (a : Addr) (vs : List Value) : Prop :=
  ∃ (o : Obj) (es : Array (Int × Value)) (ep : Nat) (t : SetTable), h.get? a = some o ∧ o.ExactSet ∧ o.data = .set es ep t ∧ ElemsOf (strKind P w) es.toList ∧ (es.toList.map (·.2)).Perm vs ∧
    es.size < scanBound ∧ t.fits es.size = true ∧ Ris t.place.toList ∧ (w.params.followText "set-order" = true ∨ t.led = true)
section
variable {P : Program} {w : World} {h h' : Heap} {a : Addr} {vs : List Value}
theorem Holds.keep (R : Holds P w h a vs) (k : ∀ o, h.get? a = some o → h'.get? a = some o) : Holds P w h' a vs := by
  obtain ⟨o, es, ep, t, ho, rest⟩ := R
  exact ⟨o, es, ep, t, k o ho, rest⟩
theorem Holds.count (R : Holds P w h a vs) : vs.length < scanBound := by
  obtain ⟨o, es, ep, t, _, _, _, _, pm, hb, _⟩ := R
  have := pm.length_eq
  rw [List.length_map, Array.length_toList] at this
  omega
theorem Holds.empty (w : World) (ho : h.get? a = some { cls := .type "set", dict := none, data := .set #[] 0 (.fresh 0 0 (!w.params.followText "set-order")) }) : Holds P w h a [] := by
  refine ⟨_, #[], 0, _, ho, ⟨rfl, rfl, rfl⟩, rfl, ?_, ?_, by decide, by rfl, List.Pairwise.nil, ?_⟩
  · intro e he
    simp at he
  · exact List.Perm.nil
  · show _ ∨ (!w.params.followText "set-order") = true
    cases w.params.followText "set-order" with
    | true => exact .inl rfl
    | false => exact .inr rfl
end
section
variable {P : Program} {w : World} {A : Around} {E : Value → Shared → Prop} {s : Shared} {a : Addr} {vs : List Value}
/-- the new entry is stored; where the table is full by then, all are laid anew -/
theorem stored {give : Bool → Sem Unit} (hg : ∀ (b : Bool) (s1 : Shared) (Q1 : Unit → Shared → Prop), Q1 () s1 → wpAny (model P w) A (give b) Q1 E s1)
    {o : Obj} {es es1 : Array (Int × Value)} {ep : Nat} {t t1 : SetTable} (ho : s.heap.get? a = some o) (hx : o.ExactSet) (hd : o.data = .set es ep t) (hel : ElemsOf (strKind P w) es1.toList) (pm : (es1.toList.map (·.2)).Perm vs)
    (hb : es1.size < scanBound) (hf : t1.fits es1.size = true) (hr : Ris t1.place.toList) (hl : w.params.followText "set-order" = true ∨ t1.led = true) {dm : Bool} {R : Option Bool → Shared → Prop}
    (hR : ∀ h2, Heap.SameBut a s.heap h2 → Holds P w h2 a vs → R (some true) { s with heap := h2 }) :
    wpAny (model P w) A (do
        storeSet a es1 t1
        if (!dm && t1.tooFull) = true then do
            give (relayAll t1 es1 (SetTable.grown es1.size)).2.2
            storeSet a (relayAll t1 es1 (SetTable.grown es1.size)).1 (relayAll t1 es1 (SetTable.grown es1.size)).2.1
            pure (some true)
          else pure (some true)) R E s := by
  have first := store_at (es' := es1) (t' := t1) ho hd
  have same1 := Heap.SameBut.update s.heap a (Obj.putSet es1 t1)
  refine wpAny_bind (wpAny_storeSet_of ho hd ?_ (fits_of_scanBound hb))
  split
  case isFalse => exact wpAny_pure (hR _ same1 ⟨_, es1, _, t1, first, hx, rfl, hel, pm, hb, hf, hr, hl⟩)
  case isTrue =>
    have q1 := relayAll_perm t1 es1 (SetTable.grown es1.size)
    have q2 := relayAll_fits t1 es1 (SetTable.grown es1.size)
    have q3 := relayAll_ris t1 es1 (SetTable.grown es1.size)
    have q4 := relayAll_led t1 es1 (SetTable.grown es1.size)
    generalize relayAll t1 es1 (SetTable.grown es1.size) = all at q1 q2 q3 q4 ⊢
    obtain ⟨es2, t2, gave⟩ := all
    dsimp only at q1 q2 q3 q4 ⊢
    have size2 : es2.size = es1.size := by
      have := q1.length_eq
      rw [Array.length_toList, Array.length_toList] at this
      exact this
    refine wpAny_bind (hg _ _ _ ?_)
    refine wpAny_bind (wpAny_storeSet_of first rfl ?_ (fits_of_scanBound (by rw [size2]; exact hb)))
    have second := store_at (es' := es2) (t' := t2) first rfl
    refine wpAny_pure (hR _ (same1.trans (Heap.SameBut.update _ a _)) ⟨_, es2, _, t2, second, hx, rfl, fun e he => hel e (q1.mem_iff.mp he), (q1.map _).trans pm, by rw [size2]; exact hb, q2, q3, ?_⟩)
    rcases hl with hl | hl
    · exact .inl hl
    · exact .inr (by rw [q4]; exact hl)
/-- a text that is not there is added -/
theorem added {x : Str} {tk : Tok} {Q : Bool → Shared → Prop} (R : Holds P w s.heap a vs) (new : ∀ v ∈ vs, (strKind P w).is x v = false) (room : vs.length + 1 < scanBound)
    (hQ : ∀ h2, Heap.SameBut a s.heap h2 → Holds P w h2 a (.str x tk :: vs) → Q true { s with heap := h2 }) :
    wpAny (model P w) A (setAddHashed a (.str x tk) ((strKind P w).hash x)) Q E s := by
  obtain ⟨o, es, ep, t, ho, hx, hd, hel, pm, hb, hf, hr, hl⟩ := R
  have isx : (strKind P w).is x (.str x tk) = true := strKind_is P w x tk
  have scan : (Value.str x tk).scannable = true := rfl
  have size1 : es.size = vs.length := by
    have := pm.length_eq
    rw [List.length_map, Array.length_toList] at this
    exact this
  have miss : List.findIdx? (fun e => (strKind P w).is x e.2) es.toList = none := by
    rw [List.findIdx?_eq_none_iff]
    intro e he
    exact new e.2 (pm.mem_iff.mp (List.mem_map.mpr ⟨e, he, rfl⟩))
  unfold setAddHashed setAddHashedIn
  refine wpAny_holding (wpAny_bind (wpAny_setState_of ho hd hf ?_))
  dsimp only
  rw [byScan_of scan hb hel]
  simp only [↓reduceIte]
  unfold setAddByScan
  refine wpAny_bind (wpAny_bind (wpAny_rule ?_))
  refine wpAny_bind (wpAny_setScan_of isx ho hd hf hel ?_)
  rw [miss]
  dsimp only
  have gaveWay : ∀ (b : Bool) {s1 : Shared} {Q1 : Unit → Shared → Prop}, Q1 () s1 → wpAny (model P w) A (match b with | true => rule "set.scan.the-table-gave-way" | false => pure ()) Q1 E s1 := fun b s1 Q1 q => by
    cases b
    · exact wpAny_pure q
    · exact wpAny_rule q
  have l1 := layNew_perm t es ((strKind P w).hash x) (.str x tk)
  have l2 := layNew_fits t es ((strKind P w).hash x) (.str x tk)
  have l3 := layNew_ris t es ((strKind P w).hash x) (.str x tk) hr
  have l4 := layNew_led t es ((strKind P w).hash x) (.str x tk)
  generalize layNew t es ((strKind P w).hash x) (.str x tk) = laid at l1 l2 l3 l4 ⊢
  obtain ⟨es1, t1, dm, gave⟩ := laid
  dsimp only at l1 l2 l3 l4 ⊢
  rw [Array.toList_push] at l1
  have p1 : es1.toList.Perm (((strKind P w).hash x, Value.str x tk) :: es.toList) := l1.trans (List.perm_append_singleton _ _)
  have p2 : (es1.toList.map (·.2)).Perm (.str x tk :: vs) := (p1.map _).trans (List.Perm.cons _ pm)
  have hel1 : ElemsOf (strKind P w) es1.toList := fun e he => by
    rcases List.mem_cons.mp (p1.mem_iff.mp he) with z | z
    · rw [z]
      exact ⟨⟨x, isx, rfl⟩, scan⟩
    · exact hel e z
  have size2 : es1.size = vs.length + 1 := by
    have := p1.length_eq
    rw [Array.length_toList, List.length_cons, Array.length_toList] at this
    omega
  have hb1 : es1.size < scanBound := by rw [size2]; exact room
  have hl1 : w.params.followText "set-order" = true ∨ t1.led = true := by
    rcases hl with hl | hl
    · exact .inl hl
    · exact .inr (by rw [l4]; exact hl)
  refine wpAny_bind (gaveWay _ ?_)
  split
  · refine wpAny_bind ?_
    rw [hashByValue_scannable 8 scan]
    refine wpAny_pure (stored ?_ ho hx hd hel1 p2 hb1 ?_ ?_ ?_ ?_)
    · intro b s1 Q1 q
      cases b
      · exact wpAny_pure q
      · exact wpAny_rule q
    · first
        | exact l2
        | (split <;> first | exact l2 | exact SetTable.fits_plain_off l2)
    · first
        | exact l3
        | (split <;> exact l3)
    · first
        | exact hl1
        | (split <;> exact hl1)
    · intro h2 sb r
      dsimp only
      exact wpAny_pure (hQ h2 sb r)
  · refine wpAny_bind (wpAny_pure ?_)
    simp only [↓reduceIte]
    refine stored ?_ ho hx hd hel1 p2 hb1 l2 l3 hl1 ?_
    · intro b s1 Q1 q
      cases b
      · exact wpAny_pure q
      · exact wpAny_rule q
    · intro h2 sb r
      dsimp only
      exact wpAny_pure (hQ h2 sb r)
end
end K4S
set_option Elab.async false
set_option linter.all false
set_option maxRecDepth 100000
set_option maxHeartbeats 8000000
namespace K4S
open PySem PySem.Spec PyProof.Rows L2
def textOf : Value → Str
  | .str x _ => x
  | _ => Str.empty
/-- the values are just these texts, in some order -/
def Tell (vs : List Value) (xs : List Str) : Prop := (∀ v ∈ vs, ∃ (x : Str) (t : Tok), v = .str x t) ∧ (vs.map textOf).Perm xs
theorem Tell.nil : Tell [] [] := ⟨(fun v h => by cases h), List.Perm.nil⟩
theorem Tell.add {vs : List Value} {xs : List Str} {x : Str} {t : Tok} (h : Tell vs xs) : Tell (.str x t :: vs) (xs ++ [x]) := by
  refine ⟨fun v hv => ?_, ?_⟩
  · rcases List.mem_cons.mp hv with rfl | hv
    · exact ⟨x, t, rfl⟩
    · exact h.1 v hv
  · show (x :: vs.map textOf).Perm (xs ++ [x])
    exact (List.Perm.cons x h.2).trans (List.perm_append_singleton x xs).symm
theorem Tell.new {P : Program} {w : World} {vs : List Value} {xs : List Str} {x : Str} (h : Tell vs xs) (hx : ¬ x ∈ xs) : ∀ v ∈ vs, (strKind P w).is x v = false := fun v hv => by
  obtain ⟨y, t, rfl⟩ := h.1 v hv
  cases e : (strKind P w).is x (.str y t) with
  | false => rfl
  | true =>
    exfalso
    have e2 : (strKind P w).is y (.str y t) = true := strKind_is P w y t
    have : x = y := (strKind P w).inj _ _ _ e e2
    subst this
    exact hx (h.2.mem_iff.mp (List.mem_map.mpr ⟨_, hv, rfl⟩))
section
variable {P : Program} {w : World} {A : Around} {E : Value → Shared → Prop} {s : Shared}
/-- the loop that fills a new set from unlike texts -/
theorem filled {I : Addr} {fp wr : List Addr} {G : Array GenState → Array GenState → Prop} {n : Nat} {Pv : Nat → Value → Prop} {St : Nat → Shared → Prop} {R : Result → Shared → Prop}
    (W : WalksS P w A.in1 I fp wr G n Pv St) (a : Addr) (ha : a ∉ fp) (xs : List Str) (hn : n = xs.length) (nd : xs.Nodup) (hb : xs.length + 1 < scanBound) (hval : ∀ i v, Pv i v → ∃ x t, xs[i]? = some x ∧ v = .str x t) :
    ∀ (k i : Nat) (s : Shared), n - i = k → i ≤ n → St i s → (∃ vs, Holds P w s.heap a vs ∧ Tell vs (xs.take i)) →
      (∀ s' vs, Moved (a :: wr) G s s' → Holds P w s'.heap a vs → Tell vs xs → R (.ok (.ret .none)) s') →
      codeAny (model P w) A (.builtin "set.update.loop" ⟨[.ref a, .ref I], []⟩) R s := by
  have haw : a ∉ wr := fun z => ha (W.sub _ z)
  have more : ∀ b ∈ wr, b ∈ a :: wr := fun b z => List.mem_cons_of_mem _ z
  intro k
  induction k with
  | zero =>
    rintro i s ek hi hst ⟨vs, hH, hT⟩ hR
    obtain rfl : i = n := by omega
    refine codeAny_builtin F.entry_set_update_loop ?_
    rw [Around.under_plainId F.plain_set_update_loop _]
    show wpAny _ A.in1 (pyNext (.ref I) >>= _) _ _ s
    refine wpAny_bind (W.done s _ _ hst fun s' hm => ?_)
    show wpAny _ A.in1 (ret Value.none) _ _ s'
    rw [List.take_of_length_le (by omega)] at hT
    exact wpAny_pure (hR s' vs (hm.mono more) (hH.keep fun o e => hm.heap a o haw e) hT)
  | succ k ih =>
    rintro i s ek hi hst ⟨vs, hH, hT⟩ hR
    have hlt : i < n := by omega
    refine codeAny_builtin F.entry_set_update_loop ?_
    rw [Around.under_plainId F.plain_set_update_loop _]
    show wpAny _ A.in1 (pyNext (.ref I) >>= _) _ _ s
    refine wpAny_bind (W.item i s _ _ hlt hst fun v s' hP hst' hm => ?_)
    obtain ⟨x, t, hx, rfl⟩ := hval i v hP
    have hH' : Holds P w s'.heap a vs := hH.keep fun o e => hm.heap a o haw e
    have hxn : ¬ x ∈ xs.take i := fun z => by
      obtain ⟨j, hj, e⟩ := List.mem_iff_getElem.mp z
      rw [List.length_take] at hj
      rw [List.getElem_take] at e
      have h1 : xs[j]? = xs[i]? := by rw [hx, List.getElem?_eq_getElem (by omega), e]
      have := (List.getElem?_inj (by omega) nd).mp h1
      omega
    have vl : vs.length ≤ i := by
      have := hT.2.length_eq
      rw [List.length_map, List.length_take] at this
      omega
    show wpAny _ A.in1 (holding [Value.str x t] (setAdd a (.str x t)) >>= _) _ _ s'
    refine wpAny_bind (wpAny_holding ?_)
    unfold setAdd
    refine wpAny_holding (wpAny_bind ((strKind P w).pyHash (k := x) (strKind_is _ _ _ _) ?_))
    refine added (s := { s' with toks := s'.toks + 1 }) hH' (hT.new hxn) (by omega) fun h2 sb hH2 => ?_
    have hT2 : Tell (.str x t :: vs) (xs.take (i + 1)) := by
      rw [List.take_add_one, hx]
      exact hT.add
    refine wpAny_pure ⟨plainId_quiet F.plain_set_update_loop _, ih (i + 1) _ (by omega) hlt (W.frame _ s' _ _ hst' (Nat.le_succ _) fun b hb o e => ?_) ⟨_, hH2, hT2⟩ fun s3 vs3 m3 hH3 hT3 => ?_⟩
    · rw [sb.2 b (fun z : b = a => ha (z ▸ hb))]
      exact e
    · refine hR s3 vs3 (Moved.trans W.gtrans ((hm.mono more).then_heap (Nat.le_succ _) fun b o hb e => ?_) m3) hH3 hT3
      rw [sb.2 b (fun z : b = a => hb (z ▸ List.mem_cons_self))]
      exact e
/-- set(text), of a text of unlike signs -/
theorem set_of_text {x : Str} {t : Tok} {Q : Value → Shared → Prop} (hh : A.handled = none) (nd : (x.cps.toList.map fun c => (⟨#[c]⟩ : Str)).Nodup) (hb : x.cps.size + 1 < scanBound)
    (hQ : ∀ (h2 : Heap) (tk : Nat) (vs : List Value), Holds P w h2 s.heap.objs.size vs → Tell vs (x.cps.toList.map fun c => (⟨#[c]⟩ : Str)) → (∀ b o, s.heap.get? b = some o → h2.get? b = some o) → Q (.ref s.heap.objs.size) { s with heap := h2, toks := tk }) :
    wpAny (model P w) A (call (.type "set") [.str x t]) Q E s := by
  obtain ⟨c, tl, hmro⟩ := F.called_set.mro
  have hmade := F.called_set.made
  have hsub := F.called_set.sub
  refine wpAny_call (codeAny_of_tree ?_)
  show wpAny _ _ (callAny (.type "set") _) _ _ _
  refine wpAny_pure ⟨Code.quiet_builtin _ (by decide +kernel), codeAny_builtin F.entry_type_call ?_⟩
  rw [Around.under_plain (weight_type_call_type "set" [.str x t] []) rfl]
  have n1 := F.called_set.notType
  have n2 := F.called_set.canCreate
  have n3 := F.typeCall_set_1 (.str x t)
  repeat (any_goals (first | assumption | wp_step))
  refine codeAny_mono (code_set_led1 (.str x t) (E := E) (Q₁ := fun obj s1 => obj = .ref s.heap.objs.size ∧ s1 = { s with heap := s.heap.push { cls := .type "set", dict := none, data := .set #[] 0 (.fresh 0 0 (!w.params.followText "set-order")) } }) ⟨rfl, rfl⟩) fun r s1 hr => ?_
  cases r with
  | error e => exact hr
  | ok fl =>
    cases fl with
    | ret obj =>
      obtain ⟨rfl, rfl⟩ := hr
      have hS : (s.heap.push { cls := .type "set", dict := none, data := .set #[] 0 (.fresh 0 0 (!w.params.followText "set-order")) }).get? s.heap.objs.size = some { cls := .type "set", dict := none, data := .set #[] 0 (.fresh 0 0 (!w.params.followText "set-order")) } := Heap.get?_push_size _ rfl
      have hT : Shared.TypeIs { s with heap := s.heap.push { cls := .type "set", dict := none, data := .set #[] 0 (.fresh 0 0 (!w.params.followText "set-order")) } } (.ref s.heap.objs.size) "set" := ⟨_, hS, rfl⟩
      have n4 := F.called_set.init.lookup
      have n5 := F.called_set.init.bind (.ref s.heap.objs.size)
      repeat (any_goals (first | assumption | wp_step))
      refine codeAny_mono (codeAny_call_builtin (R := wants (fun r s2 => r = .none ∧ ∃ h2 tk vs, s2 = { s with heap := h2, toks := tk } ∧ Holds P w h2 s.heap.objs.size vs ∧ Tell vs (x.cps.toList.map fun c => (⟨#[c]⟩ : Str)) ∧
          (∀ b o, s.heap.get? b = some o → h2.get? b = some o)) E) F.called_set.init.plain F.entry_set_init (check_set_init_1 hT ?_)) fun r2 s2 hr2 => ?_
      · have n6 := F.sub_str_set
        have n7 := F.sub_str_frozenset
        have n8 : (Value.type "str" == Value.type "dict") = false := by decide
        unfold Builtin.«set.__init__» noKeywords Builtin.Frozenset.updateFrom
        generalize hPI : pyIter = PI
        wp_walk
        subst hPI
        refine wpAny_pyIter_str fun oi St W st0 => ?_
        refine wpAny_bind (wpAny_runValue ?_)
        have hh3 : A.in1.in1.in1.handled = none := by simp [hh]
        have hsz : (s.heap.push { cls := .type "set", dict := none, data := .set #[] 0 (.fresh 0 0 (!w.params.followText "set-order")) }).objs.size = s.heap.objs.size + 1 := Heap.size_push ..
        have hfp : s.heap.objs.size ∉ [(s.heap.push { cls := .type "set", dict := none, data := .set #[] 0 (.fresh 0 0 (!w.params.followText "set-order")) }).objs.size] := by
          rw [hsz, List.mem_singleton]
          omega
        have ln : x.cps.size = (x.cps.toList.map fun c => (⟨#[c]⟩ : Str)).length := by rw [List.length_map, Array.length_toList]
        refine filled ((W _ hh3).toS) s.heap.objs.size hfp (x.cps.toList.map fun c => (⟨#[c]⟩ : Str)) ln nd (by rw [← ln]; exact hb) (fun i v hv => ?_) (x.cps.size - 0) 0 _ rfl (Nat.zero_le _) st0 ⟨[], Holds.empty w (Heap.get?_push_of_some _ hS), ?_⟩ fun s3 vs hm hH hT3 => ?_
        · obtain ⟨c, u, e, rfl⟩ := hv
          exact ⟨⟨#[c]⟩, u, by rw [List.getElem?_map, Array.getElem?_toList, e]; rfl, rfl⟩
        · rw [List.take_zero]
          exact Tell.nil
        · obtain ⟨h3, g3, d3, tk3, os3⟩ := s3
          have eg : g3 = s.gens := hm.gens
          have ed : d3 = s.drawn := hm.drawn
          have eo : os3 = s.os := hm.os
          subst eg ed eo
          show wpAny _ _ _ _ _ _
          refine wpAny_pure ?_
          show wpAny _ _ (ret Value.none) _ _ _
          refine wpAny_pure ⟨rfl, h3, tk3, vs, rfl, hH, hT3, fun b o e => ?_⟩
          have hb0 : b < s.heap.objs.size := Heap.lt_size e
          refine hm.heap b o ?_ (Heap.get?_push_of_some _ (Heap.get?_push_of_some _ e))
          intro z
          rcases List.mem_cons.mp z with z | z
          · exact Nat.lt_irrefl _ (show s.heap.objs.size < s.heap.objs.size from z ▸ hb0)
          · rw [List.mem_singleton, hsz] at z
            exact Nat.lt_irrefl _ (Nat.lt_trans (show s.heap.objs.size + 1 < s.heap.objs.size from z ▸ hb0) (Nat.lt_succ_self _))
      · cases r2 with
        | error e => exact hr2
        | ok fl2 =>
          cases fl2 with
          | ret r =>
            obtain ⟨rfl, h2, tk, vs, rfl, g1, g2, g3⟩ := hr2
            repeat (any_goals (first | assumption | wp_step))
            exact hQ _ _ _ g1 g2 g3
          | _ => exact hr2.elim
    | _ => exact hr.elim
end
end K4S
set_option Elab.async false
set_option linter.all false
set_option maxRecDepth 100000
set_option maxHeartbeats 8000000
namespace K4S
open PySem PySem.Spec PyProof.Rows L2
/-- the signs of a text, a text each -/
def signsOf (x : Str) : List Str := x.cps.toList.map fun c => (⟨#[c]⟩ : Str)
/-- the set of texts at a (a thing of one's own) -/
def SetT (P : Program) (w : World) (a : Addr) (xs : List Str) : HO := .ext fun h => ∃ vs, Holds P w h a vs ∧ Tell vs xs
theorem setT_new {P : Program} {w : World} {H : Hp} {h : Heap} {a : Addr} {xs : List Str} {vs : List Value} (R : Holds P w h a vs) (T : Tell vs xs) : ObjOk P w H h a (SetT P w a xs) := by
  have ⟨o, _, _, _, ho, _⟩ := R
  exact ⟨⟨vs, R, T⟩, ⟨o, ho⟩, fun h1 h2 ⟨us, r, t⟩ k => ⟨us, r.keep k, t⟩⟩
theorem Tell.strs : ∀ {vs : List Value} {xs : List Str}, Tell vs xs → StrsAre vs (vs.map textOf)
  | [], _, _ => .nil
  | v :: vs, _, h => by
    obtain ⟨x, t, rfl⟩ := h.1 v List.mem_cons_self
    exact .cons x t (Tell.strs (xs := vs.map textOf) ⟨fun u hu => h.1 u (List.mem_cons_of_mem _ hu), List.Perm.refl _⟩)
section
variable {X : Cx}
/-- set(x), a text of unlike signs -/
def rSetX (P : Program) (w : World) : List V → Hp → VK → Prop := fun vs H Q => ∃ x : Str, vs = [V.str x] ∧ (signsOf x).Nodup ∧ x.cps.size + 1 < scanBound ∧ ∀ p, H p = none → Q (.ref p) (upd H p (SetT P w p (signsOf x)))
theorem cr_setX (hc : X.calm = true) : CallR X (.type "set") (rSetX X.prog X.w) := by
  intro pins s σ H vs us Q I r h
  obtain ⟨x, rfl, nd, hb, q⟩ := h
  cases r with
  | cons r1 rt =>
    cases rt
    obtain ⟨t, rfl⟩ := r1
    refine set_of_text (I.ok.hd hc) nd hb fun h2 tk vs2 hH hT hk => ?_
    exact ⟨.ref _, upd H s.heap.objs.size (SetT X.prog X.w s.heap.objs.size (signsOf x)), I.laid (t' := tk) (fun b u e => hk b u e) (Nat.le_refl _) (setT_new hH hT), rfl, q _ (I.hok.fresh (Nat.le_refl _))⟩
/-- sorted(set of texts) -/
def rSortedT (P : Program) (w : World) : List V → Hp → VK → Prop := fun vs H Q => ∃ (a : Addr) (xs : List Str), vs = [V.ref a] ∧ H a = some (SetT P w a xs) ∧ xs.length < 64 ∧
  ∀ (ys : List Str) (p : Addr), ys.Perm xs → sortedS ys = true → H p = none → Q (.ref p) (upd H p (.lst (ys.map V.str)))
theorem cr_sortedT (hc : X.calm = true) : CallR X (.builtin "sorted") (rSortedT X.prog X.w) := by
  intro pins s σ H vs us Q I r h
  obtain ⟨a, xs, rfl, ha, h64, q⟩ := h
  obtain ⟨ms, R, T⟩ := (I.hok a _ ha).1
  rw [Vals.ref1 r]
  have lm : ms.length = xs.length := by
    have := T.2.length_eq
    rw [List.length_map] at this
    exact this
  obtain ⟨o, es, ep, t, ho, hex, hd, hel, pm, hb, hf, hr, hl⟩ := R
  refine Calls.call_function_entry kind_sorted plain_sorted entry_sorted (args_sorted1 _) ?_
  unfold Builtin.«sorted»
  refine wpAny_bind (m := checkCount "sorted" 1 1 _) (wpAny_pure ?_)
  refine wpAny_bind (collect_set (A := X.A.in1) (I.ok.hd hc) ⟨o, ho, hex.1, hd⟩ hf hb hr hl fun s1 ws k1 hz g1 o1 pm2 => ?_)
  have pw : ws.Perm ms := pm2.trans pm
  have T2 : Tell ws xs := ⟨fun v hv => T.1 v (pw.mem_iff.mp hv), (pw.map textOf).trans T.2⟩
  have hS : StrsAre ws (ws.map textOf) := T2.strs
  have lw : ws.length = xs.length := by rw [pw.length_eq]; exact lm
  refine wpAny_bind (wpAny_newList ?_ (by rw [lw, sizeLine_eq]; omega))
  have hoL : (s1.heap.push (seqObj "list" ws.toArray 0)).get? s1.heap.objs.size = some (seqObj "list" ws.toArray 0) := Heap.get?_push_size _ rfl
  refine wpAny_bind (wpAny_holding (wpAny_call_entry slot_list_sort ⟨_, hoL, rfl⟩ entry_list_sort (list_sort_treeK strKind_oneLt hoL hS.keysOf (fun v₁ v₂ rest e => keyKind_strs (by rw [← e]; exact hS)) (by rw [lw]; exact h64) fun st' hp hs => ⟨_, rfl, ?_⟩) (args_list_sort _)))
  obtain ⟨ys, a1, a2, a3⟩ := sorted_out_str hS hp hs
  generalize (arrOf st').map (·.2) = out at a1
  obtain ⟨c, hc2⟩ := sortedHeap_at (vs := ws) (out := out) hoL
  have py : ys.Perm xs := a2.trans T2.2
  have hpn : H s1.heap.objs.size = none := I.hok.fresh hz
  have hlen : (ys.map V.str).length ≤ sizeLine := by rw [List.length_map, py.length_eq, sizeLine_eq]; omega
  have kk : ∀ b u, s.heap.get? b = some u → (sortedHeap (s1.heap.push (seqObj "list" ws.toArray 0)) s1.heap.objs.size ws out).get? b = some u := fun b u e => by
    have q := k1 b u e
    have hlt := Heap.lt_size q
    rw [sortedHeap_old (Nat.ne_of_lt hlt) (by rw [size_push']; exact Nat.lt_succ_of_lt hlt)]
    exact Heap.get?_push_of_some _ q
  refine wpAny_pure ⟨_, rfl, ?_⟩
  have J : Inv X pins σ (upd H s1.heap.objs.size (.lst (ys.map V.str))) { s with heap := sortedHeap (s1.heap.push (seqObj "list" ws.toArray 0)) s1.heap.objs.size ws out, gens := s1.gens, drawn := s1.drawn, toks := s1.toks } :=
    I.call (ch := []) (Un.laid kk hz hpn) (I.hok.laid kk hz ⟨hlen, out.toList, c, vals_of_strs a1, hc2⟩) (by rw [g1]; exact I.bare) (fun _ z => nomatch z)
  obtain ⟨h3, g3, d3, tk3, os3⟩ := s1
  obtain ⟨h0, g0, d0, tk0, os0⟩ := s
  dsimp only at o1 g1
  subst o1
  exact ⟨.ref _, _, J, rfl, q ys _ py a3 hpn⟩
end
end K4S
set_option Elab.async false
set_option maxRecDepth 100000
namespace K4M
/-! ### periods -/
def had (w : List Nat) (p : Nat) : Bool := (w.drop p).isPrefixOf w
def Per (w : List Nat) (p : Nat) : Prop := ∀ i, i + p < w.length → w[i]? = w[i + p]?
theorem prefix_get {u w : List Nat} : u.isPrefixOf w = true ↔ ∀ i, i < u.length → w[i]? = u[i]? := by
  rw [List.isPrefixOf_iff_prefix]
  constructor
  · rintro ⟨t, rfl⟩ i hi
    rw [List.getElem?_append_left hi]
  · intro h
    have hl : u.length ≤ w.length := by
      apply Nat.le_of_not_lt
      intro hlt
      have := h w.length hlt
      rw [List.getElem?_eq_none (Nat.le_refl _), List.getElem?_eq_getElem hlt] at this
      cases this
    have : w.take u.length = u := by
      apply List.ext_getElem?
      intro i
      by_cases hi : i < u.length
      · rw [List.getElem?_take_of_lt hi]
        exact h i hi
      · rw [List.getElem?_eq_none (by rw [List.length_take]; omega), List.getElem?_eq_none (by omega)]
    rw [← this]
    exact List.take_prefix _ _
theorem had_iff (w : List Nat) (p : Nat) : had w p = true ↔ Per w p := by
  unfold had
  rw [prefix_get]
  constructor
  · intro h i hi
    have := h i (by rw [List.length_drop]; omega)
    rw [List.getElem?_drop, Nat.add_comm p i] at this
    exact this
  · intro h i hi
    rw [List.length_drop] at hi
    rw [List.getElem?_drop, Nat.add_comm p i]
    exact h i (by omega)
/-- two periods, the greater less the lesser -/
theorem per_sub {w : List Nat} {p d : Nat} (hp : Per w p) (hd : Per w d) (hlt : p < d) (hn : p + d ≤ w.length) : Per w (d - p) := by
  intro i hi
  by_cases hip : p ≤ i
  · have h1 := hp (i - p) (by omega)
    have h2 := hd (i - p) (by omega)
    rw [show i - p + p = i by omega] at h1
    rw [show i - p + d = i + (d - p) by omega] at h2
    rw [← h1, h2]
  · have h1 := hd i (by omega)
    have h2 := hp (i + (d - p)) (by omega)
    rw [show i + (d - p) + p = i + d by omega] at h2
    rw [h1, h2]
theorem per_dvd {w : List Nat} {p : Nat} (h0 : 0 < p) (hp : Per w p) (hmin : ∀ q, 0 < q → q < p → ¬ Per w q) : ∀ (d : Nat), 0 < d → Per w d → p + d ≤ w.length → p ∣ d := by
  intro d
  induction d using Nat.strongRecOn with
  | _ d ih =>
    intro hd0 hd hn
    by_cases h1 : d < p
    · exact absurd hd (hmin d hd0 h1)
    by_cases h2 : d = p
    · subst h2
      exact Nat.dvd_refl _
    · have := ih (d - p) (by omega) (by omega) (per_sub hp hd (by omega) hn) (by omega)
      obtain ⟨k, hk⟩ := this
      exact ⟨k + 1, by rw [Nat.mul_add, Nat.mul_one]; omega⟩
/-! ### repeated words -/
def rep (u : List Nat) (k : Nat) : List Nat := (List.replicate k u).flatten
theorem rep_succ (u : List Nat) (k : Nat) : rep u (k + 1) = u ++ rep u k := by
  unfold rep
  rw [List.replicate_succ, List.flatten_cons]
theorem rep_len (u : List Nat) : ∀ k, (rep u k).length = k * u.length
  | 0 => by simp [rep]
  | k + 1 => by rw [rep_succ, List.length_append, rep_len u k, Nat.add_mul]; omega
theorem rep_per {u : List Nat} : ∀ k, Per (rep u k) u.length
  | 0 => fun i hi => by simp [rep] at hi
  | k + 1 => fun i hi => by
    rw [rep_succ] at hi ⊢
    rw [List.length_append] at hi
    by_cases h : i < u.length
    · rw [List.getElem?_append_left h, List.getElem?_append_right (by omega), show i + u.length - u.length = i by omega]
      cases k with
      | zero =>
        exfalso
        have : (rep u 0).length = 0 := by simp [rep]
        omega
      | succ k => rw [rep_succ, List.getElem?_append_left h]
    · rw [List.getElem?_append_right (by omega), List.getElem?_append_right (by omega)]
      have := rep_per (u := u) k (i - u.length) (by omega)
      rw [this, show i - u.length + u.length = i + u.length - u.length by omega]
theorem per_drop {w : List Nat} {s : Nat} (h : Per w s) (m : Nat) : Per (w.drop m) s := fun i hi => by
  rw [List.length_drop] at hi
  rw [List.getElem?_drop, List.getElem?_drop, show m + (i + s) = m + i + s by omega]
  exact h (m + i) (by omega)
theorem rep_of_per : ∀ (k : Nat) {w : List Nat} {s : Nat}, 0 < s → w.length = k * s → Per w s → rep (w.take s) k = w
  | 0, w, s, _, hl, _ => by
    have : w = [] := List.length_eq_zero_iff.mp (by omega)
    subst this
    simp [rep]
  | k + 1, w, s, h0, hl, hp => by
    rw [rep_succ]
    have hl' : w.length = k * s + s := by rw [hl, Nat.add_mul, Nat.one_mul]
    have hd : (w.drop s).length = k * s := by rw [List.length_drop]; omega
    have ih := rep_of_per k h0 hd (per_drop hp s)
    cases k with
    | zero =>
      have e : w.drop s = [] := List.length_eq_zero_iff.mp (by omega)
      rw [show rep (w.take s) 0 = [] by simp [rep], List.append_nil, List.take_of_length_le (by omega)]
    | succ k =>
      have e : (w.drop s).take s = w.take s := by
        apply List.ext_getElem?
        intro i
        by_cases hi : i < s
        · rw [List.getElem?_take_of_lt hi, List.getElem?_take_of_lt hi, List.getElem?_drop, Nat.add_comm s i]
          have : s ≤ (k + 1) * s := Nat.le_mul_of_pos_left s (by omega)
          exact (hp i (by omega)).symm
        · rw [List.getElem?_eq_none (by rw [List.length_take]; omega), List.getElem?_eq_none (by rw [List.length_take]; omega)]
      rw [e] at ih
      rw [ih, List.take_append_drop]
theorem rep_iff {w : List Nat} {s : Nat} (h0 : 0 < s) (hs : w.length % s = 0) (hle : s ≤ w.length) : rep (w.take s) (w.length / s) = w ↔ Per w s := by
  have hk : w.length = w.length / s * s := by
    have := Nat.div_add_mod w.length s
    rw [hs, Nat.add_zero, Nat.mul_comm] at this
    exact this.symm
  constructor
  · intro h
    have hl : (w.take s).length = s := by rw [List.length_take]; omega
    have := rep_per (u := w.take s) (w.length / s)
    rw [h, hl] at this
    exact this
  · exact rep_of_per _ h0 hk
/-! ### the least period, the root -/
def lpFrom (w : List Nat) (n i : Nat) : Nat → Nat
  | 0 => n
  | m + 1 => if had w i then i else lpFrom w n (i + 1) m
def lp (w : List Nat) : Nat := lpFrom w w.length 1 (w.length - 1)
theorem lpFrom_spec (w : List Nat) (n : Nat) : ∀ (m i : Nat), i + m = n → (∀ j, 0 < j → j < i → had w j = false) → (∀ j, 0 < j → j < lpFrom w n i m → had w j = false) ∧ i ≤ lpFrom w n i m ∧ lpFrom w n i m ≤ n ∧ (lpFrom w n i m < n → had w (lpFrom w n i m) = true)
  | 0, i, e, h => by
    unfold lpFrom
    have : i = n := by omega
    subst this
    exact ⟨h, Nat.le_refl _, Nat.le_refl _, fun z => absurd z (Nat.lt_irrefl _)⟩
  | m + 1, i, e, h => by
    unfold lpFrom
    by_cases hi : had w i = true
    · rw [if_pos hi]
      exact ⟨h, Nat.le_refl _, by omega, fun _ => hi⟩
    · rw [if_neg hi]
      have := lpFrom_spec w n m (i + 1) (by omega) fun j h0 hj => by
        by_cases e : j = i
        · subst e
          exact Bool.eq_false_iff.mpr hi
        · exact h j h0 (by omega)
      exact ⟨this.1, by omega, this.2.2⟩
theorem lp_spec (w : List Nat) (h : w ≠ []) : (∀ j, 0 < j → j < lp w → had w j = false) ∧ 1 ≤ lp w ∧ lp w ≤ w.length ∧ (lp w < w.length → had w (lp w) = true) := by
  have hl : 0 < w.length := List.length_pos_iff.mpr h
  exact lpFrom_spec w w.length (w.length - 1) 1 (by omega) fun j h0 hj => by omega
def rootP (w : List Nat) : List Nat × Nat := if w.length % lp w ≠ 0 then (w, 1) else (w.take (lp w), w.length / lp w)
def okSize (w : List Nat) (s : Nat) : Bool := w.length % s == 0 && rep (w.take s) (w.length / s) == w
def sizes (w : List Nat) : List Nat := (List.range' 1 w.length).filter (okSize w)
def rootL (w : List Nat) : List Nat × Nat := (w.take ((sizes w).headD 0), w.length / (sizes w).headD 0)
def isPrim (w : List Nat) : Bool := !(List.range' 1 (w.length - 1)).any (okSize w)
theorem headD_filter {f : Nat → Bool} {d : Nat} : ∀ (n a : Nat), a ≤ d → d < a + n → f d = true → (∀ j, a ≤ j → j < d → f j = false) → ((List.range' a n).filter f).headD 0 = d
  | 0, a, h1, h2, _, _ => by omega
  | n + 1, a, h1, h2, h3, h4 => by
    rw [List.range'_succ]
    by_cases e : a = d
    · subst e
      rw [List.filter_cons_of_pos h3]
      rfl
    · rw [List.filter_cons_of_neg (by rw [h4 a (Nat.le_refl _) (by omega)]; exact Bool.false_ne_true)]
      exact headD_filter n (a + 1) (by omega) (by omega) h3 fun j hj1 hj2 => h4 j (by omega) hj2
theorem okSize_iff {w : List Nat} {s : Nat} (h0 : 0 < s) (hle : s ≤ w.length) : okSize w s = true ↔ w.length % s = 0 ∧ Per w s := by
  unfold okSize
  rw [Bool.and_eq_true, beq_iff_eq, beq_iff_eq]
  constructor
  · rintro ⟨h1, h2⟩
    exact ⟨h1, (rep_iff h0 h1 hle).mp h2⟩
  · rintro ⟨h1, h2⟩
    exact ⟨h1, (rep_iff h0 h1 hle).mpr h2⟩
theorem per_all (w : List Nat) : Per w w.length := fun i hi => by omega
theorem sizes_head (w : List Nat) (h : w ≠ []) : (sizes w).headD 0 = if w.length % lp w ≠ 0 then w.length else lp w := by
  have hl : 0 < w.length := List.length_pos_iff.mpr h
  obtain ⟨a1, a2, a3, a4⟩ := lp_spec w h
  have hp : Per w (lp w) := by
    by_cases e : lp w < w.length
    · exact (had_iff _ _).mp (a4 e)
    · rw [show lp w = w.length by omega]
      exact per_all w
  have hmin : ∀ q, 0 < q → q < lp w → ¬ Per w q := fun q h0 hq hper => by
    have := a1 q h0 hq
    rw [(had_iff w q).mpr hper] at this
    cases this
  by_cases hm : w.length % lp w = 0
  · rw [if_neg (by omega)]
    refine headD_filter _ 1 a2 (by omega) ((okSize_iff a2 a3).mpr ⟨hm, hp⟩) fun j h1 h2 => ?_
    cases e : okSize w j with
    | false => rfl
    | true => exact absurd ((okSize_iff h1 (by omega)).mp e).2 (hmin j h1 h2)
  · rw [if_pos hm]
    refine headD_filter _ 1 hl (by omega) ((okSize_iff hl (Nat.le_refl _)).mpr ⟨Nat.mod_self _, per_all w⟩) fun j h1 h2 => ?_
    cases e : okSize w j with
    | false => rfl
    | true =>
      exfalso
      obtain ⟨e1, e2⟩ := (okSize_iff h1 (by omega)).mp e
      obtain ⟨k, hk⟩ := Nat.dvd_of_mod_eq_zero e1
      have hk2 : 2 ≤ k := by
        rcases k with _ | _ | k
        · omega
        · omega
        · omega
      have hj2 : j + j ≤ w.length := by
        have : j * 2 ≤ j * k := Nat.mul_le_mul_left j hk2
        omega
      have hpj : lp w ≤ j := by
        apply Nat.le_of_not_lt
        intro z
        exact hmin j h1 z e2
      have := per_dvd a2 hp hmin j h1 e2 (by omega)
      exact hm (Nat.mod_eq_zero_of_dvd (Nat.dvd_trans this ⟨k, hk⟩))
theorem root_eq (w : List Nat) (h : w ≠ []) : rootL w = rootP w := by
  have hl : 0 < w.length := List.length_pos_iff.mpr h
  unfold rootL rootP
  rw [sizes_head w h]
  by_cases hm : w.length % lp w ≠ 0
  · rw [if_pos hm, if_pos hm, List.take_length, Nat.div_self hl]
  · rw [if_neg hm, if_neg hm]
/-! ### how many primitive words -/
def divs (n i : Nat) : List Nat := (List.range' 1 i).filter (fun d => n % d == 0)
/-- the values at 1, 2, .. n -/
def allP (s : Int) : Nat → List Int
  | 0 => []
  | n + 1 => allP s n ++ [s ^ (n + 1) - ((divs (n + 1) n).map fun d => (allP s n).getD (d - 1) 0).sum]
def prims (s : Int) (n : Nat) : Int := (allP s n).getD (n - 1) 0
theorem allP_len (s : Int) : ∀ n, (allP s n).length = n
  | 0 => rfl
  | n + 1 => by
    show (allP s n ++ _).length = _
    rw [List.length_append, allP_len s n]
    rfl
theorem allP_get (s : Int) : ∀ (n d : Nat), 0 < d → d ≤ n → (allP s n).getD (d - 1) 0 = prims s d
  | 0, d, h1, h2 => by omega
  | n + 1, d, h1, h2 => by
    by_cases e : d = n + 1
    · subst e
      rfl
    · show (allP s n ++ _).getD (d - 1) 0 = _
      rw [List.getD_eq_getElem?_getD, List.getElem?_append_left (by rw [allP_len]; omega), ← List.getD_eq_getElem?_getD]
      exact allP_get s n d h1 (by omega)
theorem divs_mem {n i d : Nat} : d ∈ divs n i ↔ 0 < d ∧ d ≤ i ∧ n % d = 0 := by
  unfold divs
  rw [List.mem_filter, List.mem_range'_1, beq_iff_eq]
  constructor
  · rintro ⟨⟨h1, h2⟩, h3⟩
    exact ⟨h1, by omega, h3⟩
  · rintro ⟨h1, h2, h3⟩
    exact ⟨⟨h1, by omega⟩, h3⟩
theorem prims_eq (s : Int) (n : Nat) (h : 0 < n) : prims s n = s ^ n - ((divs n (n - 1)).map (prims s)).sum := by
  obtain ⟨m, rfl⟩ : ∃ m, n = m + 1 := ⟨n - 1, by omega⟩
  show (allP s m ++ [_]).getD m 0 = _
  rw [List.getD_eq_getElem?_getD, List.getElem?_append_right (by rw [allP_len]; omega), allP_len, Nat.sub_self]
  show s ^ (m + 1) - _ = s ^ (m + 1) - _
  congr 2
  apply List.map_congr_left
  intro d hd
  rw [divs_mem] at hd
  exact allP_get s m d hd.1 hd.2.1
theorem divs_succ_of {n i : Nat} (h : n % (i + 1) = 0) : divs n (i + 1) = divs n i ++ [i + 1] := by
  unfold divs
  rw [List.range'_1_concat, List.filter_append, Nat.add_comm 1 i, List.filter_cons_of_pos (by rw [h]; rfl)]
  rfl
theorem divs_succ_not {n i : Nat} (h : n % (i + 1) ≠ 0) : divs n (i + 1) = divs n i := by
  unfold divs
  rw [List.range'_1_concat, List.filter_append, Nat.add_comm 1 i, List.filter_cons_of_neg (by rw [beq_iff_eq]; exact h)]
  exact List.append_nil _
theorem divs_filter {n i : Nat} (h : n % (i + 1) = 0) : (divs n i).filter (fun d => (i + 1) % d == 0) = divs (i + 1) i := by
  unfold divs
  rw [List.filter_filter]
  apply List.filter_congr
  intro d hd
  rw [Bool.eq_iff_iff, Bool.and_eq_true, beq_iff_eq, beq_iff_eq]
  constructor
  · exact fun z => z.1
  · intro z
    exact ⟨z, Nat.mod_eq_zero_of_dvd (Nat.dvd_trans (Nat.dvd_of_mod_eq_zero z) (Nat.dvd_of_mod_eq_zero h))⟩
theorem prims_one (s : Int) : prims s 1 = s := by
  rw [prims_eq s 1 (by decide)]
  show s ^ 1 - (0 : Int) = s
  rw [Int.pow_succ, Int.pow_zero, Int.one_mul, Int.sub_zero]
theorem prims_prime (s : Int) {p : Nat} (h0 : 0 < p) (h : divs p (p - 1) = [1]) : prims s p = s ^ p - s := by
  rw [prims_eq s p h0, h]
  show s ^ p - (prims s 1 + 0) = _
  rw [prims_one, Int.add_zero]
theorem prims_square (s : Int) {p : Nat} (h0 : 0 < p) (h : divs p (p - 1) = [1]) (h2 : divs (p * p) (p * p - 1) = [1, p]) : prims s (p * p) = s ^ (p * p) - s ^ p := by
  rw [prims_eq s (p * p) (Nat.mul_pos h0 h0), h2]
  show s ^ (p * p) - (prims s 1 + (prims s p + 0)) = _
  rw [prims_one, prims_prime s h0 h, Int.add_zero]
  omega
/-! ### all words -/
def wordsOf (cs : List Nat) : Nat → List (List Nat)
  | 0 => [[]]
  | n + 1 => (wordsOf cs n).flatMap fun w => cs.map fun c => w ++ [c]
theorem wordsOf_mem {cs : List Nat} : ∀ {n : Nat} {w : List Nat}, w ∈ wordsOf cs n → w.length = n ∧ ∀ c ∈ w, c ∈ cs
  | 0, w, h => by
    have : w = [] := List.mem_singleton.mp h
    subst this
    exact ⟨rfl, fun _ h => nomatch h⟩
  | n + 1, w, h => by
    obtain ⟨u, hu, hw⟩ := List.mem_flatMap.mp h
    obtain ⟨c, hc, rfl⟩ := List.mem_map.mp hw
    obtain ⟨h1, h2⟩ := wordsOf_mem hu
    refine ⟨by rw [List.length_append, h1]; rfl, fun d hd => ?_⟩
    rcases List.mem_append.mp hd with hd | hd
    · exact h2 d hd
    · rw [List.mem_singleton.mp hd]
      exact hc
def countP (k n : Nat) : Nat := ((wordsOf ([97, 98, 99, 100].take k) n).filter isPrim).length
theorem count_small : (List.range' 1 3).all (fun k => (List.range' 1 6).all fun n => ((countP k n : Nat) : Int) == prims k n) = true := by decide +kernel
theorem count_four : (List.range' 1 4).all (fun n => ((countP 4 n : Nat) : Int) == prims 4 n) = true := by decide +kernel
theorem count_two : (List.range' 6 2).all (fun n => ((countP 2 n : Nat) : Int) == prims 2 n) = true := by decide +kernel
theorem prims_112 : prims 1 12 = 0 := by decide +kernel
theorem prims_24 : prims 2 4 = 12 := by decide +kernel
end K4M
set_option Elab.async false
set_option linter.all false
set_option maxRecDepth 100000
set_option maxHeartbeats 4000000
namespace K4
open PySem PySem.Spec PyProof.Rows L2 K4M
/-! ### texts as lists of signs -/
def S (w : List Nat) : Str := ⟨w.toArray⟩
theorem S_inj {u v : List Nat} (h : S u = S v) : u = v := by
  have := congrArg Str.cps h
  have := congrArg Array.toList this
  simpa [S] using this
theorem S_len (w : List Nat) : (S w).length = w.length := by
  show w.toArray.size = _
  rw [List.size_toArray]
theorem S_app (u v : List Nat) : S u ++ S v = S (u ++ v) := by
  show (⟨u.toArray ++ v.toArray⟩ : Str) = ⟨(u ++ v).toArray⟩
  rw [List.append_toArray]
theorem S_empty : (Str.empty) = S [] := rfl
theorem S_dec (u v : List Nat) : decide (S u = S v) = (u == v) := by
  by_cases h : u = v
  · subst h
    simp
  · rw [decide_eq_false fun z => h (S_inj z)]
    exact (beq_eq_false_iff_ne.mpr h).symm
theorem V_dec (u v : List Nat) : decide (V.str (S u) = V.str (S v)) = (u == v) := by
  by_cases h : u = v
  · subst h
    simp
  · rw [decide_eq_false fun z => h (S_inj (V.str.inj z))]
    exact (beq_eq_false_iff_ne.mpr h).symm
theorem cut_drop (w : List Nat) (p : Nat) : cutS (S w) (some (p : Int)) none = S (w.drop p) := by
  unfold cutS
  rw [HT.sIx_none, HT.sIx_nat, S_len]
  show (⟨((w.drop (min p w.length)).take (w.length - min p w.length)).toArray⟩ : Str) = ⟨(w.drop p).toArray⟩
  congr 2
  by_cases h : p ≤ w.length
  · rw [Nat.min_eq_left h, List.take_of_length_le (by rw [List.length_drop]; omega)]
  · rw [Nat.min_eq_right (by omega), Nat.sub_self, List.take_zero, List.drop_of_length_le (by omega)]
theorem cut_take (w : List Nat) (p : Nat) : cutS (S w) none (some (p : Int)) = S (w.take p) := by
  unfold cutS
  rw [HT.sIx_none, HT.sIx_nat, S_len]
  show (⟨((w.drop 0).take (min p w.length - 0)).toArray⟩ : Str) = ⟨(w.take p).toArray⟩
  rw [List.drop_zero, Nat.sub_zero]
  congr 2
  by_cases h : p ≤ w.length
  · rw [Nat.min_eq_left h]
  · rw [Nat.min_eq_right (by omega), List.take_length, List.take_of_length_le (by omega)]
theorem starts (w u : List Nat) : Txt.startswith (S w) (S u) = u.isPrefixOf w := by
  unfold Txt.startswith
  rw [PySem.StrLaws.subAt_eq, S_len, S_len, Nat.zero_add]
  show (decide (u.length ≤ w.length) && (((w.drop 0).take (S u).length) == u)) = _
  rw [List.drop_zero, S_len, Bool.eq_iff_iff, Bool.and_eq_true, decide_eq_true_eq, beq_iff_eq, List.isPrefixOf_iff_prefix]
  constructor
  · rintro ⟨_, h⟩
    rw [← h]
    exact List.take_prefix _ _
  · rintro ⟨t, rfl⟩
    exact ⟨by rw [List.length_append]; omega, by rw [List.take_left]⟩
theorem strip_all {w : List Nat} {y : Str} (h : ∀ c ∈ w, y.cps.contains c = true) : Txt.stripChars (S w) y = S [] := by
  have lo : (List.takeWhile y.cps.contains w) = w := by
    induction w with
    | nil => rfl
    | cons a r ih =>
      rw [List.takeWhile_cons, if_pos (h a (List.mem_cons_self ..)), ih fun c hc => h c (List.mem_cons_of_mem _ hc)]
  have e1 : stripLo y.cps.contains true (S w) = w.length := by
    show (List.takeWhile y.cps.contains w).length = _
    rw [lo]
  have e2 : stripHi y.cps.contains true (S w) w.length = w.length := by
    show (S w).length - ((w.drop w.length).reverse.takeWhile y.cps.contains).length = _
    rw [List.drop_length, S_len]
    rfl
  unfold Txt.stripChars Txt.stripBy
  by_cases h0 : w = []
  · subst h0
    split <;> rfl
  · have hl : 0 < w.length := List.length_pos_iff.mpr h0
    rw [if_neg]
    · unfold stripped
      rw [e1, e2]
      show (⟨w.toArray.extract w.length w.length⟩ : Str) = ⟨[].toArray⟩
      congr 1
      apply Array.toList_inj.mp
      simp
    · unfold stripSame
      rw [e1, Bool.and_eq_true, beq_iff_eq]
      omega
theorem foldl_rep (u : List Nat) : ∀ (k : Nat) (acc : List Nat), (List.replicate k u.toArray).foldl (· ++ ·) acc.toArray = (acc ++ rep u k).toArray
  | 0, acc => by simp [rep]
  | k + 1, acc => by
    rw [List.replicate_succ, List.foldl_cons, List.append_toArray, foldl_rep u k, rep_succ, List.append_assoc]
theorem S_mul (u : List Nat) (k : Nat) : Txt.mul (S u) (k : Int) = S (rep u k) := by
  unfold Txt.mul
  by_cases h1 : (k : Int) < 1
  · rw [if_pos h1]
    have : k = 0 := by omega
    subst this
    rfl
  · rw [if_neg h1]
    by_cases h2 : ((k : Int) == 1 || (S u).length == 0) = true
    · rw [if_pos h2]
      rw [Bool.or_eq_true, beq_iff_eq, beq_iff_eq, S_len] at h2
      rcases h2 with h2 | h2
      · have : k = 1 := by omega
        subst this
        congr 1
        simp [rep]
      · have : u = [] := List.length_eq_zero_iff.mp h2
        subst this
        congr 1
        simp [rep]
    · rw [if_neg h2, Int.toNat_natCast]
      have := foldl_rep u k []
      rw [List.nil_append] at this
      show (⟨(List.replicate k u.toArray).foldl (· ++ ·) (#[] : Array Nat)⟩ : Str) = _
      exact congrArg Str.mk this
/-! ### rules of my own -/
section
variable {X : Cx}
def CPowW (i j : Int) : Prop := 0 ≤ j ∧ (Builtin.Int.intBits i : Int) * j ≤ 2 ^ 27
theorem op_powW : OpR X (binaryOp .Pow) (rI CPowW fun i j => .int (i ^ j.toNat)) := opI fun _ _ _ _ _ _ _ hc q => pow_int hc.1 hc.2 q
/-- text * number -/
theorem op_mulS : OpR X (binaryOp .Mult) (fun x y H Q => ∃ (u : List Nat) (k : Nat), x = .str (S u) ∧ y = .int (k : Int) ∧ u.length * k ≤ 100000 ∧ k ≤ 100000 ∧ u.length ≤ 100000 ∧ Q (.str (S (rep u k))) H) := by
  intro pins s σ H x y v u Q I rx ry h
  obtain ⟨w, k, rfl, rfl, hz, hk, hw, q⟩ := h
  obtain ⟨t, rfl⟩ := rx
  obtain ⟨t', rfl⟩ := ry
  refine SB.mul ⟨?_, fun h1 h2 => ?_, fun h1 h2 => ?_⟩ fun t1 k1 => ?_
  · rw [Bool.or_eq_false_iff]
    exact ⟨decide_eq_false (by omega), decide_eq_false (by omega)⟩
  · rw [S_len]
    have h3 : (100000 : Int) ≤ (2 ^ 63 - 1) / (k : Int) := by
      apply Int.le_ediv_of_mul_le (by omega)
      omega
    omega
  · rw [S_len, Int.toNat_natCast]
    have e : sizeLine = 16777216 := by decide
    unfold Builtin.Str.tooLong
    exact decide_eq_false (by omega)
  · rw [S_mul]
    exact ⟨.str (S (rep w k)), H, I.tok _, ⟨_, rfl⟩, q⟩
def signsV (w : List Nat) : List V := w.map fun c => V.str (S [c])
theorem vals_signs {its : List Value} {w : List Nat} (hl : its.length = w.length) (h : ∀ (j : Nat) (v : Value), its[j]? = some v → ∃ c u, w[j]? = some c ∧ v = .str ⟨#[c]⟩ u) : Vals (signsV w) its := by
  induction w generalizing its with
  | nil =>
    have : its = [] := List.length_eq_zero_iff.mp hl
    subst this
    exact .nil
  | cons c r ih =>
    cases its with
    | nil => cases hl
    | cons v rest =>
      obtain ⟨c', u, e1, e2⟩ := h 0 v rfl
      cases e1
      refine .cons ⟨u, e2⟩ (ih (Nat.succ.inj hl) fun j v hv => h (j + 1) v hv)
/-- list(text) -/
theorem call_listS (hc : X.calm = true) : CallR X (.type "list") (fun xs H Q => ∃ w : List Nat, xs = [.str (S w)] ∧ w.length ≤ 1000 ∧ ∀ l, H l = none → Q (.ref l) (upd H l (.lst (signsV w)))) := by
  intro pins s σ H xs us Q I r h
  obtain ⟨w, rfl, hw, q⟩ := h
  obtain ⟨u, rfl, rx⟩ := vals1 r
  obtain ⟨t, rfl⟩ := rx
  have e : sizeLine = 16777216 := by decide
  have hn : (S w).cps.size ≤ sizeLine := by
    show w.toArray.size ≤ _
    rw [List.size_toArray]
    omega
  refine call_list_str (I.ok.hd hc) (S w) t (hn := hn) fun h' tk acc' c' kp e' hi => ?_
  have hv : Vals (signsV w) acc'.toList := by
    refine vals_signs ?_ fun j v hv => ?_
    · rw [Array.length_toList, hi.1]
      exact List.size_toArray ..
    · obtain ⟨c, u, h1, h2⟩ := hi.2 j v (by simpa using hv)
      exact ⟨c, u, by simpa [S] using h1, h2⟩
  refine ⟨.ref s.heap.objs.size, _, I.laid (t' := tk) kp (Nat.le_refl _) (show ObjOk X.prog X.w _ h' _ (.lst (signsV w)) from ⟨?_, acc'.toList, c', hv, e'⟩), rfl, q _ (I.hok.fresh (Nat.le_refl _))⟩
  unfold signsV
  rw [List.length_map]
  omega
end
theorem filter_take {α : Type} {f : α → Bool} {l : List α} {j : Nat} {x : α} (h : l[j]? = some x) : (l.take (j + 1)).filter f = (l.take j).filter f ++ (if f x = true then [x] else []) := by
  rw [List.take_add_one, h, List.filter_append]
  congr 1
  show List.filter f [x] = _
  cases e : f x with
  | true => rw [List.filter_cons_of_pos e]; rfl
  | false => rw [List.filter_cons_of_neg (by rw [e]; exact Bool.false_ne_true)]; rfl
theorem range_snoc' (i : Nat) : List.range' 1 (i + 1) = List.range' 1 i ++ [i + 1] := by
  rw [List.range'_1_concat, Nat.add_comm 1 i]
def natsV (l : List Nat) : List V := l.map fun (d : Nat) => V.int (d : Int)
theorem int_mod_beq (a b : Nat) : ((a : Int) % (b : Int) == 0) = (a % b == 0) := by
  rw [Bool.eq_iff_iff, beq_iff_eq, beq_iff_eq]
  omega
theorem take_mul_le (u : List Nat) (s : Nat) : (u.take s).length * (u.length / s) ≤ u.length := by
  have h1 : (u.take s).length ≤ s := by rw [List.length_take]; omega
  exact Nat.le_trans (Nat.mul_le_mul_right _ h1) (Nat.mul_div_le _ _)
theorem sizes_cons {u : List Nat} (h : u ≠ []) : ∃ r, sizes u = (sizes u).headD 0 :: r ∧ 0 < (sizes u).headD 0 ∧ (sizes u).headD 0 ≤ u.length := by
  have hl : 0 < u.length := List.length_pos_iff.mpr h
  obtain ⟨_, a2, a3, _⟩ := lp_spec u h
  have e := sizes_head u h
  have hb : 0 < (sizes u).headD 0 ∧ (sizes u).headD 0 ≤ u.length := by
    rw [e]
    split <;> omega
  cases hs : sizes u with
  | nil =>
    rw [hs] at hb
    exact absurd hb.1 (by decide)
  | cons a r =>
    rw [hs] at hb
    exact ⟨r, rfl, hb⟩
theorem same_upd {H : Hp} {p : Addr} {o : HO} (h : H p = none) : Same H (upd H p o) := fun b x e => by
  rw [upd_ne (ne_of_none e h)]
  exact e
end K4
set_option maxRecDepth 100000
namespace K4
open PySem L2
def topS (i : Nat) : Stmt := PySem.Challenge.pw_owncuts_k07_whole_windows_and_own_ones.main.body.getD i (.Pass ⟨0, 0, 0, 0⟩)
abbrev st_is_whole_number : Stmt := topS 9
abbrev st_is_count : Stmt := topS 10
abbrev st_is_made_of : Stmt := topS 11
abbrev st_check_number : Stmt := topS 12
abbrev st__is_had : Stmt := topS 14
abbrev st_repeats_below : Stmt := topS 15
abbrev st_many_words : Stmt := topS 16
abbrev st_many_primitives : Stmt := topS 17
abbrev st__are_signs : Stmt := topS 19
abbrev st_check_ground : Stmt := topS 21
abbrev st_is_text_of : Stmt := topS 22
abbrev st_is_window : Stmt := topS 23
abbrev st_check_window : Stmt := topS 24
abbrev st__check_two : Stmt := topS 25
abbrev st_words_long : Stmt := topS 26
abbrev st_windows : Stmt := topS 27
abbrev st_own_windows : Stmt := topS 28
abbrev st_is_own : Stmt := topS 29
abbrev st_many_own : Stmt := topS 30
abbrev st__distances_behind : Stmt := topS 31
abbrev st_are_near : Stmt := topS 32
abbrev st_near_ones : Stmt := topS 33
abbrev st_near_text : Stmt := topS 34
abbrev st_next_ones : Stmt := topS 35
abbrev st__law_dice : Stmt := topS 37
abbrev st__law_mixed : Stmt := topS 38
abbrev st__law_draw : Stmt := topS 39
abbrev st__law_one_of : Stmt := topS 40
abbrev st__law_exact : Stmt := topS 41
abbrev st__law_dices : Stmt := topS 42
abbrev st__law_letters : Stmt := topS 43
abbrev st__law_ground : Stmt := topS 44
abbrev st__law_repeats : Stmt := topS 45
abbrev st__law_words_of : Stmt := topS 46
abbrev st__law_own : Stmt := topS 47
abbrev st__law_behind_at : Stmt := topS 48
abbrev st__law_near : Stmt := topS 49
abbrev st__law_made : Stmt := topS 50
abbrev st__law_power : Stmt := topS 51
abbrev st__law_great_ground : Stmt := topS 52
abbrev st__law_great_window : Stmt := topS 53
abbrev st__law_many_ground : Stmt := topS 54
abbrev st__law_primitives : Stmt := topS 55
abbrev st__law_great_right : Stmt := topS 56
abbrev st__law_ground_right : Stmt := topS 57
abbrev st__law_far_right : Stmt := topS 58
abbrev st_law : Stmt := topS 59
abbrev cl_CutError : Stmt := topS 1
abbrev st_CutError___init__ : Stmt := inClass (topS 1) 0
abbrev cl_InvalidNumber : Stmt := topS 2
abbrev st_InvalidNumber___init__ : Stmt := inClass (topS 2) 0
abbrev cl_InvalidSigns : Stmt := topS 3
abbrev st_InvalidSigns___init__ : Stmt := inClass (topS 3) 0
abbrev cl_InvalidGap : Stmt := topS 4
abbrev st_InvalidGap___init__ : Stmt := inClass (topS 4) 0
abbrev cl_InvalidGround : Stmt := topS 5
abbrev st_InvalidGround___init__ : Stmt := inClass (topS 5) 0
abbrev cl_InvalidWindow : Stmt := topS 6
abbrev st_InvalidWindow___init__ : Stmt := inClass (topS 6) 0
abbrev cl_Ground : Stmt := topS 20
abbrev st_Ground___init__ : Stmt := inClass (topS 20) 0
abbrev st_Ground___eq__ : Stmt := inClass (topS 20) 1
abbrev st_Ground_signs : Stmt := inClass (topS 20) 2
abbrev st_Ground_gap : Stmt := inClass (topS 20) 3
abbrev st_Ground_width : Stmt := inClass (topS 20) 4
end K4
set_option Elab.async false
set_option linter.all false
set_option maxRecDepth 100000
set_option maxHeartbeats 4000000
namespace K4
open PySem PySem.Spec PyProof.Rows L2 K4M
/-- a def of the top that may be called: where it stands, and its promise -/
structure Cal (P : Program) (w : World) (K : PySem.W.Frag) (mg : Str → Option Value) (base : Heap) (k : Nat) (x : Str) (ps : List Str) (sp : Sp) where
  f : Addr
  fd : FuncData
  ok : FnOk P w K mg base CX0 k f fd ps sp
  g : mg x = some (.ref f)
  kp : PySem.W.keepIn K (.ref f) = true
  b : Binds K fd ps []
structure Df (K : PySem.W.Frag) (mg : Str → Option Value) (x : Str) (st : Stmt) (ps : List Str) where
  f : Addr
  fd : FuncData
  F : Fun K x x st f fd
  b : Binds K fd ps []
  g : mg x = some (.ref f)
  sh : ∃ (kV dc pm cd ct : Value) (an : Option Addr), fd = PySem.W.fnOf x x (defArgs st) (defBody st) (defScope st) .none kV dc pm an cd ct
theorem pcall {X : Cx} {k : Nat} {x : Str} {ps : List Str} {sp : Sp} {e : Expr} {es : List Expr} {t : TA} {p pos : Pos} (C : Cal X.prog X.w X.K X.mg X.base k x ps sp) (hr : Room k X.A) (hg : Gl X x) (ha : PA X (e :: es) t)
    (hdb : (x == ("__debug__" : Str)) = false := by decide) (he : starEach (e :: es) X.env = (false, eval e X.env) :: starEach es X.env := by rfl) (hpl : (backTo pos (starEach es X.env)).any (·.1) = false := by rfl) :
    PE X (.Call (.Name x p) (e :: es) [] pos) (tCall sp [] E0 t) := pe_call C.ok hr hg C.g C.kp C.b .nil pass0 ha hdb he hpl
/-- the built-ins that the text leaves as they are -/
structure Bi (mg : Str → Option Value) : Prop where
  len : mg "len" = none
  range : mg "range" = none
  sum : mg "sum" = none
  max : mg "max" = none
  min : mg "min" = none
  int : mg "int" = none
  isi : mg "isinstance" = none
  list : mg "list" = none
  any : mg "any" = none
  all : mg "all" = none
  zip : mg "zip" = none
  bool : mg "bool" = none
  str : mg "str" = none
  tuple : mg "tuple" = none
  dict : mg "dict" = none
  sorted : mg "sorted" = none
  set : mg "set" = none
  repr : mg "repr" = none
  abs : mg "abs" = none
  enum : mg "enumerate" = none
section
variable {P : Program} {w : World} {K : PySem.W.Frag} {mg : Str → Option Value} {base : Heap}
def Df.cal {x : Str} {st : Stmt} {ps : List Str} {k : Nat} {sp : Sp} (D : Df K mg x st ps) (h : FnOk P w K mg base CX0 k D.f D.fd ps sp) : Cal P w K mg base k x ps sp := ⟨D.f, D.fd, h, D.g, D.F.kp, D.b⟩
/-! ### the draws -/
theorem sc_mixed : FnScope ["seed", "spin", "at", "mixed"] ["seed", "spin", "at"] (defScope st__law_mixed) := ⟨rfl, rfl, rfl, by decide +kernel, rfl, by decide +kernel, by decide +kernel⟩
def spMixed : Sp := fun vs H Q _ => ∃ a b c : Int, vs = [.int a, .int b, .int c] ∧ (-(2 ^ 60) < b ∧ b < 2 ^ 60) ∧ (-(2 ^ 60) < c ∧ c < 2 ^ 60) ∧ ∀ m : Int, 0 ≤ m → m < 2147483587 → Q (.int m) H
theorem ok_mixed (B : Bi mg) (D : Df K mg "_law_mixed" st__law_mixed ["seed", "spin", "at"]) : FnOk P w K mg base CX0 1 D.f D.fd ["seed", "spin", "at"] spMixed := by
  refine D.F.ok sc_mixed (fun vs H Q E h => ?_) (fun cdv A outer s H vs Q E hr h => ?_)
  · obtain ⟨a, b, c, rfl, _⟩ := h
    rfl
  · obtain ⟨a, b, c, rfl, hb, hc, q⟩ := h
    refine ⟨_, pss_cons (ps_set (i := 3) sc_mixed.nd rfl (.inl rfl) (pe_op op_add (pe_op op_mul (pv 0) pe_int) (pe_op op_mul (pe_op op_mul pe_int (pv 1)) (pv 1))))
      (pss_cons (ps_set (i := 3) sc_mixed.nd rfl (.inl rfl) (pe_op op_mod (pe_callTy call_int1 (by rfl) B.int (by decide +kernel) (pa_cons (pe_op op_add (pe_op op_add (pv 3) (pe_op op_mul pe_int (pv 2))) (pv 1)) pa_nil)) pe_int))
      (pss_cons (ps_set (i := 3) sc_mixed.nd rfl (.inl rfl) (pe_op op_mod (pe_callTy call_int1 (by rfl) B.int (by decide +kernel) (pa_cons (pe_op op_add (pe_op op_mul (pv 3) (pv 3)) pe_int) pa_nil)) pe_int))
      (pss_one (ps_ret (pe_op op_mod (pe_callTy call_int1 (by rfl) B.int (by decide +kernel) (pa_cons (pe_op op_mul (pv 3) pe_int) pa_nil)) pe_int))))), ?_⟩
    refine ⟨_, rfl, _, _, rfl, rfl, .inr ⟨by decide, by decide⟩, _, rfl, _, _, rfl, rfl, .inl ⟨by decide, by decide⟩, _, rfl, _, _, rfl, rfl, .inr ⟨by omega, by omega⟩, _, _, rfl, rfl, ?_⟩
    refine ⟨_, rfl, _, rfl, _, _, rfl, rfl, .inl ⟨by decide, by decide⟩, _, _, rfl, rfl, _, rfl, _, _, rfl, rfl, .inl ⟨_, rfl, _, _, rfl, rfl, (by show (0 : Int) < 2147483647; decide), ?_⟩⟩
    generalize (a * 69069 + 104729 * b * b + 7919 * c + b) = z
    have h1 : 0 ≤ z % 2147483647 := Int.emod_nonneg _ (by decide)
    have h2 : z % 2147483647 < 2147483647 := Int.emod_lt_of_pos _ (by decide)
    refine ⟨_, rfl, _, rfl, _, _, rfl, rfl, .inr ⟨by omega, by omega⟩, _, _, rfl, rfl, .inl ⟨_, rfl, _, _, rfl, rfl, (by show (0 : Int) < 2147483629; decide), ?_⟩⟩
    generalize (z % 2147483647 * (z % 2147483647) + 40503) = y
    refine ⟨_, rfl, _, _, rfl, rfl, .inr ⟨by decide, by decide⟩, .inl ⟨_, rfl, _, _, rfl, rfl, (by show (0 : Int) < 2147483587; decide), ?_⟩⟩
    exact q _ (Int.emod_nonneg _ (by decide)) (Int.emod_lt_of_pos _ (by decide))
/-- all but what stands at d is as it was -/
def Kept (H H' : Hp) (d : Addr) : Prop := ∀ b o, b ≠ d → H b = some o → H' b = some o
theorem Kept.trans {H H1 H2 : Hp} {d : Addr} (a : Kept H H1 d) (b : Kept H1 H2 d) : Kept H H2 d := fun c o hc e => b c o hc (a c o hc e)
theorem Kept.of {H H1 : Hp} {d : Addr} (a : Same H H1) : Kept H H1 d := fun c o _ e => a c o e
theorem Kept.upd {H : Hp} {d : Addr} {o : HO} : Kept H (upd H d o) d := fun c u hc e => by
  rw [upd_ne hc]
  exact e
/-- the dice at d; at most n were drawn of its second source -/
def Dice (H : Hp) (d : Addr) (n : Nat) : Prop := ∃ a b c e : Int, H d = some (.lst [.int a, .int b, .int c, .int e]) ∧ (0 ≤ c ∧ c ≤ n) ∧ (-(2 ^ 60) < e ∧ e < 2 ^ 60)
theorem bits_small {m : Int} (h1 : 1 ≤ m) (h2 : m < 134217728) : (1 + (Builtin.Int.intBits m : Int) / 28) = 1 := by
  have : Builtin.Int.intBits m ≤ 27 := by
    unfold Builtin.Int.intBits
    split
    · omega
    · have : m.natAbs.log2 < 27 := PySem.Flt.log2_lt_of (by decide) (by omega)
      omega
  omega
theorem sc_draw : FnScope ["dice", "many", "drawn", "found", "piece"] ["dice", "many"] (defScope st__law_draw) := ⟨rfl, rfl, rfl, by decide +kernel, rfl, by decide +kernel, by decide +kernel⟩
def spDraw : Sp := fun vs H Q _ => ∃ (d : Addr) (m : Int) (n : Nat), vs = [.ref d, .int m] ∧ Dice H d n ∧ n < 2 ^ 59 ∧ 1 ≤ m ∧ m < 134217728 ∧ ∀ (r : Int) (H' : Hp), 0 ≤ r → r < m → Dice H' d (n + 1) → Kept H H' d → Q (.int r) H'
theorem ok_draw (B : Bi mg) (D : Df K mg "_law_draw" st__law_draw ["dice", "many"]) (CM : Cal P w K mg base 1 "_law_mixed" ["seed", "spin", "at"] spMixed) : FnOk P w K mg base CX0 2 D.f D.fd ["dice", "many"] spDraw := by
  refine D.F.ok sc_draw (fun vs H Q E h => ?_) (fun cdv A outer s H vs Q E hr h => ?_)
  · obtain ⟨d, m, n, rfl, _⟩ := h
    rfl
  · obtain ⟨d, m, n, rfl, ⟨a, b, c, e, hd, hc, he⟩, hn, hm1, hm2, q⟩ := h
    refine ⟨_, pss_cons (ps_if (pt_cmpR op_gt (pe_ix ix_list (pv 0) pe_int (fun _ _ => rfl)) pe_int (nomark _))
        (pss_cons (ps_set (i := 2) sc_draw.nd rfl (.inl rfl) (pe_op op_mod (pe_callTy call_int1 (by rfl) B.int (by decide +kernel) (pa_cons (pe_ix ix_list (pv 0) pe_int (fun _ _ => rfl)) pa_nil)) (pv 1)))
        (pss_cons (ps_asg (pe_op op_fdiv (pe_ix ix_list (pv 0) pe_int (fun _ _ => rfl)) (pv 1)) (pg_sub (pv 0) pe_int set_list))
        (pss_one (ps_ret (pv 2))))) pss_nil)
      (pss_cons (ps_set (i := 3) sc_draw.nd rfl (.inl rfl) pe_int)
      (pss_cons (ps_for PassesOwn.never rfl (pi_range1 rfl B.range (pa_cons (pe_op op_add pe_int (pe_op op_fdiv (pe_bits (pv 1)) pe_int)) pa_nil)) (pg_name (i := 4) sc_draw.nd rfl (.inl rfl))
        (pss_cons (ps_asg (pe_op op_add (pe_ix ix_list (pv 0) pe_int (fun _ _ => rfl)) pe_int) (pg_sub (pv 0) pe_int set_list))
        (pss_one (ps_set (i := 3) sc_draw.nd rfl (.inl rfl) (pe_op op_add (pe_op op_mul (pv 3) pe_int) (pcall CM hr (by rfl) (pa_cons (pe_ix ix_list (pv 0) pe_int (fun _ _ => rfl)) (pa_cons (pe_ix ix_list (pv 0) pe_int (fun _ _ => rfl)) (pa_cons (pe_ix ix_list (pv 0) pe_int (fun _ _ => rfl)) pa_nil)))))))))
      (pss_one (ps_ret (pe_op op_mod (pe_callTy call_int1 (by rfl) B.int (by decide +kernel) (pa_cons (pv 3) pa_nil)) (pv 1)))))), ?_⟩
    have hS : SqL K H d [.int a, .int b, .int c, .int e] := .inl (.inl hd)
    refine ⟨_, rfl, d, _, 0, _, rfl, rfl, hS, atI_nat (j := 0) rfl, _, _, rfl, rfl, _, rfl, ite2 (fun _ => ?_) (fun _ => ?_)⟩
    · refine ⟨_, rfl, d, _, 0, _, rfl, rfl, hS, atI_nat (j := 0) rfl, .inl ⟨_, rfl, _, rfl, _, _, rfl, rfl, (by show 0 < m; omega), ?_⟩⟩
      refine ⟨_, rfl, d, _, 0, _, rfl, rfl, hS, atI_nat (j := 0) rfl, _, rfl, _, _, rfl, rfl, ⟨by omega, by omega⟩, _, rfl, d, _, 0, 0, rfl, rfl, hd, rfl, _, rfl, ?_⟩
      refine q _ _ (Int.emod_nonneg _ (by omega)) (Int.emod_lt_of_pos _ (by omega)) ⟨_, _, _, _, upd_same, ⟨hc.1, by omega⟩, he⟩ Kept.upd
    · refine ⟨_, rfl, _, rfl, _, _, rfl, rfl, ⟨by decide, by decide⟩, _, _, rfl, rfl, ?_⟩
      refine ⟨(1 : Int), congrArg (fun z => [V.int z]) (bits_small hm1 hm2), by decide, by decide, for_range (lo := 0) (n := 1) (fun i σ H2 => ∃ (f c' : Int) (y : Option V), σ = [some (.ref d), some (.int m), none, some (.int f), y] ∧ (0 ≤ c' ∧ c' ≤ n + i) ∧ H2 d = some (.lst [.int a, .int b, .int c', .int e]) ∧ Kept H H2 d)
        ⟨0, c, none, rfl, ⟨hc.1, by omega⟩, hd, fun _ _ _ z => z⟩ ?_ ?_⟩
      · rintro i σ H2 hi ⟨f, c', y, rfl, hc', hd2, hk⟩
        have hS2 : SqL K H2 d [.int a, .int b, .int c', .int e] := .inl (.inl hd2)
        refine ⟨_, rfl, d, _, 2, _, rfl, rfl, hS2, atI_nat (j := 2) rfl, _, _, rfl, rfl, _, rfl, d, _, 2, 2, rfl, rfl, hd2, rfl, ?_⟩
        have hS3 : SqL K (upd H2 d (.lst [.int a, .int b, .int (c' + 1), .int e])) d [.int a, .int b, .int (c' + 1), .int e] := .inl (.inl upd_same)
        refine ⟨_, rfl, _, _, rfl, rfl, .inr ⟨by decide, by decide⟩, _, rfl, d, _, 1, _, rfl, rfl, hS3, atI_nat (j := 1) rfl, _, rfl, d, _, 2, _, rfl, rfl, hS3, atI_nat (j := 2) rfl, _, rfl, d, _, 3, _, rfl, rfl, hS3, atI_nat (j := 3) rfl, ?_⟩
        refine ⟨_, _, _, rfl, ⟨by omega, by omega⟩, he, fun r h1 h2 => ⟨_, _, rfl, rfl, ?_⟩⟩
        exact ⟨_, _, _, rfl, ⟨by omega, by omega⟩, upd_same, hk.trans Kept.upd⟩
      · rintro σ H2 ⟨f, c', y, rfl, hc', hd2, hk⟩
        refine ⟨_, rfl, .inl ⟨_, rfl, _, rfl, _, _, rfl, rfl, (by show 0 < m; omega), ?_⟩⟩
        exact q _ _ (Int.emod_nonneg _ (by omega)) (Int.emod_lt_of_pos _ (by omega)) ⟨_, _, _, _, hd2, ⟨hc'.1, by omega⟩, he⟩ hk
end
end K4
set_option Elab.async false
set_option linter.all false
set_option maxRecDepth 100000
set_option maxHeartbeats 4000000
namespace K4
open PySem PySem.Spec PyProof.Rows L2 K4M
/-! ### values that are compared deeply -/
def Flat : V → Prop
  | .non => True
  | .bl _ => True
  | .int _ => True
  | .str _ => True
  | _ => False
def tn : V → String
  | .non => "NoneType"
  | .bl _ => "bool"
  | .int _ => "int"
  | _ => "str"
def isInt : V → Bool
  | .int _ => true
  | .bl _ => true
  | _ => false
def isBl : V → Bool
  | .bl _ => true
  | _ => false
def isStr : V → Bool
  | .str _ => true
  | _ => false
section
variable {K : PySem.W.Frag} {H : Hp} {x : V}
theorem Flat.ty (h : Flat x) : TyX K H x (.type (tn x)) := by
  cases x with
  | non => exact .base .non
  | bl b => exact .base (.bl b)
  | int i => exact .base (.int i)
  | str y => exact .base (.str y)
  | _ => exact h.elim
theorem Flat.no (h : Flat x) {c : String} (hc : c = "list" ∨ c = "tuple" ∨ c = "dict") : PySem.W.kitOne K (.type (tn x)) (.type c) = some false := by
  cases x with
  | non => rcases hc with rfl | rfl | rfl <;> exact kit_ty (a := "NoneType") (r := false) (by decide +kernel)
  | bl b => rcases hc with rfl | rfl | rfl <;> exact kit_ty (a := "bool") (r := false) (by decide +kernel)
  | int i => rcases hc with rfl | rfl | rfl <;> exact kit_ty (a := "int") (r := false) (by decide +kernel)
  | str y => rcases hc with rfl | rfl | rfl <;> exact kit_ty (a := "str") (r := false) (by decide +kernel)
  | _ => exact h.elim
theorem Flat.kInt (h : Flat x) : PySem.W.kitOne K (.type (tn x)) (.type "int") = some (isInt x) := by
  cases x with
  | non => exact kit_ty (a := "NoneType") (r := false) (by decide +kernel)
  | bl b => exact kit_ty (a := "bool") (r := true) (by decide +kernel)
  | int i => exact kit_ty (a := "int") (r := true) (by decide +kernel)
  | str y => exact kit_ty (a := "str") (r := false) (by decide +kernel)
  | _ => exact h.elim
theorem Flat.kStr (h : Flat x) : PySem.W.kitOne K (.type (tn x)) (.type "str") = some (isStr x) := by
  cases x with
  | non => exact kit_ty (a := "NoneType") (r := false) (by decide +kernel)
  | bl b => exact kit_ty (a := "bool") (r := false) (by decide +kernel)
  | int i => exact kit_ty (a := "int") (r := false) (by decide +kernel)
  | str y => exact kit_ty (a := "str") (r := true) (by decide +kernel)
  | _ => exact h.elim
theorem Flat.kBl (h : Flat x) : PySem.W.kitOne K (.type (tn x)) (.type "bool") = some (isBl x) := by
  cases x with
  | non => exact kit_ty (a := "NoneType") (r := false) (by decide +kernel)
  | bl b => exact kit_ty (a := "bool") (r := true) (by decide +kernel)
  | int i => exact kit_ty (a := "int") (r := false) (by decide +kernel)
  | str y => exact kit_ty (a := "str") (r := false) (by decide +kernel)
  | _ => exact h.elim
theorem Flat.scal (h : Flat x) : scal x x = true := by
  cases x with
  | non => rfl
  | bl b => rfl
  | int i => rfl
  | str y => rfl
  | _ => exact h.elim
theorem sql_ty {a : Addr} {xs : List V} (h : SqL K H a xs) : TyX K H (.ref a) (.type "list") := by
  rcases h with (h | ⟨o, h⟩) | ⟨o, its, n, h, hc, _⟩
  · exact .base (.lst h)
  · exact .base (.frz h)
  · exact .kList h hc
theorem sqt_ty {a : Addr} {xs : List V} (h : SqT K H a xs) : TyX K H (.ref a) (.type "tuple") := by
  rcases h with (h | ⟨o, h⟩) | ⟨o, its, n, h, hc, _⟩
  · exact .base (.tup h)
  · exact .fTuple h
  · exact .kTuple h hc
theorem Same.sqt {H' : Hp} {a : Addr} {xs : List V} (e : Same H H') (h : SqT K H a xs) : SqT K H' a xs := by
  rcases h with (h | ⟨o, h⟩) | h
  · exact .inl (.inl (e _ _ h))
  · exact .inl (.inr ⟨o, e _ _ h⟩)
  · exact .inr h
end
/-- x and y tell the same, n deep -/
def Eqv (K : PySem.W.Frag) (H : Hp) : Nat → V → V → Prop
  | 0, x, y => x = y ∧ Flat x
  | n + 1, x, y => (x = y ∧ Flat x) ∨ ∃ (a b : Addr) (xs ys : List V), x = .ref a ∧ y = .ref b ∧ xs.length ≤ 100000 ∧ xs.length = ys.length ∧ ((SqL K H a xs ∧ SqL K H b ys) ∨ (SqT K H a xs ∧ SqT K H b ys)) ∧
      ∀ (i : Nat) (u v : V), xs[i]? = some u → ys[i]? = some v → Eqv K H n u v
theorem Eqv.same {K : PySem.W.Frag} {H H' : Hp} (e : Same H H') : ∀ {n : Nat} {x y : V}, Eqv K H n x y → Eqv K H' n x y
  | 0, _, _, h => h
  | n + 1, x, y, h => by
    rcases h with h | ⟨a, b, xs, ys, rfl, rfl, h1, h2, h3, h4⟩
    · exact .inl h
    · refine .inr ⟨a, b, xs, ys, rfl, rfl, h1, h2, ?_, fun i u v hu hv => (h4 i u v hu hv).same e⟩
      rcases h3 with ⟨q1, q2⟩ | ⟨q1, q2⟩
      · exact .inl ⟨e.seq q1, e.seq q2⟩
      · exact .inr ⟨Same.sqt e q1, Same.sqt e q2⟩
theorem Eqv.flat {K : PySem.W.Frag} {H : Hp} {n : Nat} {x : V} (h : Flat x) : Eqv K H n x x := by
  cases n with
  | zero => exact ⟨rfl, h⟩
  | succ n => exact .inl ⟨rfl, h⟩
theorem Eqv.list {K : PySem.W.Frag} {H : Hp} {n : Nat} {a b : Addr} {xs : List V} (ha : SqL K H a xs) (hb : SqL K H b xs) (hl : xs.length ≤ 100000) (hf : ∀ x ∈ xs, Flat x) : Eqv K H (n + 1) (.ref a) (.ref b) :=
  .inr ⟨a, b, xs, xs, rfl, rfl, hl, rfl, .inl ⟨ha, hb⟩, fun i u v hu hv => by
    rw [hu] at hv
    cases hv
    exact Eqv.flat (hf u (List.mem_of_getElem? hu))⟩
theorem Eqv.tup {K : PySem.W.Frag} {H : Hp} {n : Nat} {a b : Addr} {xs : List V} (ha : SqT K H a xs) (hb : SqT K H b xs) (hl : xs.length ≤ 100000) (hf : ∀ x ∈ xs, Flat x) : Eqv K H (n + 1) (.ref a) (.ref b) :=
  .inr ⟨a, b, xs, xs, rfl, rfl, hl, rfl, .inr ⟨ha, hb⟩, fun i u v hu hv => by
    rw [hu] at hv
    cases hv
    exact Eqv.flat (hf u (List.mem_of_getElem? hu))⟩
theorem dec_self (x : V) : decide (x = x) = true := decide_eq_true rfl
/-! ### a comprehension over zip -/
theorem lc_zipL {K : PySem.W.Frag} {a b : Addr} {xs ys : List V} {g : TG} {tt : TT} {te : TE} {vs : List Nat} {σ : L2.St} {H1 : Hp} {D : Addr} {Qd : Hp → Prop} (hl : xs.length = ys.length) (Pv : Nat → Hp → Prop) (h0 : Pv 0 (upd H1 D (.lst []))) (hq : ∀ i H, Pv i H → SqL K H a xs ∧ SqL K H b ys)
    (hs : ∀ (i : Nat) (x y : V) (T : Addr) (H : Hp), xs[i]? = some x → ys[i]? = some y → Pv i H → H T = none → g (.ref T) (wipe σ vs) (upd H T (.tup [x, y])) fun σ2 H2 => wipe σ2 vs = wipe σ vs ∧ tt σ2 H2 fun c H3 =>
      if c = true then te σ2 H3 fun y H4 => ∃ acc, H4 D = some (.lst acc) ∧ acc.length < sizeLine ∧ Pv (i + 1) (upd H4 D (.lst (acc ++ [y]))) else Pv (i + 1) H3) (hd : ∀ H, Pv xs.length H → Qd H) :
    ∃ W : Nat → Nat → Hp → Prop, (∃ m, W 0 m (upd H1 D (.lst []))) ∧ ∀ i m H, W i m H →
      ((Itz K a b).stop i H ∧ Qd H) ∨ ((Itz K a b).go i H ∧ ∃ Nx : Hp → Prop, (∀ H', Nx H' → ∃ m', m' < m ∧ W (i + 1) m' H') ∧ ∀ x H', (Itz K a b).yld i H x H' → g x (wipe σ vs) H' fun σ2 H2 => wipe σ2 vs = wipe σ vs ∧ tt σ2 H2 fun c H3 =>
        if c = true then te σ2 H3 fun y H4 => ∃ acc, H4 D = some (.lst acc) ∧ acc.length < sizeLine ∧ Nx (upd H4 D (.lst (acc ++ [y]))) else Nx H3) := by
  refine ⟨fun i m H => m = xs.length - i ∧ i ≤ xs.length ∧ Pv i H, ⟨xs.length, rfl, Nat.zero_le _, h0⟩, ?_⟩
  rintro i m H ⟨rfl, hi, p⟩
  obtain ⟨qx, qy⟩ := hq i H p
  by_cases hlt : i < xs.length
  · have hx : xs[i]? = some xs[i] := List.getElem?_eq_getElem hlt
    have hlt2 : i < ys.length := by omega
    have hy : ys[i]? = some ys[i] := List.getElem?_eq_getElem hlt2
    refine .inr ⟨⟨xs, ys, _, _, qx, qy, hx, hy⟩, Pv (i + 1), fun H' p' => ⟨xs.length - (i + 1), by omega, rfl, hlt, p'⟩, fun v H' y => ?_⟩
    obtain ⟨T, x', y', rfl, hT, rfl, f1, f2⟩ := y
    exact hs i x' y' T H (f1 xs qx) (f2 ys qy) p hT
  · have e : i = xs.length := by omega
    subst e
    exact .inl ⟨⟨xs, ys, qx, qy, Or.inl (Nat.le_refl _)⟩, hd H p⟩
theorem lc_zipT {K : PySem.W.Frag} {a b : Addr} {xs ys : List V} {g : TG} {tt : TT} {te : TE} {vs : List Nat} {σ : L2.St} {H1 : Hp} {D : Addr} {Qd : Hp → Prop} (hl : xs.length = ys.length) (Pv : Nat → Hp → Prop) (h0 : Pv 0 (upd H1 D (.lst []))) (hq : ∀ i H, Pv i H → SqT K H a xs ∧ SqT K H b ys)
    (hs : ∀ (i : Nat) (x y : V) (T : Addr) (H : Hp), xs[i]? = some x → ys[i]? = some y → Pv i H → H T = none → g (.ref T) (wipe σ vs) (upd H T (.tup [x, y])) fun σ2 H2 => wipe σ2 vs = wipe σ vs ∧ tt σ2 H2 fun c H3 =>
      if c = true then te σ2 H3 fun y H4 => ∃ acc, H4 D = some (.lst acc) ∧ acc.length < sizeLine ∧ Pv (i + 1) (upd H4 D (.lst (acc ++ [y]))) else Pv (i + 1) H3) (hd : ∀ H, Pv xs.length H → Qd H) :
    ∃ W : Nat → Nat → Hp → Prop, (∃ m, W 0 m (upd H1 D (.lst []))) ∧ ∀ i m H, W i m H →
      ((RZ.ItzT K a b).stop i H ∧ Qd H) ∨ ((RZ.ItzT K a b).go i H ∧ ∃ Nx : Hp → Prop, (∀ H', Nx H' → ∃ m', m' < m ∧ W (i + 1) m' H') ∧ ∀ x H', (RZ.ItzT K a b).yld i H x H' → g x (wipe σ vs) H' fun σ2 H2 => wipe σ2 vs = wipe σ vs ∧ tt σ2 H2 fun c H3 =>
        if c = true then te σ2 H3 fun y H4 => ∃ acc, H4 D = some (.lst acc) ∧ acc.length < sizeLine ∧ Nx (upd H4 D (.lst (acc ++ [y]))) else Nx H3) := by
  refine ⟨fun i m H => m = xs.length - i ∧ i ≤ xs.length ∧ Pv i H, ⟨xs.length, rfl, Nat.zero_le _, h0⟩, ?_⟩
  rintro i m H ⟨rfl, hi, p⟩
  obtain ⟨qx, qy⟩ := hq i H p
  by_cases hlt : i < xs.length
  · have hx : xs[i]? = some xs[i] := List.getElem?_eq_getElem hlt
    have hlt2 : i < ys.length := by omega
    have hy : ys[i]? = some ys[i] := List.getElem?_eq_getElem hlt2
    refine .inr ⟨⟨xs, ys, _, _, qx, qy, hx, hy⟩, Pv (i + 1), fun H' p' => ⟨xs.length - (i + 1), by omega, rfl, hlt, p'⟩, fun v H' y => ?_⟩
    obtain ⟨T, x', y', rfl, hT, rfl, f1, f2⟩ := y
    exact hs i x' y' T H (f1 xs qx) (f2 ys qy) p hT
  · have e : i = xs.length := by omega
    subst e
    exact .inl ⟨⟨xs, ys, qx, qy, Or.inl (Nat.le_refl _)⟩, hd H p⟩
section
variable {P : Program} {w : World} {K : PySem.W.Frag} {mg : Str → Option Value} {base : Heap}
/-! ### exact -/
theorem sc_exact : FnScope ["mine", "theirs", "is_like", "a", "b", "key"] ["mine", "theirs"] (defScope st__law_exact) := ⟨rfl, rfl, rfl, by decide +kernel, rfl, by decide +kernel, by decide +kernel⟩
def spExact (K : PySem.W.Frag) (n : Nat) : Sp := fun vs H Q _ => ∃ x y : V, vs = [x, y] ∧ Eqv K H n x y ∧ ∀ H', Same H H' → Q (.bl true) H'
theorem lcls (a b : String) : Paired ClsV [.ty a, .ty b] [.type a, .type b] := .cons (.ty _) (.cons (.ty _) .nil)
theorem lcls3 (a b c : String) : Paired ClsV [.ty a, .ty b, .ty c] [.type a, .type b, .type c] := .cons (.ty _) (.cons (.ty _) (.cons (.ty _) .nil))
theorem exact_flat (B : Bi mg) (D : Df K mg "_law_exact" st__law_exact ["mine", "theirs"]) {k : Nat} {cdv : Value} {A : Around} {outer : List Env} {s : Shared} {H : Hp} {x : V} {Q : VK} {E : XK} (hf : Flat x) (q : ∀ H', Same H H' → Q (.bl true) H') :
    ∃ t, PSs (cxOf CX0 P w K mg base ["mine", "theirs", "is_like", "a", "b", "key"] "_law_exact" (defScope st__law_exact) D.f cdv A outer s H E).nox (defBody st__law_exact) t ∧ t { nx := fun _ H' => Q .non H', rt := Q } (start ["mine", "theirs", "is_like", "a", "b", "key"] [x, x]) H := by
  refine ⟨_, pss_cons (ps_if (pt_val (pe_callB call_isiT (by rfl) B.isi (by decide +kernel) (pa_cons (pv 0) (pa_cons (pe_tup (pa_cons (pe_bltn (v := .ty "list") (by rfl) B.list (by decide +kernel) rfl) (pa_cons (pe_bltn (v := .ty "tuple") (by rfl) B.tuple (by decide +kernel) rfl) pa_nil))) pa_nil)))) pss_never pss_nil)
    (pss_cons (ps_if (pt_val (pe_callB call_isi (by rfl) B.isi (by decide +kernel) (pa_cons (pv 0) (pa_cons (pe_bltn (v := .ty "dict") (by rfl) B.dict (by decide +kernel) rfl) pa_nil)))) pss_never pss_nil)
    (pss_cons (ps_if (PW.pt (pw_or (pt_val (pe_callB call_isiT (by rfl) B.isi (by decide +kernel) (pa_cons (pv 1) (pa_cons (pe_tup (pa_cons (pe_bltn (v := .ty "list") (by rfl) B.list (by decide +kernel) rfl) (pa_cons (pe_bltn (v := .ty "tuple") (by rfl) B.tuple (by decide +kernel) rfl) (pa_cons (pe_bltn (v := .ty "dict") (by rfl) B.dict (by decide +kernel) rfl) pa_nil)))) pa_nil))))
        (pw_or1 (pt_cmpR op_ne (pe_cmpR op_isN (pv 0) pe_non (nomark _)) (pe_cmpR op_isN (pv 1) pe_non (nomark _)) (nomark _))))) pss_never pss_nil)
    (pss_cons (ps_set (i := 2) sc_exact.nd rfl (.inl rfl) (pe_and (pe_cmpR op_eq (pe_callB call_isi (by rfl) B.isi (by decide +kernel) (pa_cons (pv 0) (pa_cons (pe_bltn (v := .ty "int") (by rfl) B.int (by decide +kernel) rfl) pa_nil))) (pe_callB call_isi (by rfl) B.isi (by decide +kernel) (pa_cons (pv 1) (pa_cons (pe_bltn (v := .ty "int") (by rfl) B.int (by decide +kernel) rfl) pa_nil))) (nomark _))
        (pe_one (pe_cmpR op_eq (pe_callB call_isi (by rfl) B.isi (by decide +kernel) (pa_cons (pv 0) (pa_cons (pe_bltn (v := .ty "str") (by rfl) B.str (by decide +kernel) rfl) pa_nil))) (pe_callB call_isi (by rfl) B.isi (by decide +kernel) (pa_cons (pv 1) (pa_cons (pe_bltn (v := .ty "str") (by rfl) B.str (by decide +kernel) rfl) pa_nil))) (nomark _)))))
    (pss_one (ps_ret (pe_and (pv 2) (pe_and (pe_cmpR op_eq (pe_callB call_isi (by rfl) B.isi (by decide +kernel) (pa_cons (pv 0) (pa_cons (pe_bltn (v := .ty "bool") (by rfl) B.bool (by decide +kernel) rfl) pa_nil))) (pe_callB call_isi (by rfl) B.isi (by decide +kernel) (pa_cons (pv 1) (pa_cons (pe_bltn (v := .ty "bool") (by rfl) B.bool (by decide +kernel) rfl) pa_nil))) (nomark _))
        (pe_one (pe_cmpR op_eq (pv 0) (pv 1) (nomark _)))))))))), ?_⟩
  refine ⟨x, rfl, (by decide), fun p hp => ?_⟩
  refine ⟨x, p, _, _, _, false, rfl, upd_same, lcls _ _, hf.ty, kitAny_cons (hf.no (.inl rfl)) (fun _ => kitAny_cons (hf.no (.inr (.inl rfl))) (fun _ => kitAny_nil) (fun z => nomatch z)) (fun z => nomatch z), _, rfl, iteF ?_⟩
  refine ⟨x, rfl, x, _, _, _, false, rfl, .ty _, hf.ty, hf.no (.inr (.inr rfl)), _, rfl, iteF ?_⟩
  refine ⟨x, rfl, (by decide), fun p2 hp2 => ?_⟩
  refine ⟨x, p2, _, _, _, false, rfl, upd_same, lcls3 _ _ _, hf.ty, kitAny_cons (hf.no (.inl rfl)) (fun _ => kitAny_cons (hf.no (.inr (.inl rfl))) (fun _ => kitAny_cons (hf.no (.inr (.inr rfl))) (fun _ => kitAny_nil) (fun z => nomatch z)) (fun z => nomatch z)) (fun z => nomatch z), _, rfl, iteF ?_⟩
  refine ⟨x, rfl, rfl, x, rfl, rfl, rfl, _, rfl, ?_⟩
  rw [dec_self]
  refine iteF ?_
  refine ⟨x, rfl, x, _, _, _, isInt x, rfl, .ty _, hf.ty, hf.kInt, x, rfl, x, _, _, _, isInt x, rfl, .ty _, hf.ty, hf.kInt, rfl, _, rfl, ?_⟩
  rw [dec_self]
  refine iteT ?_
  refine ⟨x, rfl, x, _, _, _, isStr x, rfl, .ty _, hf.ty, hf.kStr, x, rfl, x, _, _, _, isStr x, rfl, .ty _, hf.ty, hf.kStr, rfl, ?_⟩
  rw [dec_self]
  refine ⟨_, rfl, _, rfl, iteT ?_⟩
  refine ⟨x, rfl, x, _, _, _, isBl x, rfl, .ty _, hf.ty, hf.kBl, x, rfl, x, _, _, _, isBl x, rfl, .ty _, hf.ty, hf.kBl, rfl, _, rfl, ?_⟩
  rw [dec_self]
  refine iteT ?_
  refine ⟨x, rfl, x, rfl, hf.scal, ?_⟩
  rw [dec_self]
  exact q _ ((same_upd hp).trans (same_upd hp2))
end
end K4
set_option Elab.async false
set_option linter.all false
set_option maxRecDepth 100000
set_option maxHeartbeats 4000000
namespace K4
open PySem PySem.Spec PyProof.Rows L2 K4M
theorem kit_ll {K : PySem.W.Frag} {a : String} (h : kitB a a = some true) : PySem.W.kitOne K (.type a) (.type a) = some true := kit_ty h
theorem Kept.seq {K : PySem.W.Frag} {H H' : Hp} {d a : Addr} {xs : List V} (e : Kept H H' d) (hne : a ≠ d) (h : SqL K H a xs) : SqL K H' a xs := by
  rcases h with (h | ⟨o, h⟩) | h
  · exact .inl (.inl (e _ _ hne h))
  · exact .inl (.inr ⟨o, e _ _ hne h⟩)
  · exact .inr h
theorem Same.dice {H H' : Hp} {d : Addr} {n : Nat} (e : Same H H') (h : Dice H d n) : Dice H' d n := by
  obtain ⟨a, b, c, x, hd, r⟩ := h
  exact ⟨a, b, c, x, e _ _ hd, r⟩
theorem Dice.more {H : Hp} {d : Addr} {n m : Nat} (h : Dice H d n) (hm : n ≤ m) : Dice H d m := by
  obtain ⟨a, b, c, x, hd, r, z⟩ := h
  exact ⟨a, b, c, x, hd, ⟨r.1, by omega⟩, z⟩
theorem Dice.some {H : Hp} {d : Addr} {n : Nat} (h : Dice H d n) : ∃ o, H d = some o := by
  obtain ⟨a, b, c, x, hd, _⟩ := h
  exact ⟨_, hd⟩
theorem cutV_map {α : Type} (f : α → V) (ns : List α) (lo hi : Option Int) : ∃ ms : List α, cutV (ns.map f) lo hi = ms.map f := by
  unfold cutV
  rw [← List.map_drop, ← List.map_take]
  exact ⟨_, rfl⟩
section
variable {P : Program} {w : World} {K : PySem.W.Frag} {mg : Str → Option Value} {base : Heap}
theorem ok_exact (B : Bi mg) (D : Df K mg "_law_exact" st__law_exact ["mine", "theirs"]) : ∀ n : Nat, FnOk P w K mg base CX0 (n + 1) D.f D.fd ["mine", "theirs"] (spExact K n)
  | 0 => by
    refine D.F.ok sc_exact (fun vs H Q E h => ?_) (fun cdv A outer s H vs Q E hr h => ?_)
    · obtain ⟨x, y, rfl, _⟩ := h
      rfl
    · obtain ⟨x, y, rfl, ⟨rfl, hf⟩, q⟩ := h
      exact exact_flat B D (k := 0) hf q
  | n + 1 => by
    have C : Cal P w K mg base (n + 1) "_law_exact" ["mine", "theirs"] (spExact K n) := D.cal (ok_exact B D n)
    refine D.F.ok sc_exact (fun vs H Q E h => ?_) (fun cdv A outer s H vs Q E hr h => ?_)
    · obtain ⟨x, y, rfl, _⟩ := h
      rfl
    · obtain ⟨x, y, rfl, h, q⟩ := h
      rcases h with ⟨rfl, hf⟩ | ⟨a, b, xs, ys, rfl, rfl, h1, h2, h3, h4⟩
      · exact exact_flat B D (k := n + 1) hf q
      · refine ⟨_, pss_cons (ps_if (pt_val (pe_callB call_isiT (by rfl) B.isi (by decide +kernel) (pa_cons (pv 0) (pa_cons (pe_tup (pa_cons (pe_bltn (v := .ty "list") (by rfl) B.list (by decide +kernel) rfl) (pa_cons (pe_bltn (v := .ty "tuple") (by rfl) B.tuple (by decide +kernel) rfl) pa_nil))) pa_nil))))
            (pss_cons (ps_set (i := 2) sc_exact.nd rfl (.inl rfl) (pe_and (pe_cmpR op_eq (pe_callB call_isi (by rfl) B.isi (by decide +kernel) (pa_cons (pv 1) (pa_cons (pe_bltn (v := .ty "list") (by rfl) B.list (by decide +kernel) rfl) pa_nil))) (pe_callB call_isi (by rfl) B.isi (by decide +kernel) (pa_cons (pv 0) (pa_cons (pe_bltn (v := .ty "list") (by rfl) B.list (by decide +kernel) rfl) pa_nil))) (nomark _))
              (pe_one (pe_cmpR op_eq (pe_callB call_isi (by rfl) B.isi (by decide +kernel) (pa_cons (pv 1) (pa_cons (pe_bltn (v := .ty "tuple") (by rfl) B.tuple (by decide +kernel) rfl) pa_nil))) (pe_callB call_isi (by rfl) B.isi (by decide +kernel) (pa_cons (pv 0) (pa_cons (pe_bltn (v := .ty "tuple") (by rfl) B.tuple (by decide +kernel) rfl) pa_nil))) (nomark _)))))
            (pss_one (ps_ret (pe_and (pv 2) (pe_and (pe_cmpR op_eq (pe_callB call_len_seq (by rfl) B.len PySem.boot_len (pa_cons (pv 0) pa_nil)) (pe_callB call_len_seq (by rfl) B.len PySem.boot_len (pa_cons (pv 1) pa_nil)) (nomark _))
              (pe_one (pe_callB (cr_all rfl) (by rfl) B.all (by decide +kernel) (pa_cons (pe_lc (own := [("a", 3), ("b", 4)]) (g := gTup K 2 (gCons (gName 3) (gCons (gName 4) gNil))) (tt := tYes) (by rfl) sc_exact.nd
                (RZ.pi_zipA (by rfl) B.zip (pa_cons (pv 0) (pa_cons (pv 1) pa_nil))) (blkOk_by (N := ["mine", "theirs", "is_like", "a", "b", "key"]) (sc := defScope st__law_exact) (by decide +kernel))
                (fun _ _ _ _ _ => pg_tup rfl (pgs_cons (pg_name (i := 3) sc_exact.nd rfl (.inl rfl)) (pgs_cons (pg_name (i := 4) sc_exact.nd rfl (.inl rfl)) pgs_nil)))
                (fun _ _ _ _ _ => pts_nil)
                (fun _ _ _ _ _ => pcall C hr (by rfl) (pa_cons (pv 3) (pa_cons (pv 4) pa_nil)))) pa_nil)))))))) pss_nil)
          pss_never, ?_⟩
        have eb : ∃ bL bT : Bool, ∃ T : Value, ∀ H', Same H H' → TyX K H' (.ref a) T ∧ TyX K H' (.ref b) T ∧ PySem.W.kitOne K T (.type "list") = some bL ∧ PySem.W.kitOne K T (.type "tuple") = some bT ∧ PySem.W.kitAny K T [.type "list", .type "tuple"] = some true := by
          rcases h3 with ⟨q1, q2⟩ | ⟨q1, q2⟩
          · refine ⟨true, false, .type "list", fun H' sm => ⟨sql_ty (sm.seq q1), sql_ty (sm.seq q2), kit_ty (by decide +kernel), kit_ty (by decide +kernel), kitAny_cons (b := true) (kit_ty (by decide +kernel)) (fun z => nomatch z) (fun _ => rfl)⟩⟩
          · refine ⟨false, true, .type "tuple", fun H' sm => ⟨sqt_ty (Same.sqt sm q1), sqt_ty (Same.sqt sm q2), kit_ty (by decide +kernel), kit_ty (by decide +kernel), kitAny_cons (b := false) (kit_ty (by decide +kernel)) (fun _ => kitAny_cons (b := true) (kit_ty (by decide +kernel)) (fun z => nomatch z) (fun _ => rfl)) (fun z => nomatch z)⟩⟩
        obtain ⟨bL, bT, T, hT⟩ := eb
        refine ⟨.ref a, rfl, (by decide), fun p hp => ?_⟩
        have s1 : Same H (upd H p (.tup [.ty "list", .ty "tuple"])) := same_upd hp
        obtain ⟨ta, tb, kL, kT, kA⟩ := hT _ s1
        refine ⟨.ref a, p, _, T, _, true, rfl, upd_same, lcls _ _, ta, kA, _, rfl, iteT ?_⟩
        refine ⟨.ref b, rfl, .ref b, _, T, _, bL, rfl, .ty _, tb, kL, .ref a, rfl, .ref a, _, T, _, bL, rfl, .ty _, ta, kL, rfl, _, rfl, ?_⟩
        rw [dec_self]
        refine iteT ?_
        refine ⟨.ref b, rfl, .ref b, _, T, _, bT, rfl, .ty _, tb, kT, .ref a, rfl, .ref a, _, T, _, bT, rfl, .ty _, ta, kT, rfl, ?_⟩
        rw [dec_self]
        refine ⟨_, rfl, _, rfl, iteT ?_⟩
        have hq : ∀ H', Same H H' → (SqL K H' a xs ∨ SqT K H' a xs) ∧ (SqL K H' b ys ∨ SqT K H' b ys) := fun H' sm => by
          rcases h3 with ⟨q1, q2⟩ | ⟨q1, q2⟩
          · exact ⟨.inl (sm.seq q1), .inl (sm.seq q2)⟩
          · exact ⟨.inr (Same.sqt sm q1), .inr (Same.sqt sm q2)⟩
        refine ⟨.ref a, rfl, a, xs, rfl, (hq _ s1).1, .ref b, rfl, b, ys, rfl, (hq _ s1).2, rfl, _, rfl, ?_⟩
        rw [← h2, dec_self]
        refine iteT ?_
        have key : ∀ {H2 : Hp} {DD : Addr}, Same H H2 → H2 DD = some (.lst ((List.replicate xs.length true).map V.bl)) → rAll K [.ref DD] H2 fun v H3 => Q v H3 := fun {H2 DD} sm hD => by
          refine ⟨DD, _, rfl, .inl (.inl hD), ?_⟩
          rw [show (List.replicate xs.length true).all id = true by simp]
          exact q _ sm
        have turn : ∀ (DD : Addr) (i : Nat) (u v : V) (T : Addr) (H3 : Hp) , H DD = none → xs[i]? = some u → ys[i]? = some v → (Same H H3 ∧ H3 DD = some (.lst ((List.replicate i true).map V.bl))) → H3 T = none →
            spExact K n [u, v] (upd H3 T (.tup [u, v])) (fun y H4 => ∃ acc, H4 DD = some (.lst acc) ∧ acc.length < sizeLine ∧ (Same H (upd H4 DD (.lst (acc ++ [y]))) ∧ (upd H4 DD (.lst (acc ++ [y]))) DD = some (.lst ((List.replicate (i + 1) true).map V.bl)))) E0 := fun DD i u v T H3 hDn hu hv ⟨sm, hD⟩ hTn => by
          have sT : Same H3 (upd H3 T (.tup [u, v])) := same_upd hTn
          refine ⟨u, v, rfl, (h4 i u v hu hv).same (sm.trans sT), fun H4 s4 => ?_⟩
          have hi : i < xs.length := (List.getElem?_eq_some_iff.mp hu).1
          refine ⟨_, s4 _ _ (sT _ _ hD), ?_, fun c o e => ?_, ?_⟩
          · rw [List.length_map, List.length_replicate]
            have e : sizeLine = 16777216 := by decide
            omega
          · have hc : c ≠ DD := ne_of_none e hDn
            rw [upd_ne hc]
            exact s4 _ _ (sT _ _ (sm _ _ e))
          · rw [upd_same, List.replicate_succ', List.map_append]
            rfl
        refine ⟨.ref a, rfl, .ref b, rfl, a, b, xs, ys, rfl, ?_⟩
        rcases h3 with ⟨q1, q2⟩ | ⟨q1, q2⟩
        · refine .inl ⟨s1.seq q1, s1.seq q2, fun DD hD => ?_⟩
          have hDn : H DD = none := s1.free hD
          refine lc_zipL h2 (fun i H3 => Same H H3 ∧ H3 DD = some (.lst ((List.replicate i true).map V.bl))) ⟨s1.trans (same_upd hD), upd_same⟩ (fun i H3 z => ⟨z.1.seq q1, z.1.seq q2⟩) (fun i u v T H3 hu hv z hTn => ?_) (fun H3 z => key z.1 z.2)
          refine ⟨T, [u, v], rfl, .inl (.inl upd_same), rfl, u, [v], rfl, v, [], rfl, rfl, rfl, ?_⟩
          exact ⟨u, rfl, v, rfl, turn DD i u v T H3 hDn hu hv z hTn⟩
        · refine .inr ⟨Same.sqt s1 q1, Same.sqt s1 q2, fun DD hD => ?_⟩
          have hDn : H DD = none := s1.free hD
          refine lc_zipT h2 (fun i H3 => Same H H3 ∧ H3 DD = some (.lst ((List.replicate i true).map V.bl))) ⟨s1.trans (same_upd hD), upd_same⟩ (fun i H3 z => ⟨Same.sqt z.1 q1, Same.sqt z.1 q2⟩) (fun i u v T H3 hu hv z hTn => ?_) (fun H3 z => key z.1 z.2)
          refine ⟨T, [u, v], rfl, .inl (.inl upd_same), rfl, u, [v], rfl, v, [], rfl, rfl, rfl, ?_⟩
          exact ⟨u, rfl, v, rfl, turn DD i u v T H3 hDn hu hv z hTn⟩
/-! ### one of some -/
theorem sc_one_of : FnScope ["dice", "some"] ["dice", "some"] (defScope st__law_one_of) := ⟨rfl, rfl, rfl, by decide +kernel, rfl, by decide +kernel, by decide +kernel⟩
def spOne (K : PySem.W.Frag) : Sp := fun vs H Q _ => ∃ (d l : Addr) (n : Nat) (xs : List V), vs = [.ref d, .ref l] ∧ Dice H d n ∧ n < 2 ^ 59 ∧ l ≠ d ∧ SqL K H l xs ∧ 0 < xs.length ∧ xs.length < 100000 ∧ ∀ (i : Nat) (x : V) (H' : Hp), xs[i]? = some x → Dice H' d (n + 1) → Kept H H' d → Q x H'
theorem ok_one_of (B : Bi mg) (D : Df K mg "_law_one_of" st__law_one_of ["dice", "some"]) (CD : Cal P w K mg base 2 "_law_draw" ["dice", "many"] spDraw) : FnOk P w K mg base CX0 3 D.f D.fd ["dice", "some"] (spOne K) := by
  refine D.F.ok sc_one_of (fun vs H Q E h => ?_) (fun cdv A outer s H vs Q E hr h => ?_)
  · obtain ⟨d, l, n, xs, rfl, _⟩ := h
    rfl
  · obtain ⟨d, l, n, xs, rfl, hd, hn, hne, hl, h0, h1, q⟩ := h
    refine ⟨_, pss_one (ps_ret (pe_ix ix_list (pv 1) (pcall CD hr (by rfl) (pa_cons (pv 0) (pa_cons (pe_callB call_len_seq (by rfl) B.len PySem.boot_len (pa_cons (pv 1) pa_nil)) pa_nil))) (fun _ _ => rfl))), ?_⟩
    refine ⟨_, rfl, _, rfl, _, rfl, l, xs, rfl, .inl hl, d, _, n, rfl, hd, hn, by omega, by omega, fun r H' r0 r1 hD hk => ?_⟩
    have hi : r.toNat < xs.length := by omega
    have er : (r : Int) = ((r.toNat : Nat) : Int) := by omega
    refine ⟨l, xs, r, xs[r.toNat], rfl, rfl, hk.seq hne hl, ?_, ?_⟩
    · have z := atI_nat (List.getElem?_eq_getElem hi)
      rw [← er] at z
      exact z
    · exact q r.toNat _ _ (List.getElem?_eq_getElem hi) hD hk
/-! ### a dice -/
theorem sc_dice : FnScope ["script", "at", "seed"] ["script", "at"] (defScope st__law_dice) := ⟨rfl, rfl, rfl, by decide +kernel, rfl, by decide +kernel, by decide +kernel⟩
def spDice (K : PySem.W.Frag) : Sp := fun vs H Q _ => ∃ (a : Addr) (ns : List Int) (e : Int), vs = [.ref a, .int e] ∧ SqL K H a (ns.map V.int) ∧ 0 ≤ e ∧ e < 1000 ∧ ∀ (p : Addr) (H' : Hp), H p = none → Same H H' → Dice H' p 0 → Q (.ref p) H'
theorem ok_dice (B : Bi mg) (D : Df K mg "_law_dice" st__law_dice ["script", "at"]) : FnOk P w K mg base CX0 1 D.f D.fd ["script", "at"] (spDice K) := by
  refine D.F.ok sc_dice (fun vs H Q E h => ?_) (fun cdv A outer s H vs Q E hr h => ?_)
  · obtain ⟨a, ns, e, rfl, _⟩ := h
    rfl
  · obtain ⟨a, ns, e, rfl, hS, he0, he1, q⟩ := h
    refine ⟨_, pss_cons (ps_set (i := 2) sc_dice.nd rfl (.inl rfl) (pe_callB (cr_sum rfl) (by rfl) B.sum (by decide +kernel) (pa_cons (pe_slice sl_list (pv 0) (po_some (pv 1)) (po_some (pe_op op_add (pv 1) pe_int))) pa_nil)))
      (pss_one (ps_ret (pe_lst (pa_cons (pe_op op_mod (pe_callTy call_int1 (by rfl) B.int (by decide +kernel) (pa_cons (pe_callB (call_max2 rfl) (by rfl) B.max (by decide +kernel) (pa_cons (pe_op op_sub (pv 2) (pe_op op_pow pe_int pe_int)) (pa_cons pe_int pa_nil))) pa_nil)) (pe_op op_powW (pe_op op_pow pe_int pe_int) pe_int))
        (pa_cons (pe_op op_mod (pe_callTy call_int1 (by rfl) B.int (by decide +kernel) (pa_cons (pv 2) pa_nil)) pe_int) (pa_cons pe_int (pa_cons (pv 1) pa_nil))))))), ?_⟩
    refine ⟨_, rfl, _, rfl, _, rfl, _, rfl, _, _, rfl, rfl, _, rfl, a, _, rfl, hS, fun p hp => ?_⟩
    obtain ⟨ms, em⟩ := cutV_map V.int ns (some e) (some (e + 1))
    refine ⟨p, ms, rfl, .inl (.inl ?_), ?_⟩
    · rw [upd_same, ← em]
    refine ⟨_, rfl, _, _, rfl, rfl, ⟨by decide, by decide, by decide⟩, _, _, rfl, rfl, _, _, rfl, .inl ⟨_, rfl, _, _, rfl, rfl, ⟨by decide, by decide, by decide⟩, _, _, rfl, rfl, ⟨by decide, by decide +kernel⟩, _, _, rfl, rfl, (by show (0 : Int) < ((10 : Int) ^ (60 : Int).toNat) ^ (8 : Int).toNat; decide +kernel), ?_⟩⟩
    refine ⟨_, rfl, .inl ⟨_, rfl, _, _, rfl, rfl, (by show (0 : Int) < 2147483629; decide), _, rfl, (by show 4 ≤ sizeLine; decide), fun p2 hp2 => ?_⟩⟩
    have s1 : Same H (upd H p (.lst (cutV (ns.map V.int) (some e) (some (e + 1))))) := same_upd hp
    exact q p2 _ (s1.free hp2) (s1.trans (same_upd hp2)) ⟨_, _, _, _, upd_same, ⟨Int.le_refl _, Int.le_refl _⟩, by omega⟩
end
end K4
set_option Elab.async false
set_option linter.all false
set_option maxRecDepth 100000
set_option maxHeartbeats 4000000
namespace K4
open PySem PySem.Spec PyProof.Rows L2 K4M
section
variable {P : Program} {w : World} {K : PySem.W.Frag} {mg : Str → Option Value} {base : Heap}
theorem sc_dices : FnScope ["script", "few", "at"] ["script", "few"] (defScope st__law_dices) := ⟨rfl, rfl, rfl, by decide +kernel, rfl, by decide +kernel, by decide +kernel⟩
def spDices (K : PySem.W.Frag) : Sp := fun vs H Q _ => ∃ (a : Addr) (ns : List Int) (few : Int), vs = [.ref a, .int few] ∧ SqL K H a (ns.map V.int) ∧ few ≤ 10 ∧
  ∀ (L : Addr) (ds : List Addr) (H' : Hp), H L = none → Same H H' → H' L = some (.lst (ds.map V.ref)) → ds.length ≤ 10 → (∀ d ∈ ds, Dice H' d 0 ∧ H d = none) → ds.Nodup → Q (.ref L) H'
theorem ok_dices (B : Bi mg) (D : Df K mg "_law_dices" st__law_dices ["script", "few"]) (CD : Cal P w K mg base 1 "_law_dice" ["script", "at"] (spDice K)) : FnOk P w K mg base CX0 2 D.f D.fd ["script", "few"] (spDices K) := by
  refine D.F.ok sc_dices (fun vs H Q E h => ?_) (fun cdv A outer s H vs Q E hr h => ?_)
  · obtain ⟨a, ns, few, rfl, _⟩ := h
    rfl
  · obtain ⟨a, ns, few, rfl, hS, hf, q⟩ := h
    refine ⟨_, pss_one (ps_ret (pe_lc (own := [("at", 2)]) (g := gName 2) (tt := tYes) rfl sc_dices.nd
      (pi_range1 rfl B.range (pa_cons (pe_callB (call_max2 rfl) (by rfl) B.max (by decide +kernel) (pa_cons pe_int (pa_cons (pe_callB (call_min2 rfl) (by rfl) B.min (by decide +kernel) (pa_cons (pv 1) (pa_cons (pe_callB call_len_seq (by rfl) B.len PySem.boot_len (pa_cons (pv 0) pa_nil)) pa_nil))) pa_nil))) pa_nil))
      (blkOk_by (N := ["script", "few", "at"]) (sc := defScope st__law_dices) (by decide +kernel))
      (fun _ _ _ _ _ => pg_name (i := 2) sc_dices.nd rfl (.inl rfl))
      (fun _ _ _ _ _ => pts_nil)
      (fun _ _ _ _ _ => pcall CD hr (by rfl) (pa_cons (pv 0) (pa_cons (pv 2) pa_nil))))), ?_⟩
    refine ⟨_, rfl, .ref a, rfl, a, _, rfl, .inl hS, _, _, rfl, _, _, rfl, _, rfl, by split <;> (try split) <;> omega, by split <;> (try split) <;> omega, fun DD hD => ?_⟩
    have hc : ∀ c : Int, c ≤ 10 → c.toNat ≤ 10 := fun c h => by omega
    refine lc_range (lo := 0) (fun i H3 => ∃ ds : List Addr, ds.length = i ∧ Same H H3 ∧ H3 DD = some (.lst (ds.map V.ref)) ∧ (∀ d ∈ ds, Dice H3 d 0 ∧ H d = none) ∧ ds.Nodup)
      ⟨[], rfl, same_upd hD, upd_same, (fun _ h => by cases h), List.nodup_nil⟩ ?_ ?_
    · rintro i H3 hi ⟨ds, hl, sm, hDD, hds, nd⟩
      have hi10 : i < 10 := Nat.lt_of_lt_of_le hi (hc _ (by split <;> (try split) <;> omega))
      refine ⟨rfl, .ref a, rfl, .int (0 + i), rfl, a, ns, _, rfl, sm.seq hS, by omega, by omega, fun p H4 hp s4 hdi => ?_⟩
      have e16 : sizeLine = 16777216 := by decide
      have hpD : p ≠ DD := fun z => by
        rw [z, hDD] at hp
        cases hp
      refine ⟨ds.map V.ref, s4 _ _ hDD, by rw [List.length_map]; omega, ds ++ [p], by rw [List.length_append, hl]; rfl, fun c o e => ?_, ?_, fun d hd => ?_, ?_⟩
      · rw [upd_ne (ne_of_none e hD)]
        exact s4 _ _ (sm _ _ e)
      · rw [upd_same, List.map_append]
        rfl
      · rcases List.mem_append.mp hd with hd | hd
        · obtain ⟨x1, x2⟩ := hds d hd
          obtain ⟨a1, a2, a3, a4, e1, r⟩ := x1
          refine ⟨⟨a1, a2, a3, a4, ?_, r⟩, x2⟩
          rw [upd_ne]
          · exact s4 _ _ e1
          · intro z
            rw [z, hDD] at e1
            injection e1 with e1
            injection e1 with e1
            cases ds with
            | nil => cases hd
            | cons _ _ => simp at e1
        · rw [List.mem_singleton.mp hd]
          obtain ⟨a1, a2, a3, a4, e1, r⟩ := hdi
          refine ⟨⟨a1, a2, a3, a4, ?_, r⟩, sm.free hp⟩
          rw [upd_ne hpD]
          exact e1
      · rw [List.nodup_append]
        refine ⟨nd, List.nodup_cons.mpr ⟨List.not_mem_nil, List.nodup_nil⟩, fun x hx y hy => ?_⟩
        rw [List.mem_singleton.mp hy]
        intro z
        rw [z] at hx
        obtain ⟨o, ho⟩ := (hds p hx).1.some
        rw [hp] at ho
        cases ho
    · rintro H3 ⟨ds, hl, sm, hDD, hds, nd⟩
      refine q DD ds H3 hD sm hDD (by rw [hl]; exact hc _ (by split <;> (try split) <;> omega)) hds nd
/-! ### the checks -/
theorem sc_whole : FnScope ["value"] ["value"] (defScope st_is_whole_number) := ⟨rfl, rfl, rfl, by decide +kernel, rfl, by decide +kernel, by decide +kernel⟩
def spWhole : Sp := fun vs H Q _ => ∃ i : Int, vs = [.int i] ∧ Q (.bl true) H
theorem ok_whole (B : Bi mg) (D : Df K mg "is_whole_number" st_is_whole_number ["value"]) : FnOk P w K mg base CX0 1 D.f D.fd ["value"] spWhole := by
  refine D.F.ok sc_whole (fun vs H Q E h => ?_) (fun cdv A outer s H vs Q E hr h => ?_)
  · obtain ⟨i, rfl, _⟩ := h
    rfl
  · obtain ⟨i, rfl, q⟩ := h
    refine ⟨_, pss_one (ps_ret (pe_and (pe_callB call_isi (by rfl) B.isi (by decide +kernel) (pa_cons (pv 0) (pa_cons (pe_bltn (v := .ty "int") (by rfl) B.int (by decide +kernel) rfl) pa_nil)))
      (pe_one (pe_not (pe_callB call_isi (by rfl) B.isi (by decide +kernel) (pa_cons (pv 0) (pa_cons (pe_bltn (v := .ty "bool") (by rfl) B.bool (by decide +kernel) rfl) pa_nil))))))), ?_⟩
    have f : Flat (.int i) := True.intro
    refine ⟨_, rfl, .int i, _, _, _, true, rfl, .ty _, f.ty, f.kInt, _, rfl, iteT ?_⟩
    exact ⟨_, rfl, .int i, _, _, _, false, rfl, .ty _, f.ty, f.kBl, _, rfl, q⟩
theorem sc_count : FnScope ["value"] ["value"] (defScope st_is_count) := ⟨rfl, rfl, rfl, by decide +kernel, rfl, by decide +kernel, by decide +kernel⟩
def spCount : Sp := fun vs H Q _ => ∃ i : Int, vs = [.int i] ∧ 0 ≤ i ∧ Q (.bl true) H
theorem ok_count (B : Bi mg) (D : Df K mg "is_count" st_is_count ["value"]) (C : Cal P w K mg base 1 "is_whole_number" ["value"] spWhole) : FnOk P w K mg base CX0 2 D.f D.fd ["value"] spCount := by
  refine D.F.ok sc_count (fun vs H Q E h => ?_) (fun cdv A outer s H vs Q E hr h => ?_)
  · obtain ⟨i, rfl, _⟩ := h
    rfl
  · obtain ⟨i, rfl, h0, q⟩ := h
    refine ⟨_, pss_one (ps_ret (pe_and (pcall C hr (by rfl) (pa_cons (pv 0) pa_nil)) (pe_one (pe_cmpR op_ge (pv 0) pe_int (nomark _))))), ?_⟩
    refine ⟨_, rfl, i, rfl, _, rfl, iteT ?_⟩
    refine ⟨_, rfl, _, _, rfl, rfl, ?_⟩
    have e : decide ((0 : Int) ≤ i) = true := decide_eq_true h0
    exact (congrArg (fun b => Q (.bl b) H) e).mpr q
theorem sc_made : FnScope ["value", "signs"] ["value", "signs"] (defScope st_is_made_of) := ⟨rfl, rfl, rfl, by decide +kernel, rfl, by decide +kernel, by decide +kernel⟩
def spMade : Sp := fun vs H Q _ => ∃ (u : List Nat) (y : Str), vs = [.str (S u), .str y] ∧ u.length ≤ 100000 ∧ (∀ c ∈ u, y.cps.contains c = true) ∧ Q (.bl true) H
theorem ok_made (B : Bi mg) (D : Df K mg "is_made_of" st_is_made_of ["value", "signs"]) : FnOk P w K mg base CX0 1 D.f D.fd ["value", "signs"] spMade := by
  refine D.F.ok sc_made (fun vs H Q E h => ?_) (fun cdv A outer s H vs Q E hr h => ?_)
  · obtain ⟨u, y, rfl, _⟩ := h
    rfl
  · obtain ⟨u, y, rfl, hl, hc, q⟩ := h
    refine ⟨_, pss_one (ps_ret (pe_and (pe_callB call_isi (by rfl) B.isi (by decide +kernel) (pa_cons (pv 0) (pa_cons (pe_bltn (v := .ty "str") (by rfl) B.str (by decide +kernel) rfl) pa_nil)))
      (pe_one (pe_cmpR op_eq (pe_bm PySem.F.plainAttrs_str PySem.F.slot_str_strip PySem.F.type_str_strip mt_stripChars (pv 0) (pa_cons (pv 1) pa_nil)) pe_str (nomark _))))), ?_⟩
    have f : Flat (.str (S u)) := True.intro
    have e16 : sizeLine = 16777216 := by decide
    refine ⟨_, rfl, .str (S u), _, _, _, true, rfl, .ty _, f.ty, f.kStr, _, rfl, iteT ?_⟩
    refine ⟨_, rfl, rfl, _, rfl, S u, y, rfl, rfl, by rw [S_len]; omega, ?_⟩
    rw [strip_all hc]
    refine ⟨rfl, ?_⟩
    exact (congrArg (fun b => Q (.bl b) H) (decide_eq_true rfl)).mpr q
end
end K4
set_option Elab.async false
set_option linter.all false
set_option maxRecDepth 100000
set_option maxHeartbeats 4000000
namespace K4
open PySem PySem.Spec PyProof.Rows L2 K4M
abbrev LET : Str := Str.ofString "abcdefghijklmnopqrstuvwxyz"
def Low (u : List Nat) : Prop := ∀ c ∈ u, 97 ≤ c ∧ c ≤ 122
theorem low_has {c : Nat} (h1 : 97 ≤ c) (h2 : c ≤ 122) : LET.cps.contains c = true := by
  have all : ∀ k : Fin 26, LET.cps.contains (97 + k.val) = true := by decide +kernel
  have := all ⟨c - 97, by omega⟩
  rw [show 97 + (⟨c - 97, by omega⟩ : Fin 26).val = c by show 97 + (c - 97) = c; omega] at this
  exact this
theorem lp_unique {u : List Nat} (h : u ≠ []) {d : Nat} (h1 : 1 ≤ d) (h2 : d ≤ u.length) (h3 : ∀ j, 0 < j → j < d → had u j = false) (h4 : d < u.length → had u d = true) : lp u = d := by
  obtain ⟨a1, a2, a3, a4⟩ := lp_spec u h
  rcases Nat.lt_trichotomy (lp u) d with z | z | z
  · have x1 := a4 (by omega)
    rw [h3 _ (by omega) z] at x1
    cases x1
  · exact z
  · have x1 := h4 (by omega)
    rw [a1 _ (by omega) z] at x1
    cases x1
theorem bl_q {Q : VK} {H : Hp} {a b : Bool} (e : a = b) (q : Q (.bl b) H) : Q (.bl a) H := e ▸ q
theorem int_q {Q : VK} {H : Hp} {a b : Int} (e : a = b) (q : Q (.int b) H) : Q (.int a) H := e ▸ q
theorem pow_abs {s : Int} (h : s.natAbs < 2 ^ 100) : ∀ i : Nat, (s ^ i).natAbs < 2 ^ (100 * i + 1)
  | 0 => by simp
  | i + 1 => by
    rw [Int.pow_succ, Int.natAbs_mul, show 100 * (i + 1) + 1 = (100 * i + 1) + 100 by omega, Nat.pow_add]
    exact Nat.mul_lt_mul'' (pow_abs h i) h
section
variable {P : Program} {w : World} {K : PySem.W.Frag} {mg : Str → Option Value} {base : Heap}
def spText : Sp := fun vs H Q _ => ∃ u : List Nat, vs = [.str (S u)] ∧ u.length ≤ 100000 ∧ Low u ∧ Q (.bl true) H
def spWord : Sp := fun vs H Q _ => ∃ u : List Nat, vs = [.str (S u)] ∧ u.length ≤ 100000 ∧ Low u ∧ u ≠ [] ∧ Q (.bl true) H
def spCword : Sp := fun vs H Q _ => ∃ u : List Nat, vs = [.str (S u)] ∧ u.length ≤ 100000 ∧ Low u ∧ u ≠ [] ∧ Q .non H
theorem sc_cnum : FnScope ["value", "least"] ["value", "least"] (defScope st_check_number) := ⟨rfl, rfl, rfl, by decide +kernel, rfl, by decide +kernel, by decide +kernel⟩
def spCnum : Sp := fun vs H Q _ => ∃ i l : Int, vs = [.int i, .int l] ∧ 0 ≤ i ∧ l ≤ i ∧ Q .non H
theorem ok_cnum (D : Df K mg "check_number" st_check_number ["value", "least"]) (C : Cal P w K mg base 2 "is_count" ["value"] spCount) : FnOk P w K mg base CX0 3 D.f D.fd ["value", "least"] spCnum := by
  refine D.F.ok sc_cnum (fun vs H Q E h => ?_) (fun cdv A outer s H vs Q E hr h => ?_)
  · obtain ⟨i, l, rfl, _⟩ := h
    rfl
  · obtain ⟨i, l, rfl, h0, h1, q⟩ := h
    refine ⟨_, pss_one (ps_if (PW.pt (pw_or (pt_not (pt_val (pcall C hr (by rfl) (pa_cons (pv 0) pa_nil)))) (pw_or1 (pt_cmpR op_lt (pv 0) (pv 1) (nomark _))))) pss_never pss_nil), ?_⟩
    refine ⟨_, rfl, i, rfl, h0, _, rfl, iteF ?_⟩
    refine ⟨_, rfl, _, rfl, _, _, rfl, rfl, _, rfl, ?_⟩
    rw [decide_eq_false (show ¬ i < l by omega)]
    exact iteF q
/-! ### periods -/
theorem sc_had : FnScope ["text", "period"] ["text", "period"] (defScope st__is_had) := ⟨rfl, rfl, rfl, by decide +kernel, rfl, by decide +kernel, by decide +kernel⟩
def spHad : Sp := fun vs H Q _ => ∃ (u : List Nat) (p : Nat), vs = [.str (S u), .int (p : Int)] ∧ u.length ≤ 100000 ∧ Q (.bl (had u p)) H
theorem ok_had (D : Df K mg "_is_had" st__is_had ["text", "period"]) : FnOk P w K mg base CX0 1 D.f D.fd ["text", "period"] spHad := by
  refine D.F.ok sc_had (fun vs H Q E h => ?_) (fun cdv A outer s H vs Q E hr h => ?_)
  · obtain ⟨u, p, rfl, _⟩ := h
    rfl
  · obtain ⟨u, p, rfl, hl, q⟩ := h
    refine ⟨_, pss_one (ps_ret (pe_bm PySem.F.plainAttrs_str PySem.F.slot_str_startswith PySem.F.type_str_startswith mt_startswith (pv 0) (pa_cons (pe_slice sl_str (pv 0) (po_some (pv 1)) po_none) pa_nil))), ?_⟩
    have e16 : sizeLine = 16777216 := by decide
    refine ⟨_, rfl, rfl, _, rfl, _, rfl, p, rfl, S u, rfl, by rw [S_len]; omega, S u, _, rfl, rfl, ?_⟩
    rw [cut_drop, starts]
    exact q
def spLp : Sp := fun vs H Q _ => ∃ u : List Nat, vs = [.str (S u)] ∧ u.length ≤ 100000 ∧ Low u ∧ u ≠ [] ∧ Q (.int (lp u : Int)) H
def rootV (r : List Nat × Nat) : List V := [.str (S r.1), .int (r.2 : Int)]
def spRoot : Sp := fun vs H Q _ => ∃ u : List Nat, vs = [.str (S u)] ∧ u.length ≤ 100000 ∧ Low u ∧ u ≠ [] ∧ ∀ (p : Addr) (H' : Hp), H p = none → Same H H' → H' p = some (.tup (rootV (rootP u))) → Q (.ref p) H'
/-! ### powers -/
theorem sc_mwords : FnScope ["signs", "length", "many", "_"] ["signs", "length"] (defScope st_many_words) := ⟨rfl, rfl, rfl, by decide +kernel, rfl, by decide +kernel, by decide +kernel⟩
def spPow : Sp := fun vs H Q _ => ∃ (s : Int) (n : Nat), vs = [.int s, .int (n : Int)] ∧ s.natAbs < 2 ^ 100 ∧ n ≤ 1000 ∧ Q (.int (s ^ n)) H
theorem ok_mwords (B : Bi mg) (D : Df K mg "many_words" st_many_words ["signs", "length"]) : FnOk P w K mg base CX0 1 D.f D.fd ["signs", "length"] spPow := by
  refine D.F.ok sc_mwords (fun vs H Q E h => ?_) (fun cdv A outer s H vs Q E hr h => ?_)
  · obtain ⟨s, n, rfl, _⟩ := h
    rfl
  · obtain ⟨s, n, rfl, hs, hn, q⟩ := h
    refine ⟨_, pss_cons (ps_set (i := 2) sc_mwords.nd rfl (.inl rfl) pe_int)
      (pss_cons (ps_for PassesOwn.never rfl (pi_range1 (by rfl) B.range (pa_cons (pv 1) pa_nil)) (pg_name (i := 3) sc_mwords.nd rfl (.inl rfl)) (pss_one (ps_set (i := 2) sc_mwords.nd rfl (.inl rfl) (pe_op op_mulW (pv 2) (pv 0)))))
      (pss_one (ps_ret (pv 2)))), ?_⟩
    refine ⟨_, rfl, (n : Int), rfl, by omega, by omega, ?_⟩
    refine for_range (lo := 0) (n := (n : Int).toNat) (fun i σ H2 => H2 = H ∧ ∃ y : Option V, σ = [some (.int s), some (.int n), some (.int (s ^ i)), y]) ⟨rfl, none, by rw [Int.pow_zero]; rfl⟩ ?_ ?_
    · rintro i σ H2 hi ⟨rfl, y, rfl⟩
      refine ⟨_, rfl, _, rfl, _, _, rfl, rfl, wide_mul (pow_abs hs i) hs (by omega) (by decide) (by omega), rfl, some (.int (0 + (i : Int))), ?_⟩
      rw [Int.pow_succ]
      rfl
    · rintro σ H2 ⟨rfl, y, rfl⟩
      exact ⟨_, rfl, q⟩
theorem sc_power : FnScope ["base", "many", "found", "spin"] ["base", "many"] (defScope st__law_power) := ⟨rfl, rfl, rfl, by decide +kernel, rfl, by decide +kernel, by decide +kernel⟩
theorem ok_power (B : Bi mg) (D : Df K mg "_law_power" st__law_power ["base", "many"]) : FnOk P w K mg base CX0 1 D.f D.fd ["base", "many"] spPow := by
  refine D.F.ok sc_power (fun vs H Q E h => ?_) (fun cdv A outer s H vs Q E hr h => ?_)
  · obtain ⟨s, n, rfl, _⟩ := h
    rfl
  · obtain ⟨s, n, rfl, hs, hn, q⟩ := h
    refine ⟨_, pss_cons (ps_set (i := 2) sc_power.nd rfl (.inl rfl) pe_int)
      (pss_cons (ps_for PassesOwn.never rfl (pi_range1 (by rfl) B.range (pa_cons (pv 1) pa_nil)) (pg_name (i := 3) sc_power.nd rfl (.inl rfl)) (pss_one (ps_set (i := 2) sc_power.nd rfl (.inl rfl) (pe_op op_mulW (pv 2) (pv 0)))))
      (pss_one (ps_ret (pv 2)))), ?_⟩
    refine ⟨_, rfl, (n : Int), rfl, by omega, by omega, ?_⟩
    refine for_range (lo := 0) (n := (n : Int).toNat) (fun i σ H2 => H2 = H ∧ ∃ y : Option V, σ = [some (.int s), some (.int n), some (.int (s ^ i)), y]) ⟨rfl, none, by rw [Int.pow_zero]; rfl⟩ ?_ ?_
    · rintro i σ H2 hi ⟨rfl, y, rfl⟩
      refine ⟨_, rfl, _, rfl, _, _, rfl, rfl, wide_mul (pow_abs hs i) hs (by omega) (by decide) (by omega), rfl, some (.int (0 + (i : Int))), ?_⟩
      rw [Int.pow_succ]
      rfl
    · rintro σ H2 ⟨rfl, y, rfl⟩
      exact ⟨_, rfl, q⟩
end
end K4
set_option Elab.async false
set_option linter.all false
set_option maxRecDepth 100000
set_option maxHeartbeats 4000000
namespace K4
open PySem PySem.Spec PyProof.Rows L2 K4M
theorem lc_keys {d : Addr} {o : Obj} {kvs : List (Key × V)} {g : TG} {tt : TT} {te : TE} {vs : List Nat} {σ : L2.St} {H1 : Hp} {D : Addr} {Qd : Hp → Prop} (Pv : Nat → Hp → Prop) (h0 : Pv 0 (upd H1 D (.lst []))) (hf : ∀ i H, Pv i H → H d = some (.frz o (.dK kvs)))
    (hs : ∀ (i : Nat) (k : Key) (v : V) (H : Hp), kvs[i]? = some (k, v) → Pv i H → g (kV k) (wipe σ vs) H fun σ2 H2 => wipe σ2 vs = wipe σ vs ∧ tt σ2 H2 fun c H3 =>
      if c = true then te σ2 H3 fun y H4 => ∃ acc, H4 D = some (.lst acc) ∧ acc.length < sizeLine ∧ Pv (i + 1) (upd H4 D (.lst (acc ++ [y]))) else Pv (i + 1) H3) (hd : ∀ H, Pv kvs.length H → Qd H) :
    ∃ W : Nat → Nat → Hp → Prop, (∃ m, W 0 m (upd H1 D (.lst []))) ∧ ∀ i m H, W i m H →
      ((Itk d o kvs).stop i H ∧ Qd H) ∨ ((Itk d o kvs).go i H ∧ ∃ Nx : Hp → Prop, (∀ H', Nx H' → ∃ m', m' < m ∧ W (i + 1) m' H') ∧ ∀ x H', (Itk d o kvs).yld i H x H' → g x (wipe σ vs) H' fun σ2 H2 => wipe σ2 vs = wipe σ vs ∧ tt σ2 H2 fun c H3 =>
        if c = true then te σ2 H3 fun y H4 => ∃ acc, H4 D = some (.lst acc) ∧ acc.length < sizeLine ∧ Nx (upd H4 D (.lst (acc ++ [y]))) else Nx H3) := by
  refine ⟨fun i m H => m = kvs.length - i ∧ i ≤ kvs.length ∧ Pv i H, ⟨kvs.length, rfl, Nat.zero_le _, h0⟩, ?_⟩
  rintro i m H ⟨rfl, hi, p⟩
  by_cases hlt : i < kvs.length
  · refine .inr ⟨⟨hf i H p, hlt⟩, Pv (i + 1), fun H' p' => ⟨kvs.length - (i + 1), by omega, rfl, hlt, p'⟩, fun x H' y => ?_⟩
    obtain ⟨rfl, k, v, e, rfl⟩ := y
    exact hs i k v H' e p
  · have e : i = kvs.length := by omega
    subst e
    exact .inl ⟨⟨hf _ H p, Nat.le_refl _⟩, hd H p⟩
/-! ### tables of numbers -/
def tabl (s : Int) (l : List Nat) : List (Key × V) := l.map fun (d : Nat) => ((Sum.inl (d : Int) : Key), V.int (prims s d))
theorem tabl_get (s : Int) {d : Nat} : ∀ {l : List Nat}, d ∈ l → valV (tabl s l) (Sum.inl (d : Int)) = some (.int (prims s d))
  | e :: r, h => by
    show valV (((Sum.inl (e : Int) : Key), V.int (prims s e)) :: tabl s r) _ = _
    by_cases z : e = d
    · subst z
      rw [valV_pos rfl]
    · rw [valV_neg (fun q => z (Int.ofNat.inj (Sum.inl.inj q)))]
      rcases List.mem_cons.mp h with h | h
      · exact absurd h.symm z
      · exact tabl_get s h
theorem tabl_none (s : Int) {d : Nat} : ∀ {l : List Nat}, ¬ d ∈ l → valV (tabl s l) (Sum.inl (d : Int)) = none
  | [], _ => rfl
  | e :: r, h => by
    show valV (((Sum.inl (e : Int) : Key), V.int (prims s e)) :: tabl s r) _ = _
    rw [valV_neg (fun q => h (List.mem_cons.mpr (.inl (Int.ofNat.inj (Sum.inl.inj q)).symm)))]
    exact tabl_none s fun z => h (List.mem_cons_of_mem _ z)
theorem tabl_put (s : Int) {d : Nat} {l : List Nat} (h : ¬ d ∈ l) : putK (tabl s l) (Sum.inl (d : Int)) (.int (prims s d)) = tabl s (l ++ [d]) := by
  rw [putK_new _ (tabl_none s h)]
  unfold tabl
  rw [List.map_append]
  rfl
theorem tabl_len (s : Int) (l : List Nat) : (tabl s l).length = l.length := List.length_map _
theorem divs_len (n i : Nat) : (divs n i).length ≤ i := by
  have := List.length_filter_le (fun d => n % d == 0) (List.range' 1 i)
  rw [List.length_range'] at this
  exact this
theorem tabl_at {s : Int} {l : List Nat} {j : Nat} {k : Key} {v : V} (h : (tabl s l)[j]? = some (k, v)) : ∃ d : Nat, l[j]? = some d ∧ k = Sum.inl (d : Int) ∧ v = .int (prims s d) := by
  unfold tabl at h
  rw [List.getElem?_map] at h
  cases e : l[j]? with
  | none =>
    rw [e] at h
    cases h
  | some d =>
    rw [e] at h
    cases h
    exact ⟨d, rfl, rfl, rfl⟩
/-- the numbers of a list of words of ints -/
def numsV (l : List Int) : List V := l.map V.int
section
variable {P : Program} {w : World} {K : PySem.W.Frag} {mg : Str → Option Value} {base : Heap}
/-! ### many_primitives -/
theorem sc_prims : FnScope ["signs", "length", "many", "part", "shorter", "size"] ["signs", "length"] (defScope st_many_primitives) := ⟨rfl, rfl, rfl, by decide +kernel, rfl, by decide +kernel, by decide +kernel⟩
def spPrims : Sp := fun vs H Q _ => ∃ (s : Int) (n : Nat), vs = [.int s, .int (n : Int)] ∧ 1 ≤ s ∧ s.natAbs < 2 ^ 100 ∧ 1 ≤ n ∧ n ≤ 1000 ∧ ∀ H', Same H H' → Q (.int (prims s n)) H'
theorem ok_prims (B : Bi mg) (D : Df K mg "many_primitives" st_many_primitives ["signs", "length"]) (CN : Cal P w K mg base 3 "check_number" ["value", "least"] spCnum) (CW : Cal P w K mg base 1 "many_words" ["signs", "length"] spPow) :
    FnOk P w K mg base CX0 4 D.f D.fd ["signs", "length"] spPrims := by
  refine D.F.ok sc_prims (fun vs H Q E h => ?_) (fun cdv A outer s' H vs Q E hr h => ?_)
  · obtain ⟨s, n, rfl, _⟩ := h
    rfl
  · obtain ⟨s, n, rfl, hs1, hs2, hn1, hn2, q⟩ := h
    have hr1 : Room 1 _ := hr.mono (by decide)
    have hu := hu_of hr
    refine ⟨_, pss_cons (ps_expr (pcall CN hr (by rfl) (pa_cons (pv 0) (pa_cons pe_int pa_nil))))
      (pss_cons (ps_expr (pcall CN hr (by rfl) (pa_cons (pv 1) (pa_cons pe_int pa_nil))))
      (pss_cons (ps_set (i := 2) sc_prims.nd rfl (.inr rfl) pe_dnewK)
      (pss_cons (ps_for PassesOwn.never rfl (pi_range2 (by rfl) B.range (pa_cons pe_int (pa_cons (pe_op op_add (pv 1) pe_int) pa_nil))) (pg_name (i := 3) sc_prims.nd rfl (.inr rfl))
        (pss_one (ps_if (pt_cmpR op_eq (pe_op op_mod (pv 1) (pv 3)) pe_int (nomark _))
          (pss_cons (ps_lock (ps_setLc (i := 4) (own := [("size", 5)]) (g := gName 5) rfl sc_prims.nd rfl rfl (sw_true rfl rfl rfl (by decide +kernel)) (pi_keys (pv 2))
              (blkOk_by (N := ["signs", "length", "many", "part", "shorter", "size"]) (sc := defScope st_many_primitives) (by decide +kernel))
              (fun _ _ _ _ _ => pg_name (i := 5) sc_prims.nd rfl (.inl rfl))
              (fun _ _ _ _ _ => pts_one (pt_cmpR op_eq (pe_op op_mod (pv 3) (pv 5)) pe_int (nomark _)))
              (fun _ _ _ _ _ => pe_dget hu (pv 2) (pv 5) (fun _ _ => rfl))))
          (pss_one (ps_dput hu (pv 2) (pv 3) (pe_op op_sub (pcall CW hr1 (by rfl) (pa_cons (pv 0) (pa_cons (pv 3) pa_nil))) (pe_callB (cr_sum rfl) (by rfl) B.sum (by decide +kernel) (pa_cons (pv 4) pa_nil))) rfl)))
          pss_nil)))
      (pss_one (ps_ret (pe_dget hu (pv 2) (pv 1) (fun _ _ => rfl))))))), ?_⟩
    refine ⟨_, rfl, s, 1, rfl, by omega, hs1, _, rfl, n, 1, rfl, by omega, by omega, fun d hd => ?_⟩
    refine ⟨_, rfl, _, _, rfl, rfl, 1, (n : Int) + 1, rfl, ⟨by decide, by decide, by omega, by omega⟩, ?_⟩
    have e16 : sizeLine = 16777216 := by decide
    refine for_range (lo := 1) (n := ((n : Int) + 1 - 1).toNat) (fun i σ H2 => ∃ y3 y4 : Option V, σ = [some (.int s), some (.int n), some (.ref d), y3, y4, none] ∧ H2 d = some (.dK (tabl s (divs n i))) ∧ Same H H2)
      ⟨none, none, rfl, upd_same, same_upd hd⟩ ?_ ?_
    · rintro i σ H2 hi ⟨y3, y4, rfl, hd2, sm⟩
      have ei : (1 + (i : Int)) = ((i + 1 : Nat) : Int) := by omega
      refine ⟨_, rfl, _, rfl, _, _, rfl, rfl, by show (0 : Int) < 1 + (i : Int); omega, rfl, _, rfl, ?_⟩
      rw [dec_int, ei, int_mod_beq]
      by_cases hm : n % (i + 1) = 0
      · rw [hm]
        refine iteT ?_
        refine ⟨d, _, hd2, True.intro, fun od => ?_⟩
        refine ⟨_, rfl, d, od, rfl, .inl ⟨_, upd_same, fun DD hDD => ?_⟩⟩
        have hne : DD ≠ d := fun z => by
          rw [z, upd_same] at hDD
          cases hDD
        rw [upd_ne hne] at hDD
        refine lc_keys (d := d) (o := od) (kvs := tabl s (divs n i)) (fun j H3 => H3 d = some (.frz od (.dK (tabl s (divs n i)))) ∧ (∀ b o, H2 b = some o → b ≠ d → H3 b = some o) ∧ H3 DD = some (.lst (numsV ((((divs n i).take j).filter (fun e => (i + 1) % e == 0)).map (prims s)))))
          ⟨by rw [upd_ne hne.symm, upd_same], fun b o e hb => by rw [upd_ne (ne_of_none e hDD), upd_ne hb]; exact e, by rw [upd_same]; rfl⟩ (fun j H3 z => z.1) ?_ ?_
        · rintro j k v H3 hj ⟨k1, k2, k3⟩
          obtain ⟨e, he, rfl, rfl⟩ := tabl_at hj
          have hmem := List.mem_of_getElem? he
          have h0 := divs_mem.mp hmem
          refine ⟨rfl, _, rfl, _, rfl, _, _, rfl, rfl, by show (0 : Int) < (e : Int); omega, rfl, ?_⟩
          rw [dec_int, int_mod_beq]
          refine ⟨_, rfl, ?_⟩
          cases hb : ((i + 1) % e == 0) with
          | true =>
            refine iteT ?_
            refine ⟨_, rfl, _, rfl, d, _, rfl, .inl ⟨_, Sum.inl (e : Int), .inr ⟨od, k1⟩, rfl, (tabl_get s hmem).symm⟩, ?_⟩
            refine ⟨_, k3, ?_, ?_, fun b o eb hb' => ?_, ?_⟩
            · unfold numsV
              rw [List.length_map, List.length_map]
              have l1 := List.length_filter_le (fun e => (i + 1) % e == 0) ((divs n i).take j)
              have l2 := List.length_take_le j (divs n i)
              have l3 := divs_len n i
              have l4 : ((divs n i).take j).length ≤ (divs n i).length := by
                rw [List.length_take]
                omega
              omega
            · rw [upd_ne hne.symm]
              exact k1
            · rw [upd_ne (ne_of_none eb hDD)]
              exact k2 b o eb hb'
            · rw [upd_same, filter_take he, hb]
              unfold numsV
              rw [List.map_append, List.map_append]
              rfl
          | false =>
            refine iteF ⟨k1, k2, ?_⟩
            rw [k3, filter_take he, hb]
            simp
        · rintro H3 ⟨k1, k2, k3⟩
          refine ⟨k1, ?_⟩
          rw [tabl_len, List.take_length, divs_filter hm] at k3
          refine ⟨_, rfl, _, rfl, s, i + 1, rfl, hs2, by omega, _, rfl, DD, _, rfl, .inl (.inl (by rw [upd_ne hne]; exact k3)), _, _, rfl, rfl, ?_⟩
          have hnm : ¬ (i + 1) ∈ divs n i := fun z => by
            have := divs_mem.mp z
            omega
          have ep : s ^ (i + 1) - ((divs (i + 1) i).map (prims s)).sum = prims s (i + 1) := (prims_eq s (i + 1) (by omega)).symm
          refine ⟨_, rfl, _, rfl, d, _, rfl, .inl ⟨_, Sum.inl ((i + 1 : Nat) : Int), upd_same, rfl, by rw [tabl_len]; have := divs_len n i; omega, rfl⟩, ?_⟩
          refine ⟨some (.int ((i + 1 : Nat) : Int)), some (.ref DD), rfl, ?_, fun b o eb => ?_⟩
          · rw [upd_same, divs_succ_of hm]
            show some (HO.dK (putK (tabl s (divs n i)) (Sum.inl ((i + 1 : Nat) : Int)) (V.int (s ^ (i + 1) - ((divs (i + 1) i).map (prims s)).sum)))) = _
            rw [ep, tabl_put s hnm]
          · have hb : b ≠ d := ne_of_none eb hd
            rw [upd_ne hb, upd_ne hb]
            exact k2 b o (sm b o eb) hb
      · rw [beq_eq_false_iff_ne.mpr hm]
        refine iteF ⟨_, _, rfl, ?_, sm⟩
        rw [hd2, divs_succ_not hm]
    · rintro σ H2 ⟨y3, y4, rfl, hd2, sm⟩
      have en : ((n : Int) + 1 - 1).toNat = n := by omega
      rw [en] at hd2
      have hmem : n ∈ divs n n := divs_mem.mpr ⟨hn1, Nat.le_refl _, Nat.mod_self _⟩
      refine ⟨_, rfl, _, rfl, d, _, rfl, .inl ⟨_, Sum.inl (n : Int), .inl hd2, rfl, (tabl_get s hmem).symm⟩, q _ sm⟩
end
end K4
set_option Elab.async false
set_option linter.all false
set_option maxRecDepth 100000
set_option maxHeartbeats 4000000
namespace K4
open PySem PySem.Spec PyProof.Rows L2 K4M
/-! ### lists of letters -/
def letl : List Nat := List.range' 97 26
theorem letS : LET = S letl := by decide +kernel
theorem letl_at {r : Nat} (h : r < 26) : letl[r]? = some (97 + r) := by
  unfold letl
  rw [List.getElem?_range' h]
  congr 1
  omega
theorem letl_mem {c : Nat} : c ∈ letl ↔ 97 ≤ c ∧ c ≤ 122 := by
  unfold letl
  rw [List.mem_range'_1]
  omega
theorem letl_nodup : letl.Nodup := by unfold letl; exact List.nodup_range'
theorem sig_len (w : List Nat) : (signsV w).length = w.length := List.length_map _
theorem sig_at {w : List Nat} {i : Nat} {x : V} (h : (signsV w)[i]? = some x) : ∃ c, w[i]? = some c ∧ x = V.str (S [c]) := by
  unfold signsV at h
  rw [List.getElem?_map] at h
  cases e : w[i]? with
  | none => rw [e] at h; cases h
  | some c => rw [e] at h; exact ⟨c, rfl, (Option.some.inj h).symm⟩
theorem sig_app (u v : List Nat) : signsV (u ++ v) = signsV u ++ signsV v := List.map_append
theorem inV_sig (c : Nat) (w : List Nat) : inV (.str (S [c])) (signsV w) = w.contains c := by
  unfold inV signsV
  rw [List.any_map]
  rw [Bool.eq_iff_iff, List.any_eq_true, List.contains_iff_mem]
  constructor
  · rintro ⟨x, hx, h⟩
    have h2 : (S [x] == S [c]) = true := h
    have := S_inj (eq_of_beq h2)
    injection this with e1 _
    rw [← e1]
    exact hx
  · intro h
    exact ⟨c, h, beq_self_eq_true (S [c])⟩
theorem sig_flat (w : List Nat) : (signsV w).all flatV = true := by
  unfold signsV
  rw [List.all_map, List.all_eq_true]
  intro x _
  rfl
theorem filter_ne {found : List Nat} : ∀ (l : List Nat), l.Nodup → found.length < l.length → ∃ c r, l.filter (fun x => !found.contains x) = c :: r ∧ c ∈ l ∧ ¬ c ∈ found := by
  intro l nd hl
  cases e : l.filter (fun x => !found.contains x) with
  | cons c r =>
    have hm : c ∈ l.filter (fun x => !found.contains x) := by rw [e]; exact List.mem_cons_self ..
    rw [List.mem_filter] at hm
    refine ⟨c, r, rfl, hm.1, fun z => ?_⟩
    have := List.contains_iff_mem.mpr z
    rw [this] at hm
    exact absurd hm.2 Bool.false_ne_true
  | nil =>
    exfalso
    have all : ∀ x ∈ l, x ∈ found := fun x hx => by
      apply Classical.byContradiction
      intro hn
      have : x ∈ l.filter (fun x => !found.contains x) := by
        rw [List.mem_filter]
        refine ⟨hx, ?_⟩
        have : found.contains x = false := by
          rw [Bool.eq_false_iff]
          intro z
          exact hn (List.contains_iff_mem.mp z)
        rw [this]
        rfl
      rw [e] at this
      cases this
    have key : ∀ (l found : List Nat), l.Nodup → (∀ x ∈ l, x ∈ found) → l.length ≤ found.length := by
      intro l
      induction l with
      | nil => intro found _ _; exact Nat.zero_le _
      | cons x r ih =>
        intro found nd h
        rw [List.nodup_cons] at nd
        have hx := h x (List.mem_cons_self ..)
        have h1 := ih (found.erase x) nd.2 fun y hy => by
          have hyx : y ≠ x := fun z => nd.1 (z ▸ hy)
          exact (List.mem_erase_of_ne hyx).mpr (h y (List.mem_cons_of_mem _ hy))
        rw [List.length_erase_of_mem hx] at h1
        have hp : 0 < found.length := List.length_pos_of_mem hx
        rw [List.length_cons]
        omega
    have := key l found nd all
    omega
/-- texts of one sign each, in some order -/
theorem ones_of : ∀ {ys : List Str} {ls : List Nat}, (∀ y ∈ ys, ∃ c ∈ ls, y = S [c]) → ∃ ls' : List Nat, ys = ls'.map (fun c => S [c]) ∧ ∀ c ∈ ls', c ∈ ls
  | [], _, _ => ⟨[], rfl, fun _ h => nomatch h⟩
  | y :: r, ls, h => by
    obtain ⟨c, hc, e⟩ := h y (List.mem_cons_self ..)
    obtain ⟨ls', e', h'⟩ := ones_of (ys := r) (ls := ls) fun z hz => h z (List.mem_cons_of_mem _ hz)
    refine ⟨c :: ls', by rw [e, e']; rfl, fun d hd => ?_⟩
    rcases List.mem_cons.mp hd with rfl | hd
    · exact hc
    · exact h' d hd
theorem join_words (ws : List (List Nat)) : Txt.join Str.empty (ws.map S) = S ws.flatten := by
  show Builtin.Str.glued Str.empty (ws.map S) = _
  rw [StrLaws.glued_eq_join]
  have key : ∀ ws : List (List Nat), Str.join Str.empty (ws.map S) = S ws.flatten := fun ws => by
    induction ws with
    | nil => rfl
    | cons u r ih =>
      cases r with
      | nil =>
        show S u = S (u ++ [])
        rw [List.append_nil]
      | cons v r =>
        show (S u ++ Str.empty) ++ Str.join Str.empty ((v :: r).map S) = _
        rw [ih, S_empty, S_app, S_app, List.append_nil]
        rfl
  exact key ws
theorem flatten_ones (ls : List Nat) : (ls.map fun c => [c]).flatten = ls := by
  induction ls with
  | nil => rfl
  | cons c r ih => rw [List.map_cons, List.flatten_cons, ih]; rfl
theorem join_ones (ls : List Nat) : Txt.join Str.empty (ls.map fun c => S [c]) = S ls := by
  have := join_words (ls.map fun c => [c])
  rw [List.map_map, flatten_ones] at this
  exact this
theorem rising_le : ∀ (ls : List Nat) (p : Nat), risingS (S [p]) (ls.map fun c => S [c]) = true → (p :: ls).Pairwise (· ≤ ·)
  | [], p, _ => by simp
  | x :: r, p, h => by
    have h' : (!ltCps (S [x]).cps.toList (S [p]).cps.toList && risingS (S [x]) (r.map fun c => S [c])) = true := h
    rw [Bool.and_eq_true] at h'
    have ih := rising_le r x h'.2
    have hpx : p ≤ x := by
      have h1 : ltCps [x] [p] = false := by
        have := h'.1
        rw [Bool.not_eq_true'] at this
        exact this
      apply Nat.le_of_not_lt
      intro hlt
      have : ltCps [x] [p] = true := by
        simp [ltCps, hlt]
      rw [this] at h1
      cases h1
    rw [List.pairwise_cons]
    refine ⟨fun y hy => ?_, ih⟩
    rcases List.mem_cons.mp hy with rfl | hy
    · exact hpx
    · exact Nat.le_trans hpx ((List.pairwise_cons.mp ih).1 y hy)
theorem sorted_lt {ls : List Nat} (nd : ls.Nodup) (h : sortedS (ls.map fun c => S [c]) = true) : ls.Pairwise (· < ·) := by
  have hle : ls.Pairwise (· ≤ ·) := by
    cases ls with
    | nil => exact List.Pairwise.nil
    | cons x r => exact rising_le r x h
  have h2 : ls.Pairwise (fun a b => a ≠ b) := nd
  exact (List.Pairwise.and hle h2).imp fun {a b} z => by omega
end K4
set_option Elab.async false
set_option linter.all false
set_option maxRecDepth 100000
set_option maxHeartbeats 4000000
namespace K4
open PySem PySem.Spec PyProof.Rows L2 K4M
section
variable {P : Program} {w : World} {K : PySem.W.Frag} {mg : Str → Option Value} {base : Heap}
theorem Dice.ne {H : Hp} {d p : Addr} {n : Nat} (h : Dice H d n) (hp : H p = none) : p ≠ d := fun z => by
  obtain ⟨o, ho⟩ := h.some
  rw [← z, hp] at ho
  cases ho
/-! ### letters -/
theorem sc_letters : FnScope ["dice", "many", "found", "spin", "late", "sign"] ["dice", "many"] (defScope st__law_letters) := ⟨rfl, rfl, rfl, by decide +kernel, rfl, by decide +kernel, by decide +kernel⟩
def spLetters : Sp := fun vs H Q _ => ∃ (d : Addr) (m n : Nat), vs = [.ref d, .int (m : Int)] ∧ Dice H d n ∧ n < 2 ^ 58 ∧ m ≤ 26 ∧ ∀ (u : List Nat) (H' : Hp), u.length = m → Low u → u.Pairwise (· < ·) → Dice H' d (n + m) → Kept H H' d → Q (.str (S u)) H'
theorem ok_letters (B : Bi mg) (D : Df K mg "_law_letters" st__law_letters ["dice", "many"]) (CD : Cal P w K mg base 2 "_law_draw" ["dice", "many"] spDraw) : FnOk P w K mg base CX0 3 D.f D.fd ["dice", "many"] spLetters := by
  refine D.F.ok sc_letters (fun vs H Q E h => ?_) (fun cdv A outer s' H vs Q E hr h => ?_)
  · obtain ⟨d, m, n, rfl, _⟩ := h
    rfl
  · obtain ⟨d, m, n, rfl, hD, hn, hm, q⟩ := h
    refine ⟨_, pss_cons (ps_set (i := 2) sc_letters.nd rfl (.inr rfl) (pe_lst pa_nil))
      (pss_cons (ps_for PassesOwn.never rfl (pi_range1 (by rfl) B.range (pa_cons (pv 1) pa_nil)) (pg_name (i := 3) sc_letters.nd rfl (.inl rfl))
        (pss_cons (ps_set (i := 4) sc_letters.nd rfl (.inl rfl) (pe_ix ix_str pe_str (pcall CD hr (by rfl) (pa_cons (pv 0) (pa_cons pe_int pa_nil))) (fun _ _ => rfl)))
        (pss_one (ps_expr (pe_bm PySem.F.plainAttrs_list PySem.F.slot_list_append PySem.F.type_list_append mt_append (pv 2) (pa_cons (pe_ifExp (pt_cmpR op_notIn_seq (pv 4) (pv 2) rfl) (pv 4)
          (pe_ix ix_list (pe_lc (own := [("sign", 5)]) (g := gName 5) rfl sc_letters.nd (pi_list (pe_callTy (call_listS rfl) (by rfl) B.list (by decide +kernel) (pa_cons pe_str pa_nil)))
            (blkOk_by (N := ["dice", "many", "found", "spin", "late", "sign"]) (sc := defScope st__law_letters) (by decide +kernel))
            (fun _ _ _ _ _ => pg_name (i := 5) sc_letters.nd rfl (.inl rfl))
            (fun _ _ _ _ _ => pts_one (pt_cmpR (r := rIn K true) op_notIn_seq (pv 5) (pv 2) rfl))
            (fun _ _ _ _ _ => pv 5)) pe_int (fun _ _ => rfl))) pa_nil))))))
      (pss_one (ps_ret (pe_join pe_str (pe_callB cr_sortedS (by rfl) B.sorted (by decide +kernel) (pa_cons (pv 2) pa_nil)))))), ?_⟩
    have e16 : sizeLine = 16777216 := by decide
    refine ⟨Nat.zero_le _, fun F hF => ?_⟩
    have hFd : F ≠ d := hD.ne hF
    refine ⟨_, rfl, (m : Int), rfl, by omega, by omega, ?_⟩
    refine for_range (lo := 0) (n := (m : Int).toNat) (fun i σ H2 => ∃ (ls : List Nat) (y3 y4 : Option V), σ = [some (.ref d), some (.int m), some (.ref F), y3, y4, none] ∧ ls.length = i ∧ Low ls ∧ ls.Nodup ∧ H2 F = some (.lst (signsV ls)) ∧ Dice H2 d (n + i) ∧ ∀ b o, b ≠ d → b ≠ F → H b = some o → H2 b = some o)
      ⟨[], none, none, rfl, rfl, (fun _ h => by cases h), List.nodup_nil, upd_same, Same.dice (same_upd hF) hD, fun b o h1 h2 e => by rw [upd_ne h2]; exact e⟩ ?_ ?_
    · rintro i σ H2 hi ⟨ls, y3, y4, rfl, hl, hlow, hnd, hF2, hD2, kp⟩
      have hi26 : i < 26 := by omega
      refine ⟨_, rfl, d, 26, n + i, rfl, hD2, by omega, by decide, by decide, fun r H3 r0 r1 hD3 k3 => ?_⟩
      have er : r = ((r.toNat : Nat) : Int) := by omega
      have hr26 : r.toNat < 26 := by omega
      refine ⟨LET, r, 97 + r.toNat, rfl, rfl, by rw [letS, S_len]; show 26 ≤ sizeLine; decide, ?_, ?_⟩
      · have z := atI_nat (letl_at hr26)
        rw [← er] at z
        rw [letS]
        exact z
      have hF3 : H3 F = some (.lst (signsV ls)) := k3 _ _ hFd hF2
      have hSF : SqL K H3 F (signsV ls) := .inl (.inl hF3)
      have k3' : ∀ b o, b ≠ d → b ≠ F → H b = some o → H3 b = some o := fun b o h1 h2 e => k3 b o h1 (kp b o h1 h2 e)
      -- behind the choice of a letter c that is not there
      have put : ∀ (c : Nat) (H4 : Hp), 97 ≤ c → c ≤ 122 → ¬ c ∈ ls → Same H3 H4 → ∃ (ls' : List Nat) (y3 y4 : Option V), ([some (.ref d), some (.int m), some (.ref F), some (.int (0 + (i : Int))), some (.str (S [97 + r.toNat])), none] : L2.St) = [some (.ref d), some (.int m), some (.ref F), y3, y4, none] ∧ ls'.length = i + 1 ∧ Low ls' ∧ ls'.Nodup ∧ (upd H4 F (.lst (signsV ls ++ [.str (S [c])]))) F = some (.lst (signsV ls')) ∧ Dice (upd H4 F (.lst (signsV ls ++ [.str (S [c])]))) d (n + (i + 1)) ∧ ∀ b o, b ≠ d → b ≠ F → H b = some o → (upd H4 F (.lst (signsV ls ++ [.str (S [c])]))) b = some o := fun c H4 c1 c2 c3 s4 => by
        refine ⟨ls ++ [c], _, _, rfl, by rw [List.length_append, hl]; rfl, fun x hx => ?_, ?_, by rw [upd_same, sig_app]; rfl, ?_, fun b o h1 h2 e => ?_⟩
        · rcases List.mem_append.mp hx with hx | hx
          · exact hlow x hx
          · rw [List.mem_singleton.mp hx]
            exact ⟨c1, c2⟩
        · rw [List.nodup_append]
          refine ⟨hnd, List.nodup_cons.mpr ⟨List.not_mem_nil, List.nodup_nil⟩, fun x hx y hy => ?_⟩
          rw [List.mem_singleton.mp hy]
          intro z
          exact c3 (z ▸ hx)
        · obtain ⟨a1, a2, a3, a4, e1, r⟩ := Same.dice s4 hD3
          exact ⟨a1, a2, a3, a4, by rw [upd_ne hFd.symm]; exact e1, r⟩
        · rw [upd_ne h2]
          exact s4 _ _ (k3' b o h1 h2 e)
      refine ⟨_, rfl, .inl ⟨rfl, _, hSF⟩, ?_⟩
      refine ⟨_, rfl, _, rfl, F, _, rfl, .inl hSF, rfl, sig_flat _, _, rfl, ?_⟩
      rw [if_pos (show (true : Bool) = true from rfl)]
      show (if (!inV (.str (S [97 + r.toNat])) (signsV ls)) = true then _ else _)
      rw [inV_sig]
      cases hb : ls.contains (97 + r.toNat) with
      | false =>
        refine iteT ⟨_, rfl, F, _, _, rfl, rfl, hF3, by rw [sig_len]; omega, ?_⟩
        refine put _ H3 (by omega) (by omega) (fun z => ?_) (Same.refl _)
        rw [List.contains_iff_mem.mpr z] at hb
        cases hb
      | true =>
        refine iteF ?_
        refine ⟨letl, by rw [← letS], by show 26 ≤ 1000; decide, fun L hL => ?_⟩
        have s4 : Same H3 (upd H3 L (.lst (signsV letl))) := same_upd hL
        refine ⟨L, rfl, ⟨_, .inl (.inl upd_same)⟩, fun DD hD4 => ?_⟩
        have hD3' : H3 DD = none := s4.free hD4
        have hLD : L ≠ DD := fun z => by
          rw [← z, upd_same] at hD4
          cases hD4
        refine lc_list (K := K) (a := L) (xs := signsV letl) (fun j H5 => Same H3 H5 ∧ H5 L = some (.lst (signsV letl)) ∧ H5 DD = some (.lst (signsV ((letl.take j).filter fun x => !ls.contains x))))
          ⟨s4.trans (same_upd hD4), by rw [upd_ne hLD, upd_same], upd_same⟩ (fun j H5 _ z => .inl (.inl z.2.1)) ?_ ?_
        · rintro j x H5 hx ⟨t1, t2, t3⟩
          obtain ⟨c, hc, rfl⟩ := sig_at hx
          refine ⟨rfl, _, rfl, _, rfl, F, _, rfl, .inl (t1.seq hSF), rfl, sig_flat _, _, rfl, ?_⟩
          rw [if_pos (show (true : Bool) = true from rfl)]
          rw [inV_sig]
          refine ?_
          cases hb2 : ls.contains c with
          | false =>
            refine iteT ⟨_, rfl, _, t3, ?_, fun b o e => ?_, ?_, ?_⟩
            · rw [sig_len]
              have h1 := List.length_filter_le (fun x => !ls.contains x) (letl.take j)
              have h2 : (letl.take j).length ≤ 26 := by
                rw [List.length_take]
                show min j 26 ≤ 26
                omega
              omega
            · rw [upd_ne (ne_of_none e hD3')]
              exact t1 b o e
            · rw [upd_ne hLD]
              exact t2
            · rw [upd_same, filter_take hc, hb2]
              unfold signsV
              rw [List.map_append]
              rfl
          | true =>
            refine iteF ⟨t1, t2, ?_⟩
            rw [t3, filter_take hc, hb2]
            simp
        · rintro H5 ⟨t1, t2, t3⟩
          rw [sig_len, List.take_length] at t3
          obtain ⟨c, rr, ec, hcl, hcn⟩ := filter_ne (found := ls) letl letl_nodup (by show ls.length < 26; omega)
          rw [ec] at t3
          refine ⟨DD, _, 0, .str (S [c]), rfl, rfl, .inl (.inl t3), atI_nat (j := 0) rfl, F, _, _, rfl, rfl, t1 _ _ hF3, by rw [sig_len]; omega, ?_⟩
          have hcb := letl_mem.mp hcl
          exact put c H5 hcb.1 hcb.2 hcn t1
    · rintro σ H2 ⟨ls, y3, y4, rfl, hl, hlow, hnd, hF2, hD2, kp⟩
      have em : (m : Int).toNat = m := by omega
      rw [em] at hl hD2
      have e1 : signsV ls = (ls.map fun c => S [c]).map V.str := by
        unfold signsV
        rw [List.map_map]
        rfl
      refine ⟨⟨_, rfl⟩, _, rfl, F, ls.map (fun c => S [c]), rfl, .inl (.inl (by rw [hF2, e1])), by rw [List.length_map]; omega, fun ys p hperm hsort hp => ?_⟩
      obtain ⟨ls', e2, hsub⟩ := ones_of (ys := ys) (ls := ls) fun y hy => by
        obtain ⟨c, hc, e⟩ := List.mem_map.mp (hperm.mem_iff.mp hy)
        exact ⟨c, hc, e.symm⟩
      have hlen : ls'.length = ls.length := by
        have := hperm.length_eq
        rw [e2, List.length_map, List.length_map] at this
        exact this
      have hnd' : ls'.Nodup := by
        have h1 : (ls.map fun c => S [c]).Nodup := by
          rw [List.nodup_iff_pairwise_ne, List.pairwise_map]
          exact hnd.imp fun {a b} h z => h (by have := S_inj z; injection this)
        have h2 : ys.Nodup := hperm.nodup_iff.mpr h1
        rw [e2] at h2
        rw [List.nodup_iff_pairwise_ne, List.pairwise_map] at h2
        exact h2.imp fun {a b} h z => h (by rw [z])
      rw [e2] at hsort
      refine ⟨Str.empty, p, ys, rfl, rfl, .inl (.inl (.inl upd_same)), ?_, ?_⟩
      · rw [e2, List.map_map, List.length_map]
        have : (ls'.map ((fun x => x.length) ∘ fun c => S [c])).sum = ls'.length := by
          clear e2 hlen hnd' hsort hsub
          induction ls' with
          | nil => rfl
          | cons a r ih => rw [List.map_cons, List.sum_cons, ih, List.length_cons]; show 1 + _ = _; omega
        rw [this]
        show ls'.length + ls'.length * 0 ≤ 16777216
        omega
      · rw [e2, join_ones]
        refine q ls' _ (by omega) (fun c hc => hlow c (hsub c hc)) (sorted_lt hnd' hsort) (Same.dice (same_upd hp) hD2) fun b o hb e => ?_
        have hbF : b ≠ F := ne_of_none e hF
        rw [upd_ne (ne_of_none (kp b o hb hbF e) hp)]
        exact kp b o hb hbF e
end
end K4
set_option Elab.async false
set_option linter.all false
set_option maxRecDepth 100000
set_option maxHeartbeats 4000000
namespace K4
open PySem PySem.Spec PyProof.Rows L2 K4M
/-! ### grounds -/
def tabG : List (Nat × Nat) := [(2, 2), (3, 2), (2, 3), (4, 2), (5, 2), (2, 4), (3, 3)]
def tabM : List Nat := [2, 6, 12, 12, 20, 54, 72]
/-- what a ground of the law's may be, of so many own windows at most -/
def Good (most : Int) (g : Nat × Nat) : Prop := ∃ (j : Nat) (m : Nat), tabG[j]? = some g ∧ tabM[j]? = some m ∧ (m : Int) ≤ most
theorem Good.mem {most : Int} {g : Nat × Nat} (h : Good most g) : g ∈ tabG := by
  obtain ⟨j, m, h1, _⟩ := h
  exact List.mem_of_getElem? h1
theorem abcdefgh : Str.ofString "abcdefgh" = S (List.range' 97 8) := by decide +kernel
theorem pair_lt {k : Nat} (hk : k ≤ 8) : ((List.range' 97 8).take k).length = k ∧ Low ((List.range' 97 8).take k) ∧ ((List.range' 97 8).take k).Pairwise (· < ·) := by
  refine ⟨by rw [List.length_take, List.length_range']; omega, fun c hc => ?_, ?_⟩
  · have := List.mem_of_mem_take hc
    rw [List.mem_range'_1] at this
    omega
  · exact List.Pairwise.take (List.pairwise_lt_range')
section
variable {P : Program} {w : World} {K : PySem.W.Frag} {mg : Str → Option Value} {base : Heap}
theorem sc_ground : FnScope ["dice", "most", "some", "many", "signs", "gap", "at"] ["dice", "most"] (defScope st__law_ground) := ⟨rfl, rfl, rfl, by decide +kernel, rfl, by decide +kernel, by decide +kernel⟩
def spGround : Sp := fun vs H Q _ => ∃ (d : Addr) (most : Int) (n : Nat), vs = [.ref d, .int most] ∧ Dice H d n ∧ n < 2 ^ 57 ∧ 2 ≤ most ∧ ∀ (p : Addr) (H' : Hp) (u : List Nat) (g : Nat), H p = none → Kept H H' d → H' p = some (.tup [.str (S u), .int (g : Int)]) → Low u → u.Pairwise (· < ·) → Good most (u.length, g) → Dice H' d (n + 10) → Q (.ref p) H'
theorem ok_ground (B : Bi mg) (D : Df K mg "_law_ground" st__law_ground ["dice", "most"]) (CD : Cal P w K mg base 2 "_law_draw" ["dice", "many"] spDraw) (CO : Cal P w K mg base 3 "_law_one_of" ["dice", "some"] (spOne K)) (CL : Cal P w K mg base 3 "_law_letters" ["dice", "many"] spLetters) :
    FnOk P w K mg base CX0 4 D.f D.fd ["dice", "most"] spGround := by
  refine D.F.ok sc_ground (fun vs H Q E h => ?_) (fun cdv A outer s' H vs Q E hr h => ?_)
  · obtain ⟨d, m, n, rfl, _⟩ := h
    rfl
  · obtain ⟨d, most, n, rfl, hD, hn, hm, q⟩ := h
    have r2 : Room 2 _ := hr.mono (by decide)
    refine ⟨_, pss_cons (ps_set (i := 2) sc_ground.nd rfl (.inr rfl) (pe_lst (pa_cons (pe_tup (pa_cons pe_int (pa_cons pe_int pa_nil))) (pa_cons (pe_tup (pa_cons pe_int (pa_cons pe_int pa_nil))) (pa_cons (pe_tup (pa_cons pe_int (pa_cons pe_int pa_nil))) (pa_cons (pe_tup (pa_cons pe_int (pa_cons pe_int pa_nil))) (pa_cons (pe_tup (pa_cons pe_int (pa_cons pe_int pa_nil))) (pa_cons (pe_tup (pa_cons pe_int (pa_cons pe_int pa_nil))) (pa_cons (pe_tup (pa_cons pe_int (pa_cons pe_int pa_nil))) pa_nil)))))))))
      (pss_cons (ps_set (i := 3) sc_ground.nd rfl (.inr rfl) (pe_lst (pa_cons pe_int (pa_cons pe_int (pa_cons pe_int (pa_cons pe_int (pa_cons pe_int (pa_cons pe_int (pa_cons pe_int pa_nil)))))))))
      (pss_cons (ps_asg (pcall CO hr (by rfl) (pa_cons (pv 0) (pa_cons (pe_lc (own := [("at", 6)]) (g := gName 6) rfl sc_ground.nd (pi_range1 rfl B.range (pa_cons pe_int pa_nil))
          (blkOk_by (N := ["dice", "most", "some", "many", "signs", "gap", "at"]) (sc := defScope st__law_ground) (by decide +kernel))
          (fun _ _ _ _ _ => pg_name (i := 6) sc_ground.nd rfl (.inl rfl))
          (fun _ _ _ _ _ => pts_one (pt_cmpR op_le (pe_ix (r := rIxL K) ix_list (pv 3) (pv 6) (fun _ _ => rfl)) (pv 1) (nomark _)))
          (fun _ _ _ _ _ => pe_ix (r := rIxL K) ix_list (pv 2) (pv 6) (fun _ _ => rfl))) pa_nil)))
        (pg_tup rfl (pgs_cons (pg_name (i := 4) sc_ground.nd rfl (.inl rfl)) (pgs_cons (pg_name (i := 5) sc_ground.nd rfl (.inl rfl)) pgs_nil))))
      (pss_one (ps_ret (pe_tup (pa_cons (pe_ifExp (pt_cmpR op_eq (pcall CD r2 (by rfl) (pa_cons (pv 0) (pa_cons pe_int pa_nil))) pe_int (nomark _)) (pcall CL hr (by rfl) (pa_cons (pv 0) (pa_cons (pv 4) pa_nil))) (pe_slice sl_str pe_str po_none (po_some (pv 4)))) (pa_cons (pv 5) pa_nil))))))), ?_⟩
    have e16 : sizeLine = 16777216 := by decide
    have two : 2 ≤ sizeLine := by show 2 ≤ sizeLine; decide
    refine ⟨two, fun p0 h0 => ⟨two, fun p1 h1 => ⟨two, fun p2 h2 => ⟨two, fun p3 h3 => ⟨two, fun p4 h4 => ⟨two, fun p5 h5 => ⟨two, fun p6 h6 => ⟨by show 7 ≤ sizeLine; decide, fun L hL => ?_⟩⟩⟩⟩⟩⟩⟩⟩
    have s0 := same_upd (o := .tup [V.int 2, V.int 2]) h0
    have s1 := same_upd (o := .tup [V.int 3, V.int 2]) h1
    have s2 := same_upd (o := .tup [V.int 2, V.int 3]) h2
    have s3 := same_upd (o := .tup [V.int 4, V.int 2]) h3
    have s4 := same_upd (o := .tup [V.int 5, V.int 2]) h4
    have s5 := same_upd (o := .tup [V.int 2, V.int 4]) h5
    have s6 := same_upd (o := .tup [V.int 3, V.int 3]) h6
    have s7 := same_upd (o := .lst [V.ref p0, V.ref p1, V.ref p2, V.ref p3, V.ref p4, V.ref p5, V.ref p6]) hL
    refine ⟨by show 7 ≤ sizeLine; decide, fun M hM => ?_⟩
    have s8 := same_upd (o := .lst [V.int 2, V.int 6, V.int 12, V.int 12, V.int 20, V.int 54, V.int 72]) hM
    have t0 := s1.trans (s2.trans (s3.trans (s4.trans (s5.trans (s6.trans (s7.trans s8)))))) _ _ (upd_same (H := H) (a := p0) (o := .tup [V.int 2, V.int 2]))
    have t1 := (s2.trans (s3.trans (s4.trans (s5.trans (s6.trans (s7.trans s8)))))) p1 _ upd_same
    have t2 := (s3.trans (s4.trans (s5.trans (s6.trans (s7.trans s8))))) p2 _ upd_same
    have t3 := (s4.trans (s5.trans (s6.trans (s7.trans s8)))) p3 _ upd_same
    have t4 := (s5.trans (s6.trans (s7.trans s8))) p4 _ upd_same
    have t5 := (s6.trans (s7.trans s8)) p5 _ upd_same
    have t6 := (s7.trans s8) p6 _ upd_same
    have tL := s8 L _ upd_same
    have sA := s0.trans (s1.trans (s2.trans (s3.trans (s4.trans (s5.trans (s6.trans (s7.trans s8)))))))
    have tM : (upd (upd (upd (upd (upd (upd (upd (upd (upd H p0 (.tup [V.int 2, V.int 2])) p1 (.tup [V.int 3, V.int 2])) p2 (.tup [V.int 2, V.int 3])) p3 (.tup [V.int 4, V.int 2])) p4 (.tup [V.int 5, V.int 2])) p5 (.tup [V.int 2, V.int 4])) p6 (.tup [V.int 3, V.int 3])) L (.lst [V.ref p0, V.ref p1, V.ref p2, V.ref p3, V.ref p4, V.ref p5, V.ref p6])) M (.lst [V.int 2, V.int 6, V.int 12, V.int 12, V.int 20, V.int 54, V.int 72])) M = some (.lst [V.int 2, V.int 6, V.int 12, V.int 12, V.int 20, V.int 54, V.int 72]) := upd_same
    revert t0 t1 t2 t3 t4 t5 t6 tL tM sA
    generalize (upd (upd (upd (upd (upd (upd (upd (upd (upd H p0 (.tup [V.int 2, V.int 2])) p1 (.tup [V.int 3, V.int 2])) p2 (.tup [V.int 2, V.int 3])) p3 (.tup [V.int 4, V.int 2])) p4 (.tup [V.int 5, V.int 2])) p5 (.tup [V.int 2, V.int 4])) p6 (.tup [V.int 3, V.int 3])) L (.lst [V.ref p0, V.ref p1, V.ref p2, V.ref p3, V.ref p4, V.ref p5, V.ref p6])) M (.lst [V.int 2, V.int 6, V.int 12, V.int 12, V.int 20, V.int 54, V.int 72])) = H1
    intro t0 t1 t2 t3 t4 t5 t6 tL sA tM
    clear s0 s1 s2 s3 s4 s5 s6 s7 s8
    have hps : ∀ (j : Nat) (x : V), [V.ref p0, V.ref p1, V.ref p2, V.ref p3, V.ref p4, V.ref p5, V.ref p6][j]? = some x → ∃ (p : Addr) (g : Nat × Nat), x = .ref p ∧ tabG[j]? = some g ∧ H1 p = some (.tup [.int (g.1 : Int), .int (g.2 : Int)]) := fun j x hj => by
      match j, hj with
      | 0, hj => cases hj; exact ⟨p0, _, rfl, rfl, t0⟩
      | 1, hj => cases hj; exact ⟨p1, _, rfl, rfl, t1⟩
      | 2, hj => cases hj; exact ⟨p2, _, rfl, rfl, t2⟩
      | 3, hj => cases hj; exact ⟨p3, _, rfl, rfl, t3⟩
      | 4, hj => cases hj; exact ⟨p4, _, rfl, rfl, t4⟩
      | 5, hj => cases hj; exact ⟨p5, _, rfl, rfl, t5⟩
      | 6, hj => cases hj; exact ⟨p6, _, rfl, rfl, t6⟩
      | j + 7, hj => cases hj
    have hms : ∀ (j : Nat), j < 7 → ∃ m : Nat, [V.int 2, V.int 6, V.int 12, V.int 12, V.int 20, V.int 54, V.int 72][j]? = some (.int (m : Int)) ∧ tabM[j]? = some m ∧ (j = 0 → m = 2) := fun j hj => by
      match j, hj with
      | 0, _ => exact ⟨2, rfl, rfl, fun _ => rfl⟩
      | 1, _ => exact ⟨6, rfl, rfl, fun z => nomatch z⟩
      | 2, _ => exact ⟨12, rfl, rfl, fun z => nomatch z⟩
      | 3, _ => exact ⟨12, rfl, rfl, fun z => nomatch z⟩
      | 4, _ => exact ⟨20, rfl, rfl, fun z => nomatch z⟩
      | 5, _ => exact ⟨54, rfl, rfl, fun z => nomatch z⟩
      | 6, _ => exact ⟨72, rfl, rfl, fun z => nomatch z⟩
    generalize hpl : [V.ref p0, V.ref p1, V.ref p2, V.ref p3, V.ref p4, V.ref p5, V.ref p6] = pl at tL hps
    have hpl7 : pl.length = 7 := by rw [← hpl]; rfl
    generalize [V.int 2, V.int 6, V.int 12, V.int 12, V.int 20, V.int 54, V.int 72] = ml at tM hms
    refine ⟨_, rfl, 7, rfl, by decide, by decide, fun DD hD4 => ?_⟩
    have hDh : H DD = none := sA.free hD4
    refine lc_range (lo := 0) (n := (7 : Int).toNat) (fun i H3 => ∃ xs : List V, Same H1 H3 ∧ H3 DD = some (.lst xs) ∧ xs.length ≤ i ∧ (0 < i → 0 < xs.length) ∧ ∀ x ∈ xs, ∃ (p : Addr) (g : Nat × Nat), x = .ref p ∧ Good most g ∧ H1 p = some (.tup [.int (g.1 : Int), .int (g.2 : Int)]))
      ⟨[], same_upd hD4, upd_same, Nat.le_refl _, (fun h => absurd h (Nat.lt_irrefl _)), (fun _ h => by cases h)⟩ ?_ ?_
    · rintro i H3 hi ⟨xs, u1, u2, u3, u4, u5⟩
      have hi7 : i < 7 := hi
      obtain ⟨m, em, em2, em3⟩ := hms i hi7
      have hpi : i < pl.length := by omega
      obtain ⟨p, g, ep, eg, hp⟩ := hps i _ (List.getElem?_eq_getElem hpi)
      have ei : (0 + (i : Int)) = (i : Int) := by omega
      have ea : atI ml (0 + (i : Int)) = some (.int (m : Int)) := by rw [ei]; exact atI_nat em
      have eb : atI pl (0 + (i : Int)) = some (.ref p) := by rw [ei, ← ep]; exact atI_nat (List.getElem?_eq_getElem hpi)
      refine ⟨rfl, _, rfl, _, rfl, M, ml, _, _, rfl, rfl, .inl (.inl (u1 _ _ tM)), ea, _, rfl, _, _, rfl, rfl, _, rfl, ?_⟩
      by_cases hle : (m : Int) ≤ most
      · rw [decide_eq_true hle]
        refine iteT ⟨_, rfl, _, rfl, L, pl, _, _, rfl, rfl, .inl (.inl (u1 _ _ tL)), eb, xs, u2, by omega, xs ++ [.ref p], fun b o e => ?_, upd_same, by rw [List.length_append]; show xs.length + 1 ≤ i + 1; omega, fun _ => by rw [List.length_append]; show 0 < xs.length + 1; omega, fun x hx => ?_⟩
        · rw [upd_ne (ne_of_none e hD4)]
          exact u1 b o e
        · rcases List.mem_append.mp hx with hx | hx
          · exact u5 x hx
          · rw [List.mem_singleton.mp hx]
            exact ⟨p, g, rfl, ⟨i, m, eg, em2, hle⟩, hp⟩
      · rw [decide_eq_false hle]
        refine iteF ⟨xs, u1, u2, by omega, fun _ => u4 ?_, u5⟩
        rcases Nat.eq_zero_or_pos i with z | z
        · have := em3 z
          omega
        · exact z
    · rintro H3 ⟨xs, u1, u2, u3, u4, u5⟩
      have hD3 : Dice H3 d n := Same.dice (sA.trans u1) hD
      have hDd : DD ≠ d := hD.ne hDh
      have l7 : xs.length ≤ 7 := u3
      refine ⟨d, DD, n, xs, rfl, hD3, by omega, hDd, .inl (.inl u2), u4 (by decide), by omega, fun m x H4 hx hD4' k4 => ?_⟩
      obtain ⟨p, g, rfl, hg, hp⟩ := u5 x (List.mem_of_getElem? hx)
      have hgm := hg.mem
      have hg5 : 2 ≤ g.1 ∧ g.1 ≤ 5 := by
        have all : ∀ g ∈ tabG, 2 ≤ g.1 ∧ g.1 ≤ 5 := by decide
        exact all g hgm
      have kA : Kept H H4 d := (Kept.of (sA.trans u1)).trans k4
      have hpd : p ≠ d := fun z => by
        obtain ⟨a1, a2, a3, a4, e, _⟩ := Same.dice sA hD
        rw [← z, hp] at e
        cases e
      have hp4 : H4 p = some (.tup [.int (g.1 : Int), .int (g.2 : Int)]) := k4 _ _ hpd (u1 _ _ hp)
      refine ⟨p, _, rfl, .inl (.inl hp4), rfl, _, _, rfl, _, _, rfl, rfl, ?_⟩
      refine ⟨_, rfl, d, 2, n + 1, rfl, hD4', by omega, by decide, by decide, fun r H5 r0 r1 hD5 k5 => ⟨rfl, _, rfl, ?_⟩⟩
      refine ite2 (fun _ => ?_) (fun _ => ?_)
      · refine ⟨_, rfl, _, rfl, d, g.1, n + 2, rfl, hD5, by omega, by omega, fun u H6 hu1 hu2 hu3 hD6 k6 => ?_⟩
        refine ⟨_, rfl, two, fun p7 hp7 => ?_⟩
        have hk : Kept H (upd H6 p7 (.tup [.str (S u), .int (g.2 : Int)])) d := kA.trans (k5.trans (k6.trans (Kept.of (same_upd hp7))))
        have hp7n : H p7 = none := by
          cases e : H p7 with
          | none => rfl
          | some o =>
            have := (kA.trans (k5.trans k6)) p7 o (hD6.ne hp7) e
            rw [hp7] at this
            cases this
        refine q p7 _ u g.2 hp7n hk upd_same hu2 hu3 (by rw [hu1]; exact hg) ((Same.dice (same_upd hp7) hD6).more (by omega))
      · refine ⟨_, rfl, (g.1 : Int), rfl, Str.ofString "abcdefgh", rfl, by rw [abcdefgh, S_len]; show 8 ≤ sizeLine; decide, _, rfl, two, fun p7 hp7 => ?_⟩
        obtain ⟨v1, v2, v3⟩ := pair_lt (k := g.1) (by omega)
        have hp7n : H p7 = none := by
          cases e : H p7 with
          | none => rfl
          | some o =>
            have := (kA.trans k5) p7 o (hD5.ne hp7) e
            rw [hp7] at this
            cases this
        refine q p7 _ ((List.range' 97 8).take g.1) g.2 hp7n (kA.trans (k5.trans (Kept.of (same_upd hp7)))) ?_ v2 v3 (by rw [v1]; exact hg) ((Same.dice (same_upd hp7) hD5).more (by omega))
        rw [upd_same, abcdefgh, cut_take]
end
end K4
set_option Elab.async false
set_option linter.all false
set_option maxRecDepth 100000
set_option maxHeartbeats 4000000
namespace K4
open PySem PySem.Spec PyProof.Rows L2 K4M
theorem rep_mem {u : List Nat} {c : Nat} : ∀ {k : Nat}, c ∈ rep u k → c ∈ u
  | 0, h => by simp [rep] at h
  | k + 1, h => by
    rw [rep_succ] at h
    rcases List.mem_append.mp h with h | h
    · exact h
    · exact rep_mem h
/-- the words that are told of: signs w, of which the join is S w -/
theorem sig_strs (w : List Nat) : signsV w = (w.map fun c => S [c]).map V.str := by
  unfold signsV
  rw [List.map_map]
  rfl
theorem ones_sum (w : List Nat) : ((w.map fun c => S [c]).map fun x => x.length).sum = w.length := by
  induction w with
  | nil => rfl
  | cons a r ih =>
    rw [List.map_cons, List.map_cons, List.sum_cons, ih, List.length_cons]
    show 1 + _ = _
    omega
section
variable {P : Program} {w : World} {K : PySem.W.Frag} {mg : Str → Option Value} {base : Heap}
def spText0 (K : PySem.W.Frag) : Sp := fun vs H Q _ => ∃ (d g : Addr) (u : List Nat) (gap most n : Nat), vs = [.ref d, .ref g, .int (most : Int)] ∧ Dice H d n ∧ n < 2 ^ 50 ∧ g ≠ d ∧ H g = some (.tup [.str (S u), .int (gap : Int)]) ∧ u ≠ [] ∧ u.length ≤ 100 ∧ 1 ≤ gap ∧ gap ≤ 100 ∧ most ≤ 1000 ∧
  ∀ (x : List Nat) (H' : Hp), x.length ≤ most → (∀ c ∈ x, c ∈ u) → Dice H' d (n + 200 * (most + 1)) → Kept H H' d → Q (.str (S x)) H'
/-- the list of drawn signs that a comprehension makes -/
theorem drawn_turn {H0 H3 : Hp} {DD d sg : Addr} {u x : List Nat} {n i : Nat} (hD0 : H0 DD = none) (hsg : sg ≠ d) (hu : u ≠ []) (hul : u.length ≤ 100) (hi : i ≤ 1000) (hn : n < 2 ^ 51) (hxl : x.length = i) (hx : ∀ c ∈ x, c ∈ u) (hDD : H3 DD = some (.lst (signsV x))) (hD : Dice H3 d (n + i)) (hDd : DD ≠ d)
    (hs : H3 sg = some (.lst (signsV u))) (kp : ∀ b o, b ≠ d → H0 b = some o → H3 b = some o) (σ : L2.St) :
    spOne K [.ref d, .ref sg] H3 (fun y H4 => ∃ acc, H4 DD = some (.lst acc) ∧ acc.length < sizeLine ∧ ∃ x' : List Nat, x'.length = i + 1 ∧ (∀ c ∈ x', c ∈ u) ∧ (upd H4 DD (.lst (acc ++ [y]))) DD = some (.lst (signsV x')) ∧ Dice (upd H4 DD (.lst (acc ++ [y]))) d (n + (i + 1)) ∧ (∀ b o, b ≠ d → H0 b = some o → (upd H4 DD (.lst (acc ++ [y]))) b = some o)) E0 := by
  have e16 : sizeLine = 16777216 := by decide
  have hul0 : 0 < u.length := List.length_pos_iff.mpr hu
  refine ⟨d, sg, n + i, signsV u, rfl, hD, by omega, hsg, .inl (.inl hs), by rw [sig_len]; exact hul0, by rw [sig_len]; omega, fun m y H4 hm hD4 k4 => ?_⟩
  obtain ⟨c, hc, rfl⟩ := sig_at hm
  refine ⟨_, k4 _ _ hDd hDD, by rw [sig_len]; omega, x ++ [c], by rw [List.length_append, hxl]; rfl, fun z hz => ?_, by rw [upd_same, sig_app]; rfl, ?_, fun b o hb e => ?_⟩
  · rcases List.mem_append.mp hz with hz | hz
    · exact hx z hz
    · rw [List.mem_singleton.mp hz]
      exact List.mem_of_getElem? hc
  · obtain ⟨a1, a2, a3, a4, e1, r⟩ := hD4
    exact ⟨a1, a2, a3, a4, by rw [upd_ne hDd.symm]; exact e1, r⟩
  · rw [upd_ne (ne_of_none e hD0)]
    exact k4 b o hb (kp b o hb e)
end
end K4
set_option Elab.async false
set_option linter.all false
set_option maxRecDepth 100000
set_option maxHeartbeats 4000000
/-! windows that repeat, in rings -/
namespace K4M
def cy (w : List Nat) (p k n : Nat) : List Nat := (List.range n).map fun i => w.getD ((i + k) % p) 0
theorem cy_len (w : List Nat) (p k n : Nat) : (cy w p k n).length = n := by unfold cy; rw [List.length_map, List.length_range]
theorem cy_get {w : List Nat} {p k n i : Nat} (h : i < n) : (cy w p k n)[i]? = some (w.getD ((i + k) % p) 0) := by
  unfold cy
  rw [List.getElem?_map, List.getElem?_range h]
  rfl
theorem cy_getD {w : List Nat} {p k n i : Nat} (h : i < n) : (cy w p k n).getD i 0 = w.getD ((i + k) % p) 0 := by
  rw [List.getD_eq_getElem?_getD, cy_get h]
  rfl
theorem ext_getD {u v : List Nat} (hl : u.length = v.length) (h : ∀ i, i < u.length → u.getD i 0 = v.getD i 0) : u = v := by
  apply List.ext_getElem hl
  intro i h1 h2
  have := h i h1
  rw [List.getD_eq_getElem?_getD, List.getD_eq_getElem?_getD, List.getElem?_eq_getElem h1, List.getElem?_eq_getElem h2] at this
  exact this
theorem per_getD {w : List Nat} {p : Nat} : Per w p ↔ ∀ i, i + p < w.length → w.getD i 0 = w.getD (i + p) 0 := by
  constructor
  · intro h i hi
    rw [List.getD_eq_getElem?_getD, List.getD_eq_getElem?_getD, h i hi]
  · intro h i hi
    have := h i hi
    rw [List.getD_eq_getElem?_getD, List.getD_eq_getElem?_getD, List.getElem?_eq_getElem (by omega), List.getElem?_eq_getElem hi] at this
    rw [List.getElem?_eq_getElem (by omega), List.getElem?_eq_getElem hi]
    exact congrArg some this
theorem per_mod {w : List Nat} {p : Nat} (h0 : 0 < p) (hp : Per w p) : ∀ i, i < w.length → w.getD i 0 = w.getD (i % p) 0 := by
  intro i
  induction i using Nat.strongRecOn with
  | ind i ih =>
    intro hi
    by_cases h : i < p
    · rw [Nat.mod_eq_of_lt h]
    · have e := ih (i - p) (by omega) (by omega)
      have e2 := per_getD.mp hp (i - p) (by omega)
      rw [show i - p + p = i by omega] at e2
      rw [← e2, e, Nat.mod_eq_sub_mod (a := i) (by omega)]
theorem cy_zero {w : List Nat} {p : Nat} (h0 : 0 < p) (hp : Per w p) : cy w p 0 w.length = w := by
  refine ext_getD (cy_len ..) fun i hi => ?_
  rw [cy_len] at hi
  rw [cy_getD hi, Nat.add_zero, ← per_mod h0 hp i hi]
theorem cy_cy {w : List Nat} {p k j n : Nat} (h0 : 0 < p) (hn : p ≤ n) : cy (cy w p k n) p j n = cy w p (k + j) n := by
  refine ext_getD (by rw [cy_len, cy_len]) fun i hi => ?_
  rw [cy_len] at hi
  have hm := Nat.mod_lt (i + j) h0
  rw [cy_getD hi, cy_getD hi, cy_getD (by omega)]
  congr 1
  rw [Nat.mod_add_mod]
  congr 1
  omega
theorem cy_mod {w : List Nat} {p k n : Nat} : cy w p (k % p) n = cy w p k n := by
  refine ext_getD (by rw [cy_len, cy_len]) fun i hi => ?_
  rw [cy_len] at hi
  rw [cy_getD hi, cy_getD hi, Nat.add_mod_mod]
theorem cy_per {w : List Nat} {p k n : Nat} : Per (cy w p k n) p := by
  refine per_getD.mpr fun i hi => ?_
  rw [cy_len] at hi
  rw [cy_getD (by omega), cy_getD hi]
  congr 1
  rw [show i + p + k = i + k + p by omega, Nat.add_mod_right]
theorem cy_sub {w : List Nat} {p q k n : Nat} (h0 : 0 < p) (h1 : 0 < q) (hd : q ∣ p) (hq : Per w q) (hn : p ≤ w.length) : cy w p k n = cy w q k n := by
  refine ext_getD (by rw [cy_len, cy_len]) fun i hi => ?_
  rw [cy_len] at hi
  have hm := Nat.mod_lt (i + k) h0
  rw [cy_getD hi, cy_getD hi, per_mod h1 hq _ (by omega), Nat.mod_mod_of_dvd _ hd]
theorem lp_per {w : List Nat} (h : w ≠ []) : Per w (lp w) := by
  obtain ⟨_, a2, a3, a4⟩ := lp_spec w h
  rcases Nat.lt_or_eq_of_le a3 with z | z
  · exact (had_iff w _).mp (a4 z)
  · rw [z]
    exact per_all w
theorem lp_le {w : List Nat} (h : w ≠ []) {d : Nat} (h0 : 0 < d) (hd : Per w d) : lp w ≤ d := by
  obtain ⟨a1, a2, a3, a4⟩ := lp_spec w h
  rcases Nat.lt_or_ge d (lp w) with z | z
  · have := a1 d h0 z
    rw [(had_iff w d).mpr hd] at this
    cases this
  · exact z
theorem lp_pos {w : List Nat} (h : w ≠ []) : 0 < lp w := (lp_spec w h).2.1
theorem lp_dvd {w : List Nat} (h : w ≠ []) {d : Nat} (h0 : 0 < d) (hd : Per w d) (hl : lp w + d ≤ w.length) : lp w ∣ d :=
  per_dvd (lp_pos h) (lp_per h) (fun q q0 q1 hq => absurd (lp_le h q0 hq) (by omega)) d h0 hd hl
/-- w repeats at least twice -/
def Half (w : List Nat) : Prop := w ≠ [] ∧ 2 * lp w ≤ w.length
theorem ne_of_len {u v : List Nat} (h : u.length = v.length) (hv : v ≠ []) : u ≠ [] := fun z => hv (List.eq_nil_of_length_eq_zero (by rw [← h, z]; rfl))
theorem back {p k : Nat} (h : 0 < p) : (k + (p - k % p)) % p = 0 := by
  have := Nat.mod_lt k h
  have e := Nat.div_add_mod k p
  rw [show k + (p - k % p) = p * (k / p) + p by omega, Nat.add_mod_right, Nat.mul_mod_right]
theorem lp_cy {w : List Nat} {k : Nat} (H : Half w) : lp (cy w (lp w) k w.length) = lp w := by
  obtain ⟨h, h2⟩ := H
  have p0 := lp_pos h
  have hv := ne_of_len (cy_len w (lp w) k w.length) h
  have le := lp_le hv p0 cy_per
  have q0 := lp_pos hv
  have dv := lp_dvd hv p0 cy_per (by rw [cy_len]; omega)
  have e : cy (cy w (lp w) k w.length) (lp w) (lp w - k % lp w) w.length = w := by
    rw [cy_cy p0 (by omega), ← cy_mod, back p0]
    exact cy_zero p0 (lp_per h)
  have e2 := cy_sub (k := lp w - k % lp w) (n := w.length) p0 q0 dv (lp_per hv) (by rw [cy_len]; omega)
  rw [e2] at e
  have : Per w (lp (cy w (lp w) k w.length)) := by
    have z := @cy_per (cy w (lp w) k w.length) (lp (cy w (lp w) k w.length)) (lp w - k % lp w) w.length
    rw [e] at z
    exact z
  have := lp_le h q0 this
  omega
def ringL (w : List Nat) : List (List Nat) := (List.range (lp w)).map fun k => cy w (lp w) k w.length
theorem ring_mem {w v : List Nat} (h : w ≠ []) : v ∈ ringL w ↔ ∃ k, v = cy w (lp w) k w.length := by
  unfold ringL
  rw [List.mem_map]
  constructor
  · rintro ⟨k, _, rfl⟩
    exact ⟨k, rfl⟩
  · rintro ⟨k, rfl⟩
    exact ⟨k % lp w, List.mem_range.mpr (Nat.mod_lt _ (lp_pos h)), cy_mod⟩
theorem ring_self {w : List Nat} (h : w ≠ []) : w ∈ ringL w := (ring_mem h).mpr ⟨0, (cy_zero (lp_pos h) (lp_per h)).symm⟩
theorem ring_half {w v : List Nat} (H : Half w) (hv : v ∈ ringL w) : Half v ∧ lp v = lp w ∧ v.length = w.length := by
  obtain ⟨k, rfl⟩ := (ring_mem H.1).mp hv
  have e := lp_cy (k := k) H
  refine ⟨⟨ne_of_len (cy_len ..) H.1, ?_⟩, e, cy_len ..⟩
  rw [e, cy_len]
  exact H.2
theorem ring_trans {w v u : List Nat} (H : Half w) (hv : v ∈ ringL w) (hu : u ∈ ringL v) : u ∈ ringL w := by
  obtain ⟨Hv, e1, e2⟩ := ring_half H hv
  obtain ⟨k, rfl⟩ := (ring_mem H.1).mp hv
  obtain ⟨j, rfl⟩ := (ring_mem Hv.1).mp hu
  rw [e1, e2, cy_cy (lp_pos H.1) (by have := H.2; omega)]
  exact (ring_mem H.1).mpr ⟨_, rfl⟩
theorem ring_symm {w v : List Nat} (H : Half w) (hv : v ∈ ringL w) : w ∈ ringL v := by
  obtain ⟨Hv, e1, e2⟩ := ring_half H hv
  obtain ⟨k, rfl⟩ := (ring_mem H.1).mp hv
  refine (ring_mem Hv.1).mpr ⟨lp w - k % lp w, ?_⟩
  rw [e1, e2, cy_cy (lp_pos H.1) (by have := H.2; omega), ← cy_mod, back (lp_pos H.1)]
  exact (cy_zero (lp_pos H.1) (lp_per H.1)).symm
theorem cy_sign {w : List Nat} {p k n c : Nat} (h : c ∈ cy w p k n) (h0 : 0 < p) (hp : p ≤ w.length) : c ∈ w := by
  obtain ⟨i, _, rfl⟩ := List.mem_map.mp h
  have hm := Nat.mod_lt (i + k) h0
  rw [List.getD_eq_getElem?_getD, List.getElem?_eq_getElem (by omega)]
  exact List.getElem_mem _
/-- the words of a length, ascending -/
def wl (cs : List Nat) : Nat → List (List Nat)
  | 0 => [[]]
  | n + 1 => (wl cs n).flatMap fun w => cs.map fun c => w ++ [c]
theorem wl_mem {cs : List Nat} : ∀ {n : Nat} {w : List Nat}, w ∈ wl cs n ↔ w.length = n ∧ ∀ c ∈ w, c ∈ cs
  | 0, w => by
    constructor
    · intro h
      rw [List.mem_singleton.mp h]
      exact ⟨rfl, fun c hc => by cases hc⟩
    · intro h
      exact List.mem_singleton.mpr (List.eq_nil_of_length_eq_zero h.1)
  | n + 1, w => by
    unfold wl
    rw [List.mem_flatMap]
    constructor
    · rintro ⟨v, hv, hw⟩
      obtain ⟨c, hc, rfl⟩ := List.mem_map.mp hw
      obtain ⟨a, b⟩ := wl_mem.mp hv
      refine ⟨by rw [List.length_append, a]; rfl, fun d hd => ?_⟩
      rcases List.mem_append.mp hd with z | z
      · exact b d z
      · rw [List.mem_singleton.mp z]
        exact hc
    · rintro ⟨a, b⟩
      have hne : w ≠ [] := fun z => by rw [z] at a; cases a
      refine ⟨w.dropLast, wl_mem.mpr ⟨by rw [List.length_dropLast, a]; rfl, fun c hc => b c (List.dropLast_subset w hc)⟩, List.mem_map.mpr ⟨w.getLast hne, b _ (List.getLast_mem hne), List.dropLast_concat_getLast hne⟩⟩
theorem lt_snoc {u v : List Nat} (hl : u.length = v.length) (h : u < v) (x y : Nat) : u ++ [x] < v ++ [y] := by
  induction u generalizing v with
  | nil =>
    cases v with
    | nil => exact absurd h (List.lt_irrefl _)
    | cons b v => cases hl
  | cons a u ih =>
    cases v with
    | nil => cases hl
    | cons b v =>
      rw [List.cons_append, List.cons_append]
      rw [List.cons_lt_cons_iff] at h ⊢
      rcases h with z | ⟨z1, z2⟩
      · exact .inl z
      · exact .inr ⟨z1, ih (by simpa using hl) z2⟩
theorem snoc_lt (u : List Nat) {x y : Nat} (h : x < y) : u ++ [x] < u ++ [y] := by
  induction u with
  | nil => exact List.cons_lt_cons_iff.mpr (.inl h)
  | cons a u ih => exact List.cons_lt_cons_iff.mpr (.inr ⟨rfl, ih⟩)
theorem wl_sorted {cs : List Nat} (hc : cs.Pairwise (· < ·)) : ∀ n, (wl cs n).Pairwise (· < ·)
  | 0 => List.pairwise_singleton _ _
  | n + 1 => by
    unfold wl
    rw [List.flatMap_def, List.pairwise_flatten]
    refine ⟨fun l hl => ?_, ?_⟩
    · obtain ⟨w, _, rfl⟩ := List.mem_map.mp hl
      rw [List.pairwise_map]
      exact hc.imp fun h => snoc_lt w h
    · rw [List.pairwise_map]
      refine (wl_sorted hc n).imp_of_mem fun {u v} hu hv h => ?_
      intro a ha b hb
      obtain ⟨x, _, rfl⟩ := List.mem_map.mp ha
      obtain ⟨y, _, rfl⟩ := List.mem_map.mp hb
      exact lt_snoc (by rw [(wl_mem.mp hu).1, (wl_mem.mp hv).1]) h x y
end K4M
set_option Elab.async false
set_option linter.all false
set_option maxRecDepth 100000
set_option maxHeartbeats 4000000
namespace K4M
/-- the windows that repeat -/
def bad (cs : List Nat) (g : Nat) : List (List Nat) := (wl cs (2 * g - 2)).filter fun w => decide (lp w < g)
theorem bad_mem {cs : List Nat} {g : Nat} {w : List Nat} : w ∈ bad cs g ↔ (w.length = 2 * g - 2 ∧ ∀ c ∈ w, c ∈ cs) ∧ lp w < g := by
  unfold bad
  rw [List.mem_filter, wl_mem, decide_eq_true_eq]
theorem bad_half {cs : List Nat} {g : Nat} (hg : 2 ≤ g) {w : List Nat} (h : w ∈ bad cs g) : Half w := by
  obtain ⟨⟨h1, _⟩, h3⟩ := bad_mem.mp h
  exact ⟨fun z => by rw [z] at h1; simp at h1; omega, by omega⟩
theorem bad_sorted {cs : List Nat} {g : Nat} (hc : cs.Pairwise (· < ·)) : (bad cs g).Pairwise (· < ·) := (wl_sorted hc _).filter _
theorem ring_bad {cs : List Nat} {g : Nat} (hg : 2 ≤ g) {w v : List Nat} (h : w ∈ bad cs g) (hv : v ∈ ringL w) : v ∈ bad cs g := by
  have H := bad_half hg h
  obtain ⟨⟨h1, h2⟩, h3⟩ := bad_mem.mp h
  obtain ⟨_, e1, e2⟩ := ring_half H hv
  obtain ⟨k, rfl⟩ := (ring_mem H.1).mp hv
  refine bad_mem.mpr ⟨⟨by omega, fun c hc => h2 c (cy_sign hc (lp_pos H.1) (by have := H.2; omega))⟩, by omega⟩
/-- the least of its ring -/
def least (w : List Nat) : Bool := (ringL w).all fun v => !decide (v < w)
def rings (cs : List Nat) (g : Nat) : List (List (List Nat)) := ((bad cs g).filter least).map ringL
theorem least_false {w : List Nat} : least w = false ↔ ∃ v ∈ ringL w, v < w := by
  unfold least
  rw [List.all_eq_false]
  constructor
  · rintro ⟨v, h1, h2⟩
    exact ⟨v, h1, by simpa using h2⟩
  · rintro ⟨v, h1, h2⟩
    exact ⟨v, h1, by simpa using h2⟩
theorem least_eq {w m : List Nat} (h : w ≠ []) (hm : m ∈ ringL w) (hl : ∀ v ∈ ringL w, ¬ v < m) : (w == m) = least w := by
  cases e : least w with
  | false =>
    obtain ⟨v, h1, h2⟩ := least_false.mp e
    refine beq_eq_false_iff_ne.mpr fun z => hl v h1 (z ▸ h2)
  | true =>
    have h1 := List.all_eq_true.mp e m hm
    have h2 : ¬ m < w := by simpa using h1
    have h3 : ¬ w < m := hl w (ring_self h)
    exact beq_iff_eq.mpr (List.le_antisymm h2 h3)
theorem take_snoc {α : Type} {l : List α} {i : Nat} {x : α} (h : l[i]? = some x) : l.take (i + 1) = l.take i ++ [x] := by
  rw [List.take_add_one, h]
  rfl
theorem seen_step {cs : List Nat} {g i : Nat} {w : List Nat} (hc : cs.Pairwise (· < ·)) (hg : 2 ≤ g) (hw : (bad cs g)[i]? = some w) : (∃ u ∈ (bad cs g).take i, w ∈ ringL u) ↔ least w = false := by
  obtain ⟨hi, ew⟩ := List.getElem?_eq_some_iff.mp hw
  have wm : w ∈ bad cs g := List.mem_of_getElem? hw
  have srt := List.pairwise_iff_getElem.mp (bad_sorted (g := g) hc)
  rw [least_false]
  constructor
  · rintro ⟨u, hu, hwu⟩
    obtain ⟨j, hj, e⟩ := List.mem_iff_getElem.mp hu
    rw [List.length_take] at hj
    rw [List.getElem_take] at e
    have um : u ∈ bad cs g := e ▸ List.getElem_mem _
    refine ⟨u, ring_symm (bad_half hg um) hwu, ?_⟩
    rw [← e, ← ew]
    exact srt j i (by omega) hi (by omega)
  · rintro ⟨v, hv, hlt⟩
    have vm := ring_bad hg wm hv
    obtain ⟨j, hj, e⟩ := List.mem_iff_getElem.mp vm
    have hji : j < i := by
      rcases Nat.lt_trichotomy j i with z | z | z
      · exact z
      · subst z
        rw [← e, ← ew] at hlt
        exact absurd hlt (List.lt_irrefl _)
      · have := srt i j hi hj z
        rw [ew, e] at this
        exact absurd (List.lt_trans this hlt) (List.lt_irrefl _)
    refine ⟨v, List.mem_iff_getElem.mpr ⟨j, by rw [List.length_take]; omega, by rw [List.getElem_take]; exact e⟩, ring_symm (bad_half hg wm) hv⟩
theorem seen_more {cs : List Nat} {g i : Nat} {w k : List Nat} (hw : (bad cs g)[i]? = some w) : (∃ u ∈ (bad cs g).take (i + 1), k ∈ ringL u) ↔ (∃ u ∈ (bad cs g).take i, k ∈ ringL u) ∨ k ∈ ringL w := by
  rw [take_snoc hw]
  constructor
  · rintro ⟨u, hu, hk⟩
    rcases List.mem_append.mp hu with z | z
    · exact .inl ⟨u, z, hk⟩
    · exact .inr (List.mem_singleton.mp z ▸ hk)
  · rintro (⟨u, hu, hk⟩ | hk)
    · exact ⟨u, List.mem_append_left _ hu, hk⟩
    · exact ⟨w, List.mem_append_right _ (List.mem_singleton.mpr rfl), hk⟩
theorem seen_skip {cs : List Nat} {g i : Nat} {w k : List Nat} (hg : 2 ≤ g) (hs : ∃ u ∈ (bad cs g).take i, w ∈ ringL u) (hk : k ∈ ringL w) : ∃ u ∈ (bad cs g).take i, k ∈ ringL u := by
  obtain ⟨u, hu, hw⟩ := hs
  exact ⟨u, hu, ring_trans (bad_half hg (List.mem_of_mem_take hu)) hw hk⟩
theorem cy_next {w : List Nat} {p k n : Nat} (h0 : 0 < p) (hp : p ≤ n) : cy w p (k + 1) n = (cy w p k n).drop 1 ++ [(cy w p k n).getD (n - p) 0] := by
  refine ext_getD (by rw [List.length_append, List.length_drop, cy_len, cy_len, List.length_singleton]; omega) fun i hi => ?_
  rw [cy_len] at hi
  rw [cy_getD hi]
  by_cases h : i < n - 1
  · rw [List.getD_eq_getElem?_getD, List.getD_eq_getElem?_getD, List.getElem?_append_left (by rw [List.length_drop, cy_len]; omega), List.getElem?_drop, cy_get (by omega), show i + (k + 1) = 1 + i + k by omega, List.getD_eq_getElem?_getD]
    rfl
  · rw [List.getD_eq_getElem?_getD (l := _ ++ _), List.getElem?_append_right (by rw [List.length_drop, cy_len]; omega), List.length_drop, cy_len, show i - (n - 1) = 0 by omega]
    show _ = (cy w p k n).getD (n - p) 0
    rw [cy_getD (by omega)]
    congr 1
    rw [show i + (k + 1) = n - p + k + p by omega, Nat.add_mod_right]
theorem next_one {cs : List Nat} {g : Nat} (hg : 2 ≤ g) {w : List Nat} (hw : w ∈ bad cs g) {c : Nat} : w.drop 1 ++ [c] ∈ bad cs g ↔ c = w.getD (w.length - lp w) 0 := by
  have H := bad_half hg hw
  have p0 := lp_pos H.1
  obtain ⟨⟨h1, h2⟩, h3⟩ := bad_mem.mp hw
  constructor
  · intro hv
    have Hv := bad_half hg hv
    have q0 := lp_pos Hv.1
    obtain ⟨⟨g1, g2⟩, g3⟩ := bad_mem.mp hv
    have pv := per_getD.mp (lp_per Hv.1)
    generalize lp (w.drop 1 ++ [c]) = q at *
    have e1 := pv (w.length - 1 - q) (by rw [g1]; omega)
    rw [List.getD_eq_getElem?_getD, List.getD_eq_getElem?_getD, List.getElem?_append_left (by rw [List.length_drop]; omega), List.getElem?_append_right (by rw [List.length_drop]; omega), List.length_drop, show w.length - 1 - q + q - (w.length - 1) = 0 by omega] at e1
    have e2 : ((w.drop 1)[w.length - 1 - q]?).getD 0 = c := e1
    rw [← e2]
    by_cases hpq : lp w = q
    · rw [List.getElem?_drop, List.getD_eq_getElem?_getD, hpq, show 1 + (w.length - 1 - q) = w.length - q by omega]
    · have hu : w.drop 1 ≠ [] := fun z => by
        have := congrArg List.length z
        rw [List.length_drop] at this
        simp at this
        omega
      have lu : (w.drop 1).length = w.length - 1 := List.length_drop
      have hp : Per (w.drop 1) (lp w) := per_drop (lp_per H.1) 1
      have hq : Per (w.drop 1) q := per_getD.mpr fun i hi => by
        have := pv i (by rw [g1]; omega)
        rw [List.getD_eq_getElem?_getD, List.getD_eq_getElem?_getD, List.getElem?_append_left (by omega), List.getElem?_append_left (by omega)] at this
        rw [List.getD_eq_getElem?_getD, List.getD_eq_getElem?_getD]
        exact this
      have d0 := lp_pos hu
      have lep := lp_le hu p0 hp
      have leq := lp_le hu q0 hq
      have dp := lp_dvd hu p0 hp (by omega)
      have dq := lp_dvd hu q0 hq (by omega)
      have a1 := per_mod d0 (lp_per hu) (w.length - 1 - q) (by omega)
      have a2 := per_mod d0 (lp_per hu) (w.length - 1 - lp w) (by omega)
      have b1 : (w.length - 1 - q) % lp (w.drop 1) = (w.length - 1) % lp (w.drop 1) := by
        obtain ⟨m, em⟩ := dq
        rw [show w.length - 1 = w.length - 1 - q + lp (w.drop 1) * m by omega, Nat.add_mul_mod_self_left]
        congr 1
        omega
      have b2 : (w.length - 1 - lp w) % lp (w.drop 1) = (w.length - 1) % lp (w.drop 1) := by
        obtain ⟨m, em⟩ := dp
        rw [show w.length - 1 = w.length - 1 - lp w + lp (w.drop 1) * m by omega, Nat.add_mul_mod_self_left]
        congr 1
        omega
      rw [b1] at a1
      rw [b2, ← a1, List.getD_eq_getElem?_getD, List.getD_eq_getElem?_getD, List.getElem?_drop, show 1 + (w.length - 1 - lp w) = w.length - lp w by omega] at a2
      rw [← a2, List.getD_eq_getElem?_getD]
  · intro e
    have e1 := @cy_next w (lp w) 0 w.length p0 (by have := H.2; omega)
    rw [cy_zero p0 (lp_per H.1), ← e] at e1
    rw [← e1]
    exact ring_bad hg hw ((ring_mem H.1).mpr ⟨_, rfl⟩)
theorem filter_eq_one {cs : List Nat} (hn : cs.Nodup) {c : Nat} (hc : c ∈ cs) {f : Nat → Bool} (hf : ∀ x ∈ cs, f x = true ↔ x = c) : (cs.filter f).length = 1 := by
  induction cs with
  | nil => cases hc
  | cons a r ih =>
    obtain ⟨h1, h2⟩ := List.nodup_cons.mp hn
    rw [List.filter_cons]
    by_cases h : a = c
    · rw [if_pos ((hf a List.mem_cons_self).mpr h)]
      have : r.filter f = [] := by
        rw [List.filter_eq_nil_iff]
        intro x hx hfx
        have := (hf x (List.mem_cons_of_mem _ hx)).mp hfx
        exact h1 (h ▸ this ▸ hx)
      rw [this]
      rfl
    · rw [if_neg fun z => h ((hf a List.mem_cons_self).mp z)]
      exact ih h2 ((List.mem_cons.mp hc).resolve_left fun z => h z.symm) fun x hx => hf x (List.mem_cons_of_mem _ hx)
theorem one_next {cs : List Nat} {g : Nat} (hn : cs.Nodup) (hg : 2 ≤ g) {w : List Nat} (hw : w ∈ bad cs g) : ((cs.map fun c => w.drop 1 ++ [c]).filter fun v => (bad cs g).contains v).length = 1 := by
  rw [List.filter_map, List.length_map]
  have H := bad_half hg hw
  have := lp_pos H.1
  refine filter_eq_one hn (c := w.getD (w.length - lp w) 0) ?_ fun x _ => ?_
  · rw [List.getD_eq_getElem?_getD, List.getElem?_eq_getElem (by have := H.2; omega)]
    exact (bad_mem.mp hw).1.2 _ (List.getElem_mem _)
  · show (bad cs g).contains (w.drop 1 ++ [x]) = true ↔ _
    rw [List.contains_iff_mem]
    exact next_one hg hw
theorem ring_row {w : List Nat} {p at' : Nat} (h0 : 0 < p) (hp : p ≤ w.length) (ha : at' < p) : ((rep (w.take p) (w.length / p + 2)).drop at').take w.length = cy w p at' w.length := by
  have lt : (w.take p).length = p := by rw [List.length_take]; omega
  have lr : (rep (w.take p) (w.length / p + 2)).length = (w.length / p + 2) * p := by rw [rep_len, lt]
  have big : w.length + p ≤ (w.length / p + 2) * p := by
    have e := Nat.div_add_mod w.length p
    have := Nat.mod_lt w.length h0
    rw [Nat.add_mul, Nat.mul_comm (w.length / p) p]
    omega
  refine ext_getD (by rw [cy_len, List.length_take, List.length_drop, lr]; omega) fun i hi => ?_
  rw [List.length_take, List.length_drop, lr] at hi
  have hm := Nat.mod_lt (at' + i) h0
  rw [cy_getD (by omega), List.getD_eq_getElem?_getD, List.getElem?_take_of_lt (by omega), List.getElem?_drop, ← List.getD_eq_getElem?_getD]
  have e1 := per_mod h0 (lt ▸ rep_per (u := w.take p) (w.length / p + 2)) (at' + i) (by rw [lr]; omega)
  rw [e1, rep_succ, List.getD_eq_getElem?_getD, List.getElem?_append_left (by omega), List.getElem?_take_of_lt hm, Nat.add_comm at' i, List.getD_eq_getElem?_getD]
theorem dt_had {w : List Nat} {p : Nat} : (w.drop p == w.take (w.length - p)) = had w p := by
  unfold had
  rw [Bool.eq_iff_iff, beq_iff_eq, List.isPrefixOf_iff_prefix, List.prefix_iff_eq_take, List.length_drop]
theorem law_lp {w : List Nat} (h : w ≠ []) : ((List.range' 1 w.length).filter (fun p => w.drop p == w.take (w.length - p))).headD 0 = lp w := by
  obtain ⟨a1, a2, a3, a4⟩ := lp_spec w h
  refine headD_filter w.length 1 a2 (by omega) ?_ fun j h1 h2 => ?_
  · show (w.drop (lp w) == w.take (w.length - lp w)) = true
    rw [dt_had, had_iff]
    exact lp_per h
  · show (w.drop j == w.take (w.length - j)) = false
    rw [dt_had]
    exact a1 j h1 h2
theorem law_rep {w : List Nat} {g : Nat} (hw : w ≠ []) (hg : g ≤ w.length) : ((List.range' 1 (g - 1)).any fun p => w.drop p == w.take (w.length - p)) = decide (lp w < g) := by
  have p0 := lp_pos hw
  by_cases h : lp w < g
  · rw [decide_eq_true h, List.any_eq_true]
    refine ⟨lp w, List.mem_range'_1.mpr (by omega), ?_⟩
    rw [dt_had, had_iff]
    exact lp_per hw
  · rw [decide_eq_false h, List.any_eq_false]
    intro j hj
    have := List.mem_range'_1.mp hj
    rw [dt_had, (lp_spec w hw).1 j (by omega) (by omega)]
    exact Bool.false_ne_true
end K4M
set_option Elab.async false
set_option linter.all false
set_option maxRecDepth 100000
set_option maxHeartbeats 4000000
/-! own windows, counted -/
namespace K4M
def own (cs : List Nat) (g : Nat) : List (List Nat) := (wl cs (2 * g - 2)).filter fun w => !decide (lp w < g)
theorem per_map {f : Nat → Nat} {w : List Nat} {p : Nat} (hf : ∀ a ∈ w, ∀ b ∈ w, f a = f b → a = b) : Per (w.map f) p ↔ Per w p := by
  constructor
  · intro h i hi
    have := h i (by rw [List.length_map]; exact hi)
    rw [List.getElem?_map, List.getElem?_map, List.getElem?_eq_getElem (by omega), List.getElem?_eq_getElem hi] at this
    rw [List.getElem?_eq_getElem (by omega), List.getElem?_eq_getElem hi]
    exact congrArg some (hf _ (List.getElem_mem _) _ (List.getElem_mem _) (Option.some.inj this))
  · intro h i hi
    rw [List.length_map] at hi
    rw [List.getElem?_map, List.getElem?_map, h i hi]
theorem lp_map {f : Nat → Nat} {w : List Nat} (hf : ∀ a ∈ w, ∀ b ∈ w, f a = f b → a = b) : lp (w.map f) = lp w := by
  by_cases h : w = []
  · rw [h]
    rfl
  · have h2 : w.map f ≠ [] := fun z => h (List.map_eq_nil_iff.mp z)
    have a := lp_le h2 (lp_pos h) ((per_map hf).mpr (lp_per h))
    have b := lp_le h (lp_pos h2) ((per_map hf).mp (lp_per h2))
    omega
theorem wl_map (f : Nat → Nat) (cs : List Nat) : ∀ n, wl (cs.map f) n = (wl cs n).map (List.map f)
  | 0 => rfl
  | n + 1 => by
    show (wl (cs.map f) n).flatMap _ = ((wl cs n).flatMap _).map _
    rw [wl_map f cs n, List.map_flatMap, List.flatMap_map]
    congr 1
    funext w
    rw [List.map_map, List.map_map]
    congr 1
    funext c
    show List.map f w ++ [f c] = List.map f (w ++ [c])
    rw [List.map_append]
    rfl
theorem as_map (cs : List Nat) : cs = (List.range cs.length).map fun i => cs.getD i 0 := by
  apply List.ext_getElem
  · rw [List.length_map, List.length_range]
  · intro i h1 h2
    rw [List.getElem_map, List.getElem_range, List.getD_eq_getElem?_getD, List.getElem?_eq_getElem h1]
    rfl
theorem own_count {cs : List Nat} (hn : cs.Nodup) (g : Nat) : (own cs g).length = (own (List.range cs.length) g).length := by
  have e : own cs g = (own (List.range cs.length) g).map (List.map fun i => cs.getD i 0) := by
    unfold own
    have := wl_map (fun i => cs.getD i 0) (List.range cs.length) (2 * g - 2)
    rw [← as_map cs] at this
    rw [this, List.filter_map]
    congr 1
    refine List.filter_congr fun w hw => ?_
    show (!decide (lp (w.map fun i => cs.getD i 0) < g)) = _
    rw [lp_map]
    intro a ha b hb hab
    obtain ⟨_, hc⟩ := wl_mem.mp hw
    have la := List.mem_range.mp (hc a ha)
    have lb := List.mem_range.mp (hc b hb)
    rw [List.getD_eq_getElem?_getD, List.getD_eq_getElem?_getD, List.getElem?_eq_getElem la, List.getElem?_eq_getElem lb] at hab
    exact (List.getElem_inj hn).mp hab
  rw [e, List.length_map]
/-- how many own windows there are, as the program counts them -/
def manyOwn (k : Nat) (g : Nat) : Int := (k : Int) ^ (2 * g - 2) - ((List.range' 1 (g - 1)).map fun l => prims (k : Int) l).sum
theorem own_cases : ∀ kg ∈ ([(2, 2), (3, 2), (2, 3), (4, 2), (5, 2), (2, 4), (3, 3), (10, 2), (2, 5)] : List (Nat × Nat)), (((own (List.range kg.1) kg.2).length : Nat) : Int) = manyOwn kg.1 kg.2 := by decide +kernel
theorem own_many {cs : List Nat} {g : Nat} (hn : cs.Nodup) (h : (cs.length, g) ∈ ([(2, 2), (3, 2), (2, 3), (4, 2), (5, 2), (2, 4), (3, 3), (10, 2), (2, 5)] : List (Nat × Nat))) : (((own cs g).length : Nat) : Int) = manyOwn cs.length g := by
  rw [own_count hn]
  exact own_cases _ h
/-- the distances at which one window may lie behind another one -/
def dist (g : Nat) (x y : List Nat) : List Nat := (List.range' 1 (g - 1)).filter fun d => (x.drop d).isPrefixOf y
def near (g : Nat) (x y : List Nat) : Bool := dist g x y != [] || dist g y x != []
theorem dist_law {x y : List Nat} (h : x.length = y.length) (d : Nat) : (x.drop d == y.take (x.length - d)) = (x.drop d).isPrefixOf y := by
  rw [Bool.eq_iff_iff, beq_iff_eq, List.isPrefixOf_iff_prefix, List.prefix_iff_eq_take, List.length_drop]
/-- a window that is near itself repeats -/
theorem near_self {g : Nat} {x : List Nat} (hx : x ≠ []) : near g x x = decide (lp x < g) := by
  have e : near g x x = (dist g x x != []) := by unfold near; rw [Bool.or_self]
  rw [e]
  by_cases h : lp x < g
  · rw [decide_eq_true h, bne_iff_ne]
    intro z
    have : lp x ∈ dist g x x := by
      unfold dist
      rw [List.mem_filter, List.mem_range'_1]
      have := lp_pos hx
      exact ⟨by omega, (had_iff x (lp x)).mpr (lp_per hx)⟩
    rw [z] at this
    cases this
  · rw [decide_eq_false h]
    refine Bool.eq_false_iff.mpr fun z => ?_
    have z := bne_iff_ne.mp z
    obtain ⟨d, hd⟩ := List.exists_mem_of_ne_nil _ z
    unfold dist at hd
    rw [List.mem_filter, List.mem_range'_1] at hd
    have := lp_le hx (by omega) ((had_iff x d).mp hd.2)
    omega
end K4M
set_option Elab.async false
set_option linter.all false
set_option maxRecDepth 100000
set_option maxHeartbeats 4000000
namespace K4
open PySem PySem.Spec PyProof.Rows L2 K4M
section
variable {P : Program} {w : World} {K : PySem.W.Frag} {mg : Str → Option Value} {base : Heap}
/-! ### all words -/
/-- texts -/
def strsV (ws : List (List Nat)) : List V := ws.map fun u => V.str (S u)
def blsV (l : List Bool) : List V := l.map V.bl
theorem wl_eq (cs : List Nat) : ∀ n, wl cs n = wordsOf cs n
  | 0 => rfl
  | n + 1 => by
    show (wl cs n).flatMap _ = (wordsOf cs n).flatMap _
    rw [wl_eq cs n]
theorem words_len (cs : List Nat) : ∀ n, (wordsOf cs n).length = cs.length ^ n
  | 0 => rfl
  | n + 1 => by
    have : ∀ l : List (List Nat), (l.flatMap fun u => cs.map fun c => u ++ [c]).length = l.length * cs.length := fun l => by
      induction l with
      | nil => simp
      | cons a r ih => rw [List.flatMap_cons, List.length_append, ih, List.length_map, List.length_cons, Nat.add_mul, Nat.one_mul]; omega
    show ((wordsOf cs n).flatMap _).length = _
    rw [this, words_len cs n, Nat.pow_succ]
theorem flat_take {l : List (List Nat)} {cs : List Nat} {j : Nat} {u : List Nat} (h : l[j]? = some u) : (l.take (j + 1)).flatMap (fun u => cs.map fun c => u ++ [c]) = (l.take j).flatMap (fun u => cs.map fun c => u ++ [c]) ++ cs.map fun c => u ++ [c] := by
  rw [List.take_add_one, h, List.flatMap_append]
  congr 1
  simp
theorem flat_len (cs : List Nat) (l : List (List Nat)) : (l.flatMap fun u => cs.map fun c => u ++ [c]).length = l.length * cs.length := by
  induction l with
  | nil => simp
  | cons a r ih => rw [List.flatMap_cons, List.length_append, ih, List.length_map, List.length_cons, Nat.add_mul, Nat.one_mul]; omega
theorem sc_words : FnScope ["signs", "size", "found", "spin", "longer", "word", "sign"] ["signs", "size"] (defScope st__law_words_of) := ⟨rfl, rfl, rfl, by decide +kernel, rfl, by decide +kernel, by decide +kernel⟩
def spWords : Sp := fun vs H Q _ => ∃ (cs : List Nat) (n : Nat), vs = [.str (S cs), .int (n : Int)] ∧ 1 ≤ cs.length ∧ cs.length ≤ 26 ∧ n ≤ 1000 ∧ cs.length ^ n ≤ 5000 ∧ ∀ (L : Addr) (H' : Hp), H L = none → Same H H' → H' L = some (.lst (strsV (wl cs n))) → Q (.ref L) H'
theorem ok_words (B : Bi mg) (D : Df K mg "_law_words_of" st__law_words_of ["signs", "size"]) : FnOk P w K mg base CX0 1 D.f D.fd ["signs", "size"] spWords := by
  refine D.F.ok sc_words (fun vs H Q E h => ?_) (fun cdv A outer s' H vs Q E hr h => ?_)
  · obtain ⟨cs, n, rfl, _⟩ := h
    rfl
  · obtain ⟨cs, n, rfl, hc1, hc, hn, hp5, q⟩ := h
    refine ⟨_, pss_cons (ps_set (i := 2) sc_words.nd rfl (.inl rfl) (pe_lst (pa_cons pe_str pa_nil)))
      (pss_cons (ps_for PassesOwn.never rfl (pi_range1 (by rfl) B.range (pa_cons (pv 1) pa_nil)) (pg_name (i := 3) sc_words.nd rfl (.inl rfl))
        (pss_cons (ps_set (i := 4) sc_words.nd rfl (.inl rfl) (pe_lst pa_nil))
        (pss_cons (ps_for PassesOwn.never rfl (pi_list (pv 2)) (pg_name (i := 5) sc_words.nd rfl (.inr rfl))
          (pss_one (ps_set (i := 4) sc_words.nd rfl (.inl rfl) (pe_op op_cat (pv 4) (pe_lc (own := [("sign", 6)]) (g := gName 6) (tt := tYes) rfl sc_words.nd
            (pi_list (pe_callTy (call_listS rfl) (by rfl) B.list (by decide +kernel) (pa_cons (pv 0) pa_nil)))
            (blkOk_by (N := ["signs", "size", "found", "spin", "longer", "word", "sign"]) (sc := defScope st__law_words_of) (by decide +kernel))
            (fun _ _ _ _ _ => pg_name (i := 6) sc_words.nd rfl (.inl rfl))
            (fun _ _ _ _ _ => pts_nil)
            (fun _ _ _ _ _ => pe_op op_add_str (pv 5) (pv 6)))))))
        (pss_one (ps_set (i := 2) sc_words.nd rfl (.inl rfl) (pv 4))))))
      (pss_one (ps_ret (pv 2)))), ?_⟩
    have e16 : sizeLine = 16777216 := by decide
    refine ⟨(by show 1 ≤ sizeLine; decide), fun L0 hL0 => ?_⟩
    refine ⟨_, rfl, n, rfl, by omega, by omega, ?_⟩
    refine for_range (lo := 0) (n := (n : Int).toNat) (fun i σ H2 => ∃ (L : Addr) (y3 y4 y5 : Option V), σ = [some (.str (S cs)), some (.int n), some (.ref L), y3, y4, y5, none] ∧ H L = none ∧ Same H H2 ∧ H2 L = some (.lst (strsV (wordsOf cs i))))
      ⟨L0, none, none, none, rfl, hL0, same_upd hL0, upd_same⟩ ?_ ?_
    · rintro i σ H2 hi ⟨L, y3, y4, y5, rfl, hL, sm, hLs⟩
      refine ⟨Nat.zero_le _, fun L1 hL1 => ?_⟩
      have sm1 : Same H2 (upd H2 L1 (.lst [])) := same_upd hL1
      refine ⟨_, rfl, L, rfl, ⟨_, .inl (.inl (sm1 _ _ hLs))⟩, ?_⟩
      have hwl := words_len cs i
      have hpow : cs.length ^ i ≤ 5000 := Nat.le_trans (Nat.pow_le_pow_right hc1 (by omega)) hp5
      refine for_list (K := K) (a := L) (xs := strsV (wordsOf cs i)) (fun j σ H3 => ∃ (L' : Addr) (y5 : Option V), σ = [some (.str (S cs)), some (.int n), some (.ref L), some (.int (0 + (i : Int))), some (.ref L'), y5, none] ∧ H2 L' = none ∧ Same H2 H3 ∧ H3 L' = some (.lst (strsV (((wordsOf cs i).take j).flatMap fun u => cs.map fun c => u ++ [c]))))
        ⟨L1, y5, rfl, hL1, sm1, upd_same⟩ (fun j σ H3 _ ⟨_, _, _, _, s3, _⟩ => .inl (.inl (s3 _ _ hLs))) ?_ ?_
      · rintro j x σ H3 hj ⟨L', y5', rfl, hL', s3, hL's⟩
        unfold strsV at hj
        rw [List.getElem?_map] at hj
        obtain ⟨u, hu, rfl⟩ : ∃ u, (wordsOf cs i)[j]? = some u ∧ x = V.str (S u) := by
          cases e : (wordsOf cs i)[j]? with
          | none => rw [e] at hj; cases hj
          | some u => rw [e] at hj; exact ⟨u, rfl, (Option.some.inj hj).symm⟩
        obtain ⟨hul, huc⟩ := wordsOf_mem (List.mem_of_getElem? hu)
        have hjl : j < cs.length ^ i := by
          rw [← hwl]
          exact (List.getElem?_eq_some_iff.mp hu).1
        have jbound : ((((wordsOf cs i).take j).flatMap fun u => cs.map fun c => u ++ [c])).length ≤ 130000 := by
          rw [flat_len, List.length_take]
          have : min j (wordsOf cs i).length * cs.length ≤ 5000 * 26 := Nat.mul_le_mul (by omega) hc
          omega
        refine ⟨_, rfl, _, rfl, cs, rfl, by omega, fun Ls hLs' => ?_⟩
        have s4 : Same H3 (upd H3 Ls (.lst (signsV cs))) := same_upd hLs'
        refine ⟨Ls, rfl, ⟨_, .inl (.inl upd_same)⟩, fun DD hD => ?_⟩
        have hD3 : H3 DD = none := s4.free hD
        have hDL : DD ≠ Ls := fun z => by
          rw [z, upd_same] at hD
          cases hD
        have hLsD : Ls ≠ DD := hDL.symm
        refine lc_list (K := K) (a := Ls) (xs := signsV cs) (fun m H5 => Same H3 H5 ∧ H5 Ls = some (.lst (signsV cs)) ∧ H5 DD = some (.lst (strsV ((cs.take m).map fun c => u ++ [c]))))
          ⟨s4.trans (same_upd hD), by rw [upd_ne hLsD, upd_same], upd_same⟩ (fun m H5 _ z => .inl (.inl z.2.1)) ?_ ?_
        · rintro m x H5 hm ⟨t1, t2, t3⟩
          unfold signsV at hm
          rw [List.getElem?_map] at hm
          obtain ⟨c, hcm, rfl⟩ : ∃ c, cs[m]? = some c ∧ x = V.str (S [c]) := by
            cases e : cs[m]? with
            | none => rw [e] at hm; cases hm
            | some c => rw [e] at hm; exact ⟨c, rfl, (Option.some.inj hm).symm⟩
          have hml : m < cs.length := (List.getElem?_eq_some_iff.mp hcm).1
          refine ⟨rfl, _, rfl, _, rfl, _, _, rfl, rfl, by rw [S_len, S_len, hul]; show i + 1 ≤ _; omega, ?_⟩
          refine ⟨_, t3, ?_, fun b o e => ?_, ?_, ?_⟩
          · unfold strsV
            rw [List.length_map, List.length_map, List.length_take]
            omega
          · rw [upd_ne (ne_of_none e hD3)]
            exact t1 b o e
          · rw [upd_ne hLsD]
            exact t2
          · rw [upd_same, S_app, List.take_add_one, hcm]
            unfold strsV
            rw [List.map_append, List.map_append]
            rfl
        · rintro H5 ⟨t1, t2, t3⟩
          have lsv : (signsV cs).length = cs.length := by
            unfold signsV
            rw [List.length_map]
          rw [lsv, List.take_length] at t3
          refine ⟨_, _, _, _, rfl, rfl, t1 _ _ hL's, t3, ?_, fun p hp => ?_⟩
          · unfold strsV
            rw [List.length_map, List.length_map, List.length_map]
            omega
          · refine ⟨p, some (.str (S u)), rfl, s3.free (t1.free hp), fun b o e => ?_, ?_⟩
            · rw [upd_ne (ne_of_none (t1 _ _ (s3 _ _ e)) hp)]
              exact t1 _ _ (s3 _ _ e)
            · rw [upd_same, flat_take hu]
              unfold strsV
              rw [List.map_append]
      · rintro σ H3 ⟨L', y5', rfl, hL', s3, hL's⟩
        have lsv : (strsV (wordsOf cs i)).length = (wordsOf cs i).length := by
          unfold strsV
          rw [List.length_map]
        rw [lsv, List.take_length] at hL's
        exact ⟨_, rfl, L', some (.int (0 + (i : Int))), some (.ref L'), y5', rfl, sm.free hL', sm.trans s3, hL's⟩
    · rintro σ H2 ⟨L, y3, y4, y5, rfl, hL, sm, hLs⟩
      rw [show ((n : Int).toNat) = n by omega, ← wl_eq] at hLs
      exact ⟨_, rfl, q L H2 hL sm hLs⟩
end
end K4
set_option Elab.async false
set_option linter.all false
set_option maxRecDepth 100000
set_option maxHeartbeats 4000000
namespace K4
open PySem PySem.Spec PyProof.Rows L2 K4M K4S
/-! ### grounds -/
/-- what the top has made of the class -/
structure Gr (K : PySem.W.Frag) (mg : Str → Option Value) (C : Addr) : Prop where
  cl : Cls K C
  nS : NoAttr K C "_signs"
  nG : NoAttr K C "_gap"
  g : mg "Ground" = some (.ref C)
  ha : PySem.W.findIn K (.ref C) "__class__" = some (some (.builtin "object.__class__"))
  hn : PySem.W.specialIn K (.builtin "object.__class__") "__get__" = some (some (.builtin "getset_descriptor.__get__"))
  htk : PySem.W.takesIn K (.builtin "object.__class__") = some true
  hm : PySem.W.mroIn K C (.type "object") = some true
  ki : PySem.W.kitOne K (.ref C) (.ref C) = some true
/-- a method: where it stands, and its promise -/
structure Mt (P : Program) (w : World) (K : PySem.W.Frag) (mg : Str → Option Value) (base : Heap) (C : Addr) (k : Nat) (m : Str) (ps : List Str) (sp : Sp) where
  f : Addr
  fd : FuncData
  ok : FnOk P w K mg base CX0 k f fd ps sp
  me : Meth K C m f
  b : Binds K fd ps []
structure Dm (K : PySem.W.Frag) (C : Addr) (m q : Str) (st : Stmt) (ps : List Str) where
  f : Addr
  fd : FuncData
  F : Fun K m q st f fd
  me : Meth K C m f
  b : Binds K fd ps []
/-- the class's maker -/
structure Di (K : PySem.W.Frag) (C : Addr) (q : Str) (st : Stmt) (ps : List Str) where
  f : Addr
  fd : FuncData
  F : Fun K "__init__" q st f fd
  mm : Mk K C f
  b : Binds K fd ps []
structure Ma (P : Program) (w : World) (K : PySem.W.Frag) (mg : Str → Option Value) (base : Heap) (C : Addr) (k : Nat) (ps : List Str) (sp : Sp) where
  f : Addr
  fd : FuncData
  ok : FnOk P w K mg base CX0 k f fd ps sp
  mm : Mk K C f
  b : Binds K fd ps []
theorem gne : ¬ (("_signs" : Str) = "_gap") := by decide +kernel
def gf (u : List Nat) (g : Nat) : List (Str × V) := putF "_gap" (.int (g : Int)) (putF "_signs" (.str (S u)) [])
theorem gf_s {u : List Nat} {g : Nat} : (gf u g).lookup ("_signs" : Str) = some (V.str (S u)) := by
  unfold gf
  rw [lookup_putF, if_neg gne, lookup_putF, if_pos rfl]
theorem gf_g {u : List Nat} {g : Nat} : (gf u g).lookup ("_gap" : Str) = some (V.int (g : Int)) := by
  unfold gf
  rw [lookup_putF, if_pos rfl]
theorem gf_no {u : List Nat} {g : Nat} {m : Str} (h1 : ¬ m = "_gap") (h2 : ¬ m = "_signs") : (gf u g).lookup m = none := by
  unfold gf
  rw [lookup_putF, if_neg h1, lookup_putF, if_neg h2]
  rfl
/-- a ground stands at p -/
def GAt (C : Addr) (H : Hp) (p : Addr) (u : List Nat) (g : Nat) : Prop := ∃ dx, H p = some (.ins C dx (gf u g))
theorem GAt.same {C p : Addr} {H H' : Hp} {u : List Nat} {g : Nat} (h : GAt C H p u g) (s : Same H H') : GAt C H' p u g := by
  obtain ⟨dx, e⟩ := h
  exact ⟨dx, s _ _ e⟩
/-- signs and a gap as a ground has them -/
structure Gd (u : List Nat) (g : Nat) : Prop where
  low : Low u
  up : u.Pairwise (· < ·)
  two : 2 ≤ u.length
  few : u.length ≤ 26
  gap : 2 ≤ g
  max : g ≤ 1000
section
variable {P : Program} {w : World} {K : PySem.W.Frag} {mg : Str → Option Value} {base : Heap}
def Dm.mt {C : Addr} {m q : Str} {st : Stmt} {ps : List Str} {k : Nat} {sp : Sp} (D : Dm K C m q st ps) (h : FnOk P w K mg base CX0 k D.f D.fd ps sp) : Mt P w K mg base C k m ps sp := ⟨D.f, D.fd, h, D.me, D.b⟩
def Di.ma {C : Addr} {q : Str} {st : Stmt} {ps : List Str} {k : Nat} {sp : Sp} (D : Di K C q st ps) (h : FnOk P w K mg base CX0 k D.f D.fd ps sp) : Ma P w K mg base C k ps sp := ⟨D.f, D.fd, h, D.mm, D.b⟩
theorem sc_gs : FnScope ["self"] ["self"] (defScope st_Ground_signs) := ⟨rfl, rfl, rfl, by decide +kernel, rfl, by decide +kernel, by decide +kernel⟩
def spGs (C : Addr) : Sp := fun vs H Q _ => ∃ (p : Addr) (u : List Nat) (g : Nat), vs = [.ref p] ∧ GAt C H p u g ∧ Q (.str (S u)) H
theorem ok_gs {C : Addr} (T : Gr K mg C) (D : Dm K C "signs" "Ground.signs" st_Ground_signs ["self"]) : FnOk P w K mg base CX0 1 D.f D.fd ["self"] (spGs C) := by
  refine D.F.ok sc_gs (fun vs H Q E h => ?_) (fun cdv A outer s H vs Q E hr h => ?_)
  · obtain ⟨p, u, g, rfl, _⟩ := h
    rfl
  · obtain ⟨p, u, g, rfl, ⟨dx, hp⟩, q⟩ := h
    refine ⟨_, pss_one (ps_ret (pe_fld (pv 0) rfl)), ?_⟩
    exact ⟨_, rfl, p, C, dx, _, _, rfl, hp, T.cl, T.nS, gf_s, q⟩
theorem sc_gg : FnScope ["self"] ["self"] (defScope st_Ground_gap) := ⟨rfl, rfl, rfl, by decide +kernel, rfl, by decide +kernel, by decide +kernel⟩
def spGg (C : Addr) : Sp := fun vs H Q _ => ∃ (p : Addr) (u : List Nat) (g : Nat), vs = [.ref p] ∧ GAt C H p u g ∧ Q (.int (g : Int)) H
theorem ok_gg {C : Addr} (T : Gr K mg C) (D : Dm K C "gap" "Ground.gap" st_Ground_gap ["self"]) : FnOk P w K mg base CX0 1 D.f D.fd ["self"] (spGg C) := by
  refine D.F.ok sc_gg (fun vs H Q E h => ?_) (fun cdv A outer s H vs Q E hr h => ?_)
  · obtain ⟨p, u, g, rfl, _⟩ := h
    rfl
  · obtain ⟨p, u, g, rfl, ⟨dx, hp⟩, q⟩ := h
    refine ⟨_, pss_one (ps_ret (pe_fld (pv 0) rfl)), ?_⟩
    exact ⟨_, rfl, p, C, dx, _, _, rfl, hp, T.cl, T.nG, gf_g, q⟩
theorem sc_gw : FnScope ["self"] ["self"] (defScope st_Ground_width) := ⟨rfl, rfl, rfl, by decide +kernel, rfl, by decide +kernel, by decide +kernel⟩
def spGw (C : Addr) : Sp := fun vs H Q _ => ∃ (p : Addr) (u : List Nat) (g : Nat), vs = [.ref p] ∧ GAt C H p u g ∧ 1 ≤ g ∧ Q (.int ((2 * g - 2 : Nat) : Int)) H
theorem ok_gw {C : Addr} (T : Gr K mg C) (D : Dm K C "width" "Ground.width" st_Ground_width ["self"]) : FnOk P w K mg base CX0 1 D.f D.fd ["self"] (spGw C) := by
  refine D.F.ok sc_gw (fun vs H Q E h => ?_) (fun cdv A outer s H vs Q E hr h => ?_)
  · obtain ⟨p, u, g, rfl, _⟩ := h
    rfl
  · obtain ⟨p, u, g, rfl, ⟨dx, hp⟩, hg, q⟩ := h
    refine ⟨_, pss_one (ps_ret (pe_op op_sub (pe_op op_mul pe_int (pe_fld (pv 0) rfl)) pe_int)), ?_⟩
    refine ⟨_, rfl, p, C, dx, _, _, rfl, hp, T.cl, T.nG, gf_g, _, _, rfl, rfl, .inl ⟨by decide, by decide⟩, _, _, rfl, rfl, int_q ?_ q⟩
    omega
theorem sc_asg : FnScope ["value"] ["value"] (defScope st__are_signs) := ⟨rfl, rfl, rfl, by decide +kernel, rfl, by decide +kernel, by decide +kernel⟩
def spAsg : Sp := fun vs H Q _ => ∃ u : List Nat, vs = [.str (S u)] ∧ Low u ∧ u.Pairwise (· < ·) ∧ 2 ≤ u.length ∧ u.length ≤ 26 ∧ ∀ H', Same H H' → Q (.bl true) H'
theorem ok_asg (B : Bi mg) {t : Tok} (lt : mg "LETTERS" = some (.str LET t)) (D : Df K mg "_are_signs" st__are_signs ["value"]) (CM : Cal P w K mg base 1 "is_made_of" ["value", "signs"] spMade) : FnOk P w K mg base CX0 2 D.f D.fd ["value"] spAsg := by
  refine D.F.ok sc_asg (fun vs H Q E h => ?_) (fun cdv A outer s H vs Q E hr h => ?_)
  · obtain ⟨u, rfl, _⟩ := h
    rfl
  · obtain ⟨u, rfl, hl, hu, h2, h26, q⟩ := h
    refine ⟨_, pss_one (ps_ret (pe_and (pcall CM hr (by rfl) (pa_cons (pv 0) (pa_cons (pe_glob (v := .str LET) rfl lt ⟨_, rfl⟩) pa_nil)))
      (pe_and (pe_cmpR op_ge (pe_callB call_len_str (by rfl) B.len PySem.boot_len (pa_cons (pv 0) pa_nil)) pe_int (nomark _))
      (pe_one (pe_cmpR op_eq (pe_join pe_str (pe_callB (cr_sortedT rfl) (by rfl) B.sorted (by decide +kernel) (pa_cons (pe_callTy (cr_setX rfl) (by rfl) B.set (by decide +kernel) (pa_cons (pv 0) pa_nil)) pa_nil))) (pv 0) (nomark _)))))), ?_⟩
    have e16 : sizeLine = 16777216 := by decide
    have hs : (S u).length ≤ sizeLine := by rw [S_len]; omega
    refine ⟨_, rfl, u, LET, rfl, by omega, fun c hc => low_has (hl c hc).1 (hl c hc).2, _, rfl, iteT ?_⟩
    refine ⟨_, rfl, S u, rfl, hs, _, _, rfl, rfl, _, rfl, ?_⟩
    rw [decide_eq_true (show (2 : Int) ≤ ((S u).length : Int) by rw [S_len]; omega)]
    refine iteT ?_
    have so : signsOf (S u) = u.map fun c => S [c] := rfl
    have nd : (u.map fun c => S [c]).Nodup := by
      rw [List.nodup_iff_pairwise_ne, List.pairwise_map]
      exact hu.imp fun {a b} h z => by
        have := S_inj z
        injection this with e
        omega
    refine ⟨⟨_, rfl⟩, _, rfl, S u, rfl, by rw [so]; exact nd, by show u.toArray.size + 1 < _; simp only [List.size_toArray]; exact Nat.lt_of_le_of_lt (Nat.succ_le_succ h26) (by decide), fun p hp => ?_⟩
    refine ⟨p, _, rfl, upd_same, by rw [so, List.length_map]; omega, fun ys p2 perm srt hp2 => ?_⟩
    rw [so] at perm
    obtain ⟨ls, e2, hsub⟩ := ones_of (ys := ys) (ls := u) fun y hy => by
      obtain ⟨c, hc, e⟩ := List.mem_map.mp (perm.mem_iff.mp hy)
      exact ⟨c, hc, e.symm⟩
    subst e2
    have nd2 : ls.Nodup := by
      have := perm.nodup_iff.mpr nd
      rw [List.nodup_iff_pairwise_ne, List.pairwise_map] at this
      exact this.imp fun {a b} h z => h (by rw [z])
    have up2 := sorted_lt nd2 srt
    have pl : ls.Perm u := by
      have := perm.map (fun y : Str => y.cps.toList.headD 0)
      rw [List.map_map, List.map_map] at this
      simpa [Function.comp_def, S] using this
    have e3 : ls = u := List.Perm.eq_of_pairwise (fun a b _ _ h1 h2 => absurd (Nat.lt_trans h1 h2) (Nat.lt_irrefl _)) up2 hu pl
    subst e3
    refine ⟨Str.empty, p2, ls.map (fun c => S [c]), rfl, rfl, .inl (.inl (.inl upd_same)), ?_, ?_⟩
    · rw [List.map_map, List.length_map]
      have : (ls.map ((fun x => x.length) ∘ fun c => S [c])).sum = ls.length := by
        clear so nd nd2 up2 pl perm srt hsub hu hl h2 h26 hs q hp2
        induction ls with
        | nil => rfl
        | cons a r ih => rw [List.map_cons, List.sum_cons, ih, List.length_cons]; show 1 + _ = _; omega
      rw [this]
      show ls.length + ls.length * 0 ≤ 16777216
      omega
    · rw [join_ones]
      refine ⟨_, rfl, rfl, bl_q ?_ (q _ fun b o e => ?_)⟩
      · rw [V_dec]
        exact beq_self_eq_true ls
      · rw [upd_ne (fun z => ?_), upd_ne (ne_of_none e hp)]
        · exact e
        · rw [z] at e
          rw [upd_ne (fun z2 => ?_)] at hp2
          · rw [e] at hp2
            cases hp2
          · rw [← z2, e] at hp
            cases hp
end
end K4
set_option Elab.async false
set_option linter.all false
set_option maxRecDepth 100000
set_option maxHeartbeats 4000000
namespace K4
open PySem PySem.Spec PyProof.Rows L2 K4M K4S
/-- a comprehension with two walks: the outer one by turns -/
theorem lc2_it {J : It} {n : Nat} {G : Hp → Prop} {Y : Nat → Hp → V → Hp → Prop} (w : Walk J n G Y) {g g1 : TG} {tt tt1 : TT} {wi1 : TI} {te : TE} {vs vs1 : List Nat} {σ : L2.St} {H1 : Hp} {D : Addr} {Qd : Hp → Prop} (Pv : Nat → Hp → Prop) (h0 : Pv 0 (upd H1 D (.lst []))) (hG : ∀ i H, i ≤ n → Pv i H → G H)
    (hs : ∀ i x H H', i < n → Pv i H → Y i H x H' → g x (wipe σ vs) H' fun σ2 H2 => wipe σ2 vs = wipe σ vs ∧ tt σ2 H2 fun b H3 =>
      if b = true then wi1 σ2 H3 fun J1 H4 => ∃ W1 : Nat → Nat → Hp → Prop, (∃ m, W1 0 m H4) ∧ ∀ j k H, W1 j k H →
      (J1.stop j H ∧ Pv (i + 1) H) ∨ (J1.go j H ∧ ∃ Nx1 : Hp → Prop, (∀ H', Nx1 H' → ∃ k', k' < k ∧ W1 (j + 1) k' H') ∧ ∀ x H', J1.yld j H x H' → g1 x (wipe σ2 vs1) H' fun σ3 H5 => wipe σ3 vs1 = wipe σ2 vs1 ∧ tt1 σ3 H5 fun b H6 =>
        if b = true then te σ3 H6 fun y H7 => ∃ acc, H7 D = some (.lst acc) ∧ acc.length < sizeLine ∧ Nx1 (upd H7 D (.lst (acc ++ [y]))) else Nx1 H6) else Pv (i + 1) H3) (hd : ∀ H, Pv n H → Qd H) :
    ∃ W : Nat → Nat → Hp → Prop, (∃ m, W 0 m (upd H1 D (.lst []))) ∧ ∀ i m H, W i m H →
      (J.stop i H ∧ Qd H) ∨ (J.go i H ∧ ∃ Nx : Hp → Prop, (∀ H', Nx H' → ∃ m', m' < m ∧ W (i + 1) m' H') ∧ ∀ x H', J.yld i H x H' → g x (wipe σ vs) H' fun σ2 H2 => wipe σ2 vs = wipe σ vs ∧ tt σ2 H2 fun b H3 =>
        if b = true then wi1 σ2 H3 fun J1 H4 => ∃ W1 : Nat → Nat → Hp → Prop, (∃ m, W1 0 m H4) ∧ ∀ j k H, W1 j k H →
      (J1.stop j H ∧ Nx H) ∨ (J1.go j H ∧ ∃ Nx1 : Hp → Prop, (∀ H', Nx1 H' → ∃ k', k' < k ∧ W1 (j + 1) k' H') ∧ ∀ x H', J1.yld j H x H' → g1 x (wipe σ2 vs1) H' fun σ3 H5 => wipe σ3 vs1 = wipe σ2 vs1 ∧ tt1 σ3 H5 fun b H6 =>
        if b = true then te σ3 H6 fun y H7 => ∃ acc, H7 D = some (.lst acc) ∧ acc.length < sizeLine ∧ Nx1 (upd H7 D (.lst (acc ++ [y]))) else Nx1 H6) else Nx H3) := by
  refine ⟨fun i m H => m = n - i ∧ i ≤ n ∧ Pv i H, ⟨n, by simp, Nat.zero_le _, h0⟩, ?_⟩
  rintro i m H ⟨rfl, hi, p⟩
  have q := hG i H hi p
  by_cases hlt : i < n
  · exact .inr ⟨w.goes i H hlt q, Pv (i + 1), fun H' p' => ⟨n - (i + 1), by omega, rfl, hlt, p'⟩, fun x H' y => hs i x H H' hlt p (w.yields i H x H' hlt q y)⟩
  · have e : i = n := by omega
    subst e
    exact .inl ⟨w.stops H q, hd H p⟩
/-- the inner one -/
theorem lc_in {J : It} {n : Nat} {G : Hp → Prop} {Y : Nat → Hp → V → Hp → Prop} (w : Walk J n G Y) {g : TG} {tt : TT} {te : TE} {vs : List Nat} {σ : L2.St} {H1 : Hp} {D : Addr} {Qd : Hp → Prop} (Pv : Nat → Hp → Prop) (h0 : Pv 0 H1) (hG : ∀ i H, i ≤ n → Pv i H → G H)
    (hs : ∀ i x H H', i < n → Pv i H → Y i H x H' → g x (wipe σ vs) H' fun σ2 H2 => wipe σ2 vs = wipe σ vs ∧ tt σ2 H2 fun b H3 =>
      if b = true then te σ2 H3 fun y H4 => ∃ acc, H4 D = some (.lst acc) ∧ acc.length < sizeLine ∧ Pv (i + 1) (upd H4 D (.lst (acc ++ [y]))) else Pv (i + 1) H3) (hd : ∀ H, Pv n H → Qd H) :
    ∃ W : Nat → Nat → Hp → Prop, (∃ m, W 0 m H1) ∧ ∀ i m H, W i m H →
      (J.stop i H ∧ Qd H) ∨ (J.go i H ∧ ∃ Nx : Hp → Prop, (∀ H', Nx H' → ∃ m', m' < m ∧ W (i + 1) m' H') ∧ ∀ x H', J.yld i H x H' → g x (wipe σ vs) H' fun σ2 H2 => wipe σ2 vs = wipe σ vs ∧ tt σ2 H2 fun b H3 =>
        if b = true then te σ2 H3 fun y H4 => ∃ acc, H4 D = some (.lst acc) ∧ acc.length < sizeLine ∧ Nx (upd H4 D (.lst (acc ++ [y]))) else Nx H3) := by
  refine ⟨fun i m H => m = n - i ∧ i ≤ n ∧ Pv i H, ⟨n, by simp, Nat.zero_le _, h0⟩, ?_⟩
  rintro i m H ⟨rfl, hi, p⟩
  have q := hG i H hi p
  by_cases hlt : i < n
  · exact .inr ⟨w.goes i H hlt q, Pv (i + 1), fun H' p' => ⟨n - (i + 1), by omega, rfl, hlt, p'⟩, fun x H' y => hs i x H H' hlt p (w.yields i H x H' hlt q y)⟩
  · have e : i = n := by omega
    subst e
    exact .inl ⟨w.stops H q, hd H p⟩
theorem noS : ¬ (("signs" : Str) = "_gap") := by decide +kernel
theorem noS2 : ¬ (("signs" : Str) = "_signs") := by decide +kernel
theorem noG : ¬ (("gap" : Str) = "_gap") := by decide +kernel
theorem noG2 : ¬ (("gap" : Str) = "_signs") := by decide +kernel
theorem noW : ¬ (("width" : Str) = "_gap") := by decide +kernel
theorem noW2 : ¬ (("width" : Str) = "_signs") := by decide +kernel
theorem strs_at {ws : List (List Nat)} {i : Nat} {x : V} (hx : (strsV ws)[i]? = some x) : ∃ u, ws[i]? = some u ∧ x = V.str (S u) := by
  unfold strsV at hx
  rw [List.getElem?_map] at hx
  cases e : ws[i]? with
  | none => rw [e] at hx; cases hx
  | some u => rw [e] at hx; exact ⟨u, rfl, (Option.some.inj hx).symm⟩
theorem strs_len (ws : List (List Nat)) : (strsV ws).length = ws.length := List.length_map _
theorem strs_app (a b : List (List Nat)) : strsV (a ++ b) = strsV a ++ strsV b := List.map_append
section
variable {P : Program} {w : World} {K : PySem.W.Frag} {mg : Str → Option Value} {base : Heap}
theorem sc_init : FnScope ["self", "signs", "gap"] ["self", "signs", "gap"] (defScope st_Ground___init__) := ⟨rfl, rfl, rfl, by decide +kernel, rfl, by decide +kernel, by decide +kernel⟩
def spInit (C : Addr) : Sp := fun vs H Q _ => ∃ (p dx : Addr) (u : List Nat) (g : Nat), vs = [.ref p, .str (S u), .int (g : Int)] ∧ H p = some (.ins C dx []) ∧ Gd u g ∧ ∀ H', (∀ b o, H b = some o → b ≠ p → H' b = some o) → GAt C H' p u g → Q .non H'
theorem ok_init {C : Addr} (T : Gr K mg C) (D : Di K C "Ground.__init__" st_Ground___init__ ["self", "signs", "gap"]) (CA : Cal P w K mg base 2 "_are_signs" ["value"] spAsg) (CC : Cal P w K mg base 2 "is_count" ["value"] spCount) : FnOk P w K mg base CX0 3 D.f D.fd ["self", "signs", "gap"] (spInit C) := by
  refine D.F.ok sc_init (fun vs H Q E h => ?_) (fun cdv A outer s H vs Q E hr h => ?_)
  · obtain ⟨p, dx, u, g, rfl, _⟩ := h
    rfl
  · obtain ⟨p, dx, u, g, rfl, hp, G, q⟩ := h
    refine ⟨_, pss_cons (ps_if (pt_not (pt_val (pcall CA hr (by rfl) (pa_cons (pv 1) pa_nil)))) pss_never pss_nil)
      (pss_cons (ps_if (PW.pt (pw_or (pt_not (pt_val (pcall CC hr (by rfl) (pa_cons (pv 2) pa_nil)))) (pw_or1 (pt_cmpR op_lt (pv 2) pe_int (nomark _))))) pss_never pss_nil)
      (pss_cons (ps_fld (pv 0) (pv 1) rfl) (pss_one (ps_fld (pv 0) (pv 2) rfl)))), ?_⟩
    have g2 := G.gap
    refine ⟨_, rfl, u, rfl, G.low, G.up, G.two, G.few, fun H' sm => ⟨_, rfl, iteF ?_⟩⟩
    refine ⟨_, rfl, _, rfl, by omega, _, rfl, iteF ?_⟩
    refine ⟨_, rfl, _, _, rfl, rfl, _, rfl, ?_⟩
    rw [decide_eq_false (show ¬ (g : Int) < 2 by omega)]
    refine iteF ?_
    have hp' := sm _ _ hp
    refine ⟨_, rfl, _, rfl, p, C, dx, [], rfl, hp', T.cl, T.nS, (by show 0 < 1000; decide), _, rfl, _, rfl, p, C, dx, _, rfl, upd_same, T.cl, T.nG, (by show 1 < 1000; decide), ?_⟩
    refine q _ (fun b o e hb => ?_) ⟨dx, upd_same⟩
    rw [upd_ne hb, upd_ne hb]
    exact sm b o e
theorem sc_cg : FnScope ["value"] ["value"] (defScope st_check_ground) := ⟨rfl, rfl, rfl, by decide +kernel, rfl, by decide +kernel, by decide +kernel⟩
def spCg (C : Addr) : Sp := fun vs H Q _ => ∃ (p : Addr) (u : List Nat) (g : Nat), vs = [.ref p] ∧ GAt C H p u g ∧ Q .non H
theorem ok_cg (B : Bi mg) {C : Addr} (T : Gr K mg C) (D : Df K mg "check_ground" st_check_ground ["value"]) : FnOk P w K mg base CX0 1 D.f D.fd ["value"] (spCg C) := by
  refine D.F.ok sc_cg (fun vs H Q E h => ?_) (fun cdv A outer s H vs Q E hr h => ?_)
  · obtain ⟨p, u, g, rfl, _⟩ := h
    rfl
  · obtain ⟨p, u, g, rfl, ⟨dx, hp⟩, q⟩ := h
    refine ⟨_, pss_one (ps_if (pt_not (pt_val (pe_callB call_isi (by rfl) B.isi (by decide +kernel) (pa_cons (pv 0) (pa_cons (pe_glob (v := .ref C) rfl T.g rfl) pa_nil))))) pss_never pss_nil), ?_⟩
    exact ⟨_, rfl, .ref p, .ref C, .ref C, .ref C, true, rfl, .own C, .base (.ins hp T.cl T.ha T.hn T.htk T.hm), T.ki, _, rfl, iteF q⟩
theorem sc_tof : FnScope ["ground", "value"] ["ground", "value"] (defScope st_is_text_of) := ⟨rfl, rfl, rfl, by decide +kernel, rfl, by decide +kernel, by decide +kernel⟩
def spTof (C : Addr) : Sp := fun vs H Q _ => ∃ (p : Addr) (u : List Nat) (g : Nat) (x : List Nat), vs = [.ref p, .str (S x)] ∧ GAt C H p u g ∧ x.length ≤ 100000 ∧ (∀ c ∈ x, c ∈ u) ∧ Q (.bl true) H
theorem ok_tof {C : Addr} (T : Gr K mg C) (D : Df K mg "is_text_of" st_is_text_of ["ground", "value"]) (CM : Cal P w K mg base 1 "is_made_of" ["value", "signs"] spMade) (MS : Mt P w K mg base C 1 "signs" ["self"] (spGs C)) : FnOk P w K mg base CX0 2 D.f D.fd ["ground", "value"] (spTof C) := by
  refine D.F.ok sc_tof (fun vs H Q E h => ?_) (fun cdv A outer s H vs Q E hr h => ?_)
  · obtain ⟨p, u, g, x, rfl, _⟩ := h
    rfl
  · obtain ⟨p, u, g, x, rfl, ⟨dx, hp⟩, hl, hx, q⟩ := h
    refine ⟨_, pss_one (ps_ret (pcall CM hr (by rfl) (pa_cons (pv 1) (pa_cons (pe_meth0 (pv 0) T.cl MS.me MS.ok hr MS.b .nil pass0) pa_nil)))), ?_⟩
    refine ⟨_, rfl, _, rfl, p, dx, _, rfl, hp, gf_no noS noS2, p, u, g, rfl, ⟨dx, hp⟩, x, S u, rfl, hl, fun c hc => ?_, q⟩
    show u.toArray.contains c = true
    simpa using hx c hc
theorem sc_isw : FnScope ["ground", "value"] ["ground", "value"] (defScope st_is_window) := ⟨rfl, rfl, rfl, by decide +kernel, rfl, by decide +kernel, by decide +kernel⟩
def spIsw (C : Addr) : Sp := fun vs H Q _ => ∃ (p : Addr) (u : List Nat) (g : Nat) (x : List Nat), vs = [.ref p, .str (S x)] ∧ GAt C H p u g ∧ 1 ≤ g ∧ g ≤ 1000 ∧ x ∈ wl u (2 * g - 2) ∧ Q (.bl true) H
theorem ok_isw (B : Bi mg) {C : Addr} (T : Gr K mg C) (D : Df K mg "is_window" st_is_window ["ground", "value"]) (CT : Cal P w K mg base 2 "is_text_of" ["ground", "value"] (spTof C)) (MW : Mt P w K mg base C 1 "width" ["self"] (spGw C)) : FnOk P w K mg base CX0 3 D.f D.fd ["ground", "value"] (spIsw C) := by
  refine D.F.ok sc_isw (fun vs H Q E h => ?_) (fun cdv A outer s H vs Q E hr h => ?_)
  · obtain ⟨p, u, g, x, rfl, _⟩ := h
    rfl
  · obtain ⟨p, u, g, x, rfl, ⟨dx, hp⟩, hg, hg2, hx, q⟩ := h
    obtain ⟨h1, h2⟩ := wl_mem.mp hx
    refine ⟨_, pss_one (ps_ret (pe_and (pcall CT hr (by rfl) (pa_cons (pv 0) (pa_cons (pv 1) pa_nil))) (pe_one (pe_cmpR op_eq (pe_callB call_len_str (by rfl) B.len PySem.boot_len (pa_cons (pv 1) pa_nil)) (pe_meth0 (pv 0) T.cl MW.me MW.ok (hr.mono (by decide)) MW.b .nil pass0) (nomark _))))), ?_⟩
    have e16 : sizeLine = 16777216 := by decide
    have hs : (S x).length ≤ sizeLine := by rw [S_len]; omega
    refine ⟨_, rfl, _, rfl, p, u, g, x, rfl, ⟨dx, hp⟩, by omega, h2, _, rfl, iteT ?_⟩
    refine ⟨_, rfl, S x, rfl, hs, _, rfl, p, dx, _, rfl, hp, gf_no noW noW2, p, u, g, rfl, ⟨dx, hp⟩, hg, ?_⟩
    refine ⟨rfl, bl_q ?_ q⟩
    rw [dec_int, S_len, h1]
    exact beq_self_eq_true _
theorem sc_cw : FnScope ["ground", "value"] ["ground", "value"] (defScope st_check_window) := ⟨rfl, rfl, rfl, by decide +kernel, rfl, by decide +kernel, by decide +kernel⟩
def spCw (C : Addr) : Sp := fun vs H Q _ => ∃ (p : Addr) (u : List Nat) (g : Nat) (x : List Nat), vs = [.ref p, .str (S x)] ∧ GAt C H p u g ∧ 1 ≤ g ∧ g ≤ 1000 ∧ x ∈ wl u (2 * g - 2) ∧ Q .non H
theorem ok_cw {C : Addr} (D : Df K mg "check_window" st_check_window ["ground", "value"]) (CI : Cal P w K mg base 3 "is_window" ["ground", "value"] (spIsw C)) : FnOk P w K mg base CX0 4 D.f D.fd ["ground", "value"] (spCw C) := by
  refine D.F.ok sc_cw (fun vs H Q E h => ?_) (fun cdv A outer s H vs Q E hr h => ?_)
  · obtain ⟨p, u, g, x, rfl, _⟩ := h
    rfl
  · obtain ⟨p, u, g, x, rfl, hp, hg, hg2, hx, q⟩ := h
    refine ⟨_, pss_one (ps_if (pt_not (pt_val (pcall CI hr (by rfl) (pa_cons (pv 0) (pa_cons (pv 1) pa_nil))))) pss_never pss_nil), ?_⟩
    exact ⟨_, rfl, _, rfl, p, u, g, x, rfl, hp, hg, hg2, hx, _, rfl, iteF q⟩
/-! ### periods below a number -/
theorem sc_rb : FnScope ["text", "below", "period"] ["text", "below"] (defScope st_repeats_below) := ⟨rfl, rfl, rfl, by decide +kernel, rfl, by decide +kernel, by decide +kernel⟩
def spRb : Sp := fun vs H Q _ => ∃ (u : List Nat) (g : Nat), vs = [.str (S u), .int (g : Int)] ∧ u.length ≤ 100000 ∧ u ≠ [] ∧ g ≤ u.length ∧ Q (.bl (decide (lp u < g))) H
theorem ok_rb (B : Bi mg) (D : Df K mg "repeats_below" st_repeats_below ["text", "below"]) (CH : Cal P w K mg base 1 "_is_had" ["text", "period"] spHad) : FnOk P w K mg base CX0 2 D.f D.fd ["text", "below"] spRb := by
  refine D.F.ok sc_rb (fun vs H Q E h => ?_) (fun cdv A outer s H vs Q E hr h => ?_)
  · obtain ⟨u, g, rfl, _⟩ := h
    rfl
  · obtain ⟨u, g, rfl, hl, h0, hg, q⟩ := h
    refine ⟨_, pss_cons (ps_for PassesOwn.never rfl (pi_range2 (by rfl) B.range (pa_cons pe_int (pa_cons (pe_callB (call_min2 rfl) (by rfl) B.min (by decide +kernel) (pa_cons (pv 1) (pa_cons (pe_callB call_len_str (by rfl) B.len PySem.boot_len (pa_cons (pv 0) pa_nil)) pa_nil))) pa_nil))) (pg_name (i := 2) sc_rb.nd rfl (.inl rfl))
        (pss_one (ps_if (pt_val (pcall CH hr (by rfl) (pa_cons (pv 0) (pa_cons (pv 2) pa_nil)))) (pss_one (ps_ret pe_bl)) pss_nil)))
      (pss_one (ps_ret pe_bl)), ?_⟩
    have e16 : sizeLine = 16777216 := by decide
    have hs : (S u).length ≤ sizeLine := by rw [S_len]; omega
    have hl0 : 0 < u.length := List.length_pos_iff.mpr h0
    have s1 := lp_spec u h0
    refine ⟨_, rfl, _, rfl, S u, rfl, hs, _, _, rfl, ?_⟩
    have emin : (if ((S u).length : Int) < (g : Int) then ((S u).length : Int) else (g : Int)) = (g : Int) := by
      rw [S_len]
      split <;> omega
    first
      | refine ⟨1, (g : Int), by rw [emin], ⟨by decide, by decide, by omega, by omega⟩, ?_⟩
      | refine ⟨1, (g : Int), by (congr 2; rw [S_len]; (try split) <;> omega), ⟨by decide, by decide, by omega, by omega⟩, ?_⟩
    refine for_range (lo := 1) (n := ((g : Int) - 1).toNat) (fun i σ H2 => H2 = H ∧ ∃ y : Option V, σ = [some (.str (S u)), some (.int (g : Int)), y] ∧ ∀ j, 0 < j → j ≤ i → had u j = false) ⟨rfl, none, rfl, fun j h1 h2 => by omega⟩ ?_ ?_
    · rintro i σ H2 hi ⟨rfl, y, rfl, hj⟩
      have ei : (1 + (i : Int)) = ((1 + i : Nat) : Int) := by omega
      refine ⟨_, rfl, _, rfl, u, 1 + i, by rw [ei]; rfl, hl, _, rfl, ?_⟩
      cases hb : had u (1 + i) with
      | true =>
        refine iteT (bl_q (Eq.symm (decide_eq_true (p := lp u < g) ?_)) q)
        rcases Nat.lt_or_ge (1 + i) (lp u) with z | z
        · rw [s1.1 (1 + i) (by omega) z] at hb
          cases hb
        · omega
      | false =>
        refine iteF ⟨rfl, _, rfl, fun j h1 h2 => ?_⟩
        by_cases e : j = 1 + i
        · rw [e]
          exact hb
        · exact hj j h1 (by omega)
    · rintro σ H2 ⟨rfl, y, rfl, hj⟩
      refine bl_q (Eq.symm (decide_eq_false (p := lp u < g) fun z => ?_)) q
      have := hj (lp u) (by omega) (by omega)
      rw [s1.2.2.2 (by omega)] at this
      cases this
theorem sc_own : FnScope ["ground", "window"] ["ground", "window"] (defScope st_is_own) := ⟨rfl, rfl, rfl, by decide +kernel, rfl, by decide +kernel, by decide +kernel⟩
def spOwn (C : Addr) : Sp := fun vs H Q _ => ∃ (p : Addr) (u : List Nat) (g : Nat) (x : List Nat), vs = [.ref p, .str (S x)] ∧ GAt C H p u g ∧ Gd u g ∧ x ∈ wl u (2 * g - 2) ∧ Q (.bl (!decide (lp x < g))) H
theorem ok_own {C : Addr} (T : Gr K mg C) (D : Df K mg "is_own" st_is_own ["ground", "window"]) (CG : Cal P w K mg base 1 "check_ground" ["value"] (spCg C)) (CW : Cal P w K mg base 4 "check_window" ["ground", "value"] (spCw C)) (CL : Cal P w K mg base 2 "repeats_below" ["text", "below"] spRb) (MG : Mt P w K mg base C 1 "gap" ["self"] (spGg C)) :
    FnOk P w K mg base CX0 6 D.f D.fd ["ground", "window"] (spOwn C) := by
  refine D.F.ok sc_own (fun vs H Q E h => ?_) (fun cdv A outer s H vs Q E hr h => ?_)
  · obtain ⟨p, u, g, x, rfl, _⟩ := h
    rfl
  · obtain ⟨p, u, g, x, rfl, ⟨dx, hp⟩, G, hx, q⟩ := h
    obtain ⟨h1, h2⟩ := wl_mem.mp hx
    have g2 := G.gap
    have gm := G.max
    refine ⟨_, pss_cons (ps_expr (pcall CG (hr.mono (by decide)) (by rfl) (pa_cons (pv 0) pa_nil))) (pss_cons (ps_expr (pcall CW (hr.mono (by decide)) (by rfl) (pa_cons (pv 0) (pa_cons (pv 1) pa_nil))))
      (pss_one (ps_ret (pe_not (pcall CL (hr.mono (by decide)) (by rfl) (pa_cons (pv 1) (pa_cons (pe_meth0 (pv 0) T.cl MG.me MG.ok (hr.mono (by decide)) MG.b .nil pass0) pa_nil))))))), ?_⟩
    refine ⟨_, rfl, p, u, g, rfl, ⟨dx, hp⟩, ?_⟩
    refine ⟨_, rfl, _, rfl, p, u, g, x, rfl, ⟨dx, hp⟩, by omega, by omega, hx, ?_⟩
    refine ⟨_, rfl, _, rfl, p, dx, _, rfl, hp, gf_no noG noG2, p, u, g, rfl, ⟨dx, hp⟩, ?_⟩
    exact ⟨x, g, rfl, by omega, (fun z => by rw [z] at h1; simp at h1; omega), by omega, _, rfl, q⟩
end
end K4
set_option Elab.async false
set_option linter.all false
set_option maxRecDepth 100000
set_option maxHeartbeats 4000000
namespace K4
open PySem PySem.Spec PyProof.Rows L2 K4M K4S
theorem cut_mid {x : List Nat} {a n : Nat} (h : a + n ≤ x.length) : cutS (S x) (some (a : Int)) (some ((a : Int) + (n : Int))) = S ((x.drop a).take n) := by
  rw [show ((a : Int) + (n : Int)) = ((a + n : Nat) : Int) by omega]
  unfold cutS
  rw [HT.sIx_nat, HT.sIx_nat, S_len, show min (a + n) x.length = a + n by omega, show min a x.length = a by omega]
  show (⟨((x.drop a).take (a + n - a)).toArray⟩ : Str) = ⟨((x.drop a).take n).toArray⟩
  rw [Nat.add_sub_cancel_left]
section
variable {P : Program} {w : World} {K : PySem.W.Frag} {mg : Str → Option Value} {base : Heap}
theorem sc_wlg : FnScope ["ground", "length", "found", "_", "word", "sign"] ["ground", "length"] (defScope st_words_long) := ⟨rfl, rfl, rfl, by decide +kernel, rfl, by decide +kernel, by decide +kernel⟩
def spWlg (C : Addr) : Sp := fun vs H Q _ => ∃ (p : Addr) (u : List Nat) (g : Nat), vs = [.ref p, .int ((2 * g - 2 : Nat) : Int)] ∧ GAt C H p u g ∧ Gd u g ∧ u.length ^ (2 * g - 2) ≤ 5000 ∧ ∀ (L : Addr) (H' : Hp), H L = none → Same H H' → H' L = some (.lst (strsV (wl u (2 * g - 2)))) → Q (.ref L) H'
theorem ok_wlg (B : Bi mg) {C : Addr} (T : Gr K mg C) (D : Df K mg "words_long" st_words_long ["ground", "length"]) (MS : Mt P w K mg base C 1 "signs" ["self"] (spGs C)) :
    FnOk P w K mg base CX0 2 D.f D.fd ["ground", "length"] (spWlg C) := by
  refine D.F.ok sc_wlg (fun vs H Q E h => ?_) (fun cdv A outer s H vs Q E hr h => ?_)
  · obtain ⟨p, u, g, rfl, _⟩ := h
    rfl
  · obtain ⟨p, u, g, rfl, ⟨dx, hp⟩, G, h5, q⟩ := h
    refine ⟨_, (pss_cons (ps_set (i := 2) sc_wlg.nd rfl (.inl rfl) (pe_lst (pa_cons pe_str pa_nil)))
      (pss_cons (ps_for PassesOwn.never rfl (pi_range1 (by rfl) B.range (pa_cons (pv 1) pa_nil)) (pg_name (i := 3) sc_wlg.nd rfl (.inl rfl))
        (pss_one (ps_setLc2 (i := 2) (own := [("word", 4), ("sign", 5)]) (vs1 := [5]) (g := gName 4) (g1 := gName 5) (tt := tYes) (tt1 := tYes) rfl sc_wlg.nd rfl rfl (sw_true rfl rfl rfl (by decide +kernel)) (pi_list (pv 2))
          (blkOk_by (N := ["ground", "length", "found", "_", "word", "sign"]) (sc := defScope st_words_long) (by decide +kernel)) (by decide)
          (fun _ _ _ _ _ => pg_name (i := 4) sc_wlg.nd rfl (.inl rfl)) (fun _ _ _ _ _ => pts_nil)
          (fun _ _ _ _ _ => pi_str (pe_meth0 (pv 0) T.cl MS.me MS.ok hr MS.b .nil pass0))
          (fun _ _ _ _ _ => pg_name (i := 5) sc_wlg.nd rfl (.inl rfl)) (fun _ _ _ _ _ => pts_nil)
          (fun _ _ _ _ _ => pe_op op_add_str (pv 4) (pv 5)))))
      (pss_one (ps_ret (pv 2))))), ?_⟩
    have e16 : sizeLine = 16777216 := by decide
    have g2 := G.gap
    have gm := G.max
    have l2 := G.two
    have l26 := G.few
    refine ⟨(by show 1 ≤ sizeLine; decide), fun L0 hL0 => ?_⟩
    have hp0 := same_upd (o := .lst [V.str (Str.ofString "")]) hL0 _ _ hp
    refine ⟨_, rfl, ((2 * g - 2 : Nat) : Int), rfl, by omega, by omega, ?_⟩
    refine for_range (lo := 0) (n := ((2 * g - 2 : Nat) : Int).toNat) (fun i σ H2 => ∃ (L : Addr) (y2 : Option V), σ = [some (.ref p), some (.int ((2 * g - 2 : Nat) : Int)), some (.ref L), y2, none, none] ∧ H L = none ∧ Same H H2 ∧ H2 L = some (.lst (strsV (wl u i))))
      ⟨L0, none, rfl, hL0, same_upd hL0, upd_same⟩ ?_ ?_
    · rintro i σ H2 hi ⟨L, y2, rfl, hL, sm, hLs⟩
      have hpow : u.length ^ i ≤ 5000 := Nat.le_trans (Nat.pow_le_pow_right (by omega) (by omega)) h5
      have hwl : (wl u i).length = u.length ^ i := by rw [wl_eq]; exact words_len u i
      refine ⟨_, rfl, L, rfl, ⟨_, .inl (.inl hLs)⟩, fun DD hD => ?_⟩
      refine lc2_it (walk_list (K := K) (a := L) (xs := strsV (wl u i))) (fun j H3 => Same H2 H3 ∧ H3 DD = some (.lst (strsV (((wl u i).take j).flatMap fun x => u.map fun c => x ++ [c])))) ⟨same_upd hD, upd_same⟩ (fun j H3 _ z => .inl (.inl (z.1 _ _ hLs))) ?_ ?_
      · rintro j x H3 H4 hj ⟨s3, hDD⟩ ⟨rfl, hx⟩
        obtain ⟨v, hv, rfl⟩ := strs_at hx
        obtain ⟨hvl, hvc⟩ := wl_mem.mp (List.mem_of_getElem? hv)
        have hjl : j < u.length ^ i := by
          rw [← hwl]
          exact (List.getElem?_eq_some_iff.mp hv).1
        have jb : ((((wl u i).take j).flatMap fun x => u.map fun c => x ++ [c])).length ≤ 130000 := by
          rw [flat_len, List.length_take]
          have : min j (wl u i).length * u.length ≤ 5000 * 26 := Nat.mul_le_mul (by omega) l26
          omega
        have hp4 := s3 _ _ (sm _ _ hp)
        refine ⟨rfl, _, rfl, p, dx, _, rfl, hp4, gf_no noS noS2, p, u, g, rfl, ⟨dx, hp4⟩, S u, rfl, ?_⟩
        have hz : (S u).cps.size = u.length := S_len u
        refine lc_in (walk_str (z := S u)) (fun m H5 => Same H2 H5 ∧ H5 DD = some (.lst (strsV (((((wl u i).take j).flatMap fun x => u.map fun c => x ++ [c])) ++ (u.take m).map fun c => v ++ [c])))) ⟨s3, by rw [hDD]; simp⟩ (fun _ _ _ _ => True.intro) ?_ ?_
        · rintro m x H5 H6 hm ⟨t1, t2⟩ ⟨rfl, c, hc, rfl⟩
          have hcm : u[m]? = some c := by
            have : u.toArray[m]? = some c := hc
            rw [List.getElem?_toArray] at this
            exact this
          have hml : m < u.length := by rw [hz] at hm; exact hm
          refine ⟨rfl, _, rfl, _, rfl, S v, S [c], rfl, rfl, by rw [S_len, S_len, hvl]; show i + 1 ≤ _; omega, ?_⟩
          refine ⟨_, t2, ?_, fun b o e => ?_, ?_⟩
          · rw [strs_len, List.length_append, List.length_map, List.length_take]
            omega
          · rw [upd_ne (ne_of_none e hD)]
            exact t1 b o e
          · rw [upd_same, S_app, List.take_add_one, hcm, List.map_append, ← List.append_assoc, strs_app (_ ++ _)]
            rfl
        · rintro H5 ⟨t1, t2⟩
          rw [hz, List.take_length] at t2
          refine ⟨t1, ?_⟩
          rw [t2, flat_take hv]
      · rintro H3 ⟨s3, hDD⟩
        rw [strs_len, List.take_length] at hDD
        exact ⟨DD, _, rfl, sm.free hD, sm.trans s3, hDD⟩
    · rintro σ H2 ⟨L, y2, rfl, hL, sm, hLs⟩
      rw [show (((2 * g - 2 : Nat) : Int)).toNat = 2 * g - 2 by omega] at hLs
      exact ⟨_, rfl, q L H2 hL sm hLs⟩
theorem sc_win : FnScope ["ground"] ["ground"] (defScope st_windows) := ⟨rfl, rfl, rfl, by decide +kernel, rfl, by decide +kernel, by decide +kernel⟩
def spWin (C : Addr) : Sp := fun vs H Q _ => ∃ (p : Addr) (u : List Nat) (g : Nat), vs = [.ref p] ∧ GAt C H p u g ∧ Gd u g ∧ u.length ^ (2 * g - 2) ≤ 5000 ∧ ∀ (L : Addr) (H' : Hp), H L = none → Same H H' → H' L = some (.lst (strsV (wl u (2 * g - 2)))) → Q (.ref L) H'
theorem ok_win {C : Addr} (T : Gr K mg C) (D : Df K mg "windows" st_windows ["ground"]) (CG : Cal P w K mg base 1 "check_ground" ["value"] (spCg C)) (CL : Cal P w K mg base 2 "words_long" ["ground", "length"] (spWlg C)) (MW : Mt P w K mg base C 1 "width" ["self"] (spGw C)) :
    FnOk P w K mg base CX0 3 D.f D.fd ["ground"] (spWin C) := by
  refine D.F.ok sc_win (fun vs H Q E h => ?_) (fun cdv A outer s H vs Q E hr h => ?_)
  · obtain ⟨p, u, g, rfl, _⟩ := h
    rfl
  · obtain ⟨p, u, g, rfl, ⟨dx, hp⟩, G, h5, q⟩ := h
    have g2 := G.gap
    refine ⟨_, pss_cons (ps_expr (pcall CG (hr.mono (by decide)) (by rfl) (pa_cons (pv 0) pa_nil)))
      (pss_one (ps_ret (pcall CL hr (by rfl) (pa_cons (pv 0) (pa_cons (pe_meth0 (pv 0) T.cl MW.me MW.ok (hr.mono (by decide)) MW.b .nil pass0) pa_nil))))), ?_⟩
    refine ⟨_, rfl, p, u, g, rfl, ⟨dx, hp⟩, ?_⟩
    refine ⟨_, rfl, _, rfl, p, dx, _, rfl, hp, gf_no noW noW2, p, u, g, rfl, ⟨dx, hp⟩, by omega, ?_⟩
    exact ⟨p, u, g, rfl, ⟨dx, hp⟩, G, h5, q⟩
end
end K4
set_option Elab.async false
set_option linter.all false
set_option maxRecDepth 100000
set_option maxHeartbeats 4000000
namespace K4
open PySem PySem.Spec PyProof.Rows L2 K4M K4S
section
variable {P : Program} {w : World} {K : PySem.W.Frag} {mg : Str → Option Value} {base : Heap}
theorem sc_nx : FnScope ["ground", "window", "sign"] ["ground", "window"] (defScope st_next_ones) := ⟨rfl, rfl, rfl, by decide +kernel, rfl, by decide +kernel, by decide +kernel⟩
def spNx (C : Addr) : Sp := fun vs H Q _ => ∃ (p : Addr) (u : List Nat) (g : Nat) (x : List Nat), vs = [.ref p, .str (S x)] ∧ GAt C H p u g ∧ Gd u g ∧ x ∈ wl u (2 * g - 2) ∧ ∀ (L : Addr) (H' : Hp), H L = none → Same H H' → H' L = some (.lst (strsV (u.map fun c => x.drop 1 ++ [c]))) → Q (.ref L) H'
theorem ok_nx {C : Addr} (T : Gr K mg C) (D : Df K mg "next_ones" st_next_ones ["ground", "window"]) (CG : Cal P w K mg base 1 "check_ground" ["value"] (spCg C)) (CW : Cal P w K mg base 4 "check_window" ["ground", "value"] (spCw C)) (MS : Mt P w K mg base C 1 "signs" ["self"] (spGs C)) :
    FnOk P w K mg base CX0 5 D.f D.fd ["ground", "window"] (spNx C) := by
  refine D.F.ok sc_nx (fun vs H Q E h => ?_) (fun cdv A outer s H vs Q E hr h => ?_)
  · obtain ⟨p, u, g, x, rfl, _⟩ := h
    rfl
  · obtain ⟨p, u, g, x, rfl, ⟨dx, hp⟩, G, hx, q⟩ := h
    obtain ⟨h1, h2⟩ := wl_mem.mp hx
    have e16 : sizeLine = 16777216 := by decide
    have g2 := G.gap
    have gm := G.max
    have l26 := G.few
    have hs : (S x).length ≤ sizeLine := by rw [S_len]; omega
    have hr1 : Room 1 _ := hr.mono (by decide)
    refine ⟨_, pss_cons (ps_expr (pcall CG (hr.mono (by decide)) (by rfl) (pa_cons (pv 0) pa_nil))) (pss_cons (ps_expr (pcall CW hr (by rfl) (pa_cons (pv 0) (pa_cons (pv 1) pa_nil))))
      (pss_one (ps_ret (pe_lc (own := [("sign", 2)]) (g := gName 2) (tt := tYes) rfl sc_nx.nd (pi_str (pe_meth0 (pv 0) T.cl MS.me MS.ok hr1 MS.b .nil pass0))
        (blkOk_by (N := ["ground", "window", "sign"]) (sc := defScope st_next_ones) (by decide +kernel)) (fun _ _ _ _ _ => pg_name (i := 2) sc_nx.nd rfl (.inl rfl)) (fun _ _ _ _ _ => pts_nil)
        (fun _ _ _ _ _ => pe_op op_add_str (pe_slice sl_str (pv 1) (po_some pe_int) po_none) (pv 2)))))), ?_⟩
    refine ⟨_, rfl, p, u, g, rfl, ⟨dx, hp⟩, ?_⟩
    refine ⟨_, rfl, _, rfl, p, u, g, x, rfl, ⟨dx, hp⟩, by omega, by omega, hx, ?_⟩
    refine ⟨_, rfl, p, dx, _, rfl, hp, gf_no noS noS2, p, u, g, rfl, ⟨dx, hp⟩, S u, rfl, fun DD hD => ?_⟩
    have hz : (S u).cps.size = u.length := S_len u
    refine lc_it (walk_str (z := S u)) (fun m H5 => Same H H5 ∧ H5 DD = some (.lst (strsV ((u.take m).map fun c => x.drop 1 ++ [c])))) ⟨same_upd hD, upd_same⟩ (fun _ _ _ _ => True.intro) ?_ ?_
    · rintro m y H5 H6 hm ⟨t1, t2⟩ ⟨rfl, c, hc, rfl⟩
      have hcm : u[m]? = some c := by
        have : u.toArray[m]? = some c := hc
        rw [List.getElem?_toArray] at this
        exact this
      have ed : cutS (S x) (some 1) none = S (x.drop 1) := cut_drop x 1
      refine ⟨rfl, _, rfl, 1, rfl, S x, rfl, hs, _, rfl, _, S [c], rfl, rfl, ?_, ?_⟩
      · rw [ed, S_len, S_len, List.length_drop]
        show x.length - 1 + 1 ≤ _
        omega
      · refine ⟨_, t2, ?_, fun b o e => ?_, ?_⟩
        · rw [strs_len, List.length_map, List.length_take]
          omega
        · rw [upd_ne (ne_of_none e hD)]
          exact t1 b o e
        · rw [upd_same, ed, S_app, List.take_add_one, hcm, List.map_append, strs_app]
          rfl
    · rintro H5 ⟨t1, t2⟩
      rw [hz, List.take_length] at t2
      exact q DD H5 hD t1 t2
def spRf : Sp := fun vs H Q _ => ∃ x : List Nat, vs = [.str (S x)] ∧ x.length ≤ 2000 ∧ Low x ∧ x ≠ [] ∧ ∀ (L : Addr) (H' : Hp), H L = none → Same H H' → H' L = some (.lst (strsV (ringL x))) → Q (.ref L) H'
end
end K4
set_option Elab.async false
set_option linter.all false
set_option maxRecDepth 100000
set_option maxHeartbeats 4000000
namespace K4
open PySem PySem.Spec PyProof.Rows L2 K4M K4S
/-- a list of lists of texts: where each stands, and what it holds -/
def refsV (ps : List (Addr × List (List Nat))) : List V := ps.map fun e => V.ref e.1
/-- the lists stand as told, each newer than H0, and none of them at D -/
def LL (H0 H : Hp) (D : Addr) (ps : List (Addr × List (List Nat))) : Prop := ∀ e ∈ ps, e.1 ≠ D ∧ H0 e.1 = none ∧ H e.1 = some (.lst (strsV e.2))
theorem refs_at {ps : List (Addr × List (List Nat))} {i : Nat} {x : V} (hx : (refsV ps)[i]? = some x) : ∃ e, ps[i]? = some e ∧ x = V.ref e.1 := by
  unfold refsV at hx
  rw [List.getElem?_map] at hx
  cases e : ps[i]? with
  | none => rw [e] at hx; cases hx
  | some u => rw [e] at hx; exact ⟨u, rfl, (Option.some.inj hx).symm⟩
theorem refs_len (ps : List (Addr × List (List Nat))) : (refsV ps).length = ps.length := List.length_map _
theorem LL.mono {H0 H H' : Hp} {D : Addr} {ps : List (Addr × List (List Nat))} (h : LL H0 H D ps) (k : ∀ e ∈ ps, H' e.1 = H e.1) : LL H0 H' D ps := fun e he => ⟨(h e he).1, (h e he).2.1, by rw [k e he]; exact (h e he).2.2⟩
theorem ring_head {w : List Nat} (h : w ≠ []) : ∃ r, ringL w = w :: r := by
  unfold ringL
  have := lp_pos h
  obtain ⟨k, hk⟩ : ∃ k, lp w = k + 1 := ⟨lp w - 1, by omega⟩
  rw [hk, List.range_succ_eq_map, List.map_cons]
  refine ⟨_, congrArg (fun y => y :: _) ?_⟩
  rw [← hk]
  exact cy_zero this (lp_per h)
theorem strs_S (ws : List (List Nat)) : strsV ws = (ws.map S).map V.str := by
  unfold strsV
  rw [List.map_map]
  rfl
section
variable {P : Program} {w : World} {K : PySem.W.Frag} {mg : Str → Option Value} {base : Heap}
def spLr (C : Addr) : Sp := fun vs H Q _ => ∃ (p : Addr) (u : List Nat) (g : Nat), vs = [.ref p] ∧ GAt C H p u g ∧ Gd u g ∧ u.length ^ (2 * g - 2) ≤ 5000 ∧
  ∀ (L : Addr) (H' : Hp) (ps : List (Addr × List (List Nat))), H L = none → Same H H' → H' L = some (.lst (refsV ps)) → LL H H' L ps → ps.map (·.2) = rings u g → Q (.ref L) H'
end
end K4
set_option Elab.async false
set_option linter.all false
set_option maxRecDepth 100000
set_option maxHeartbeats 4000000
namespace K4
open PySem PySem.Spec PyProof.Rows L2 K4M K4S
/-- the law's own way to tell a period -/
def dt (x : List Nat) (p : Nat) : Bool := x.drop p == x.take (x.length - p)
section
variable {P : Program} {w : World} {K : PySem.W.Frag} {mg : Str → Option Value} {base : Heap}
theorem sc_rep : FnScope ["word", "gap", "period"] ["word", "gap"] (defScope st__law_repeats) := ⟨rfl, rfl, rfl, by decide +kernel, rfl, by decide +kernel, by decide +kernel⟩
def spRep : Sp := fun vs H Q _ => ∃ (x : List Nat) (g : Nat), vs = [.str (S x), .int (g : Int)] ∧ x ≠ [] ∧ x.length ≤ 2000 ∧ 1 ≤ g ∧ g ≤ x.length ∧ ∀ H', Same H H' → Q (.bl (decide (lp x < g))) H'
theorem ok_rep (B : Bi mg) (D : Df K mg "_law_repeats" st__law_repeats ["word", "gap"]) : FnOk P w K mg base CX0 1 D.f D.fd ["word", "gap"] spRep := by
  refine D.F.ok sc_rep (fun vs H Q E h => ?_) (fun cdv A outer s H vs Q E hr h => ?_)
  · obtain ⟨x, g, rfl, _⟩ := h
    rfl
  · obtain ⟨x, g, rfl, h0, hl, g1, hg, q⟩ := h
    have e16 : sizeLine = 16777216 := by decide
    have hs : (S x).length ≤ sizeLine := by rw [S_len]; omega
    refine ⟨_, (pss_one (ps_ret (pe_callB (cr_any rfl) (by rfl) B.any (by decide +kernel) (pa_cons (pe_lc (own := [("period", 2)]) (g := (gName 2)) (tt := tYes) rfl sc_rep.nd (pi_range2 (by rfl) B.range (pa_cons pe_int (pa_cons (pe_callB (call_min2 rfl) (by rfl) B.min (by decide +kernel) (pa_cons (pv 1) (pa_cons (pe_callB call_len_str (by rfl) B.len PySem.boot_len (pa_cons (pv 0) pa_nil)) pa_nil))) pa_nil))) (blkOk_by (N := ["word", "gap", "period"]) (sc := defScope st__law_repeats) (by decide +kernel)) (fun _ _ _ _ _ => (pg_name (i := 2) sc_rep.nd rfl (.inl rfl))) (fun _ _ _ _ _ => pts_nil) (fun _ _ _ _ _ => (pe_cmpR op_eq (pe_slice sl_str (pv 0) (po_some (pv 2)) po_none) (pe_slice sl_str (pv 0) po_none (po_some (pe_op op_sub (pe_callB call_len_str (by rfl) B.len PySem.boot_len (pa_cons (pv 0) pa_nil)) (pv 2)))) (nomark _)))) pa_nil)))), ?_⟩
    refine ⟨_, rfl, _, rfl, S x, rfl, hs, (g : Int), ((S x).length : Int), rfl, 1, (g : Int), by rw [if_neg (by rw [S_len]; omega)], ⟨by decide, by decide, by omega, by omega⟩, fun DD hD => ?_⟩
    refine lc_range (lo := 1) (n := ((g : Int) - 1).toNat) (fun i H3 => Same H H3 ∧ H3 DD = some (.lst (((List.range' 1 i).map (dt x)).map V.bl))) ⟨same_upd hD, upd_same⟩ ?_ ?_
    · rintro i H3 hi ⟨sm, hDD⟩
      have ei : (1 + (i : Int)) = ((i + 1 : Nat) : Int) := by omega
      refine ⟨rfl, ?_⟩
      rw [ei]
      refine ⟨_, rfl, _, rfl, ((i + 1 : Nat) : Int), rfl, S x, rfl, hs, _, rfl, _, rfl, S x, rfl, hs, _, rfl, _, _, rfl, rfl, ((x.length - (i + 1) : Nat) : Int), congrArg V.int (by rw [S_len]; omega), S x, rfl, hs, rfl, ?_⟩
      rw [cut_drop, cut_take, V_dec]
      refine ⟨_, hDD, ?_, fun c o e => ?_, ?_⟩
      · rw [List.length_map, List.length_map, List.length_range']
        omega
      · rw [upd_ne (ne_of_none e hD)]
        exact sm c o e
      · rw [upd_same, range_snoc', List.map_append, List.map_append]
        rfl
    · rintro H3 ⟨sm, hDD⟩
      rw [show ((g : Int) - 1).toNat = g - 1 by omega] at hDD
      refine ⟨DD, _, rfl, .inl (.inl hDD), bl_q ?_ (q H3 sm)⟩
      rw [List.any_map]
      exact law_rep h0 hg
def spLper : Sp := fun vs H Q _ => ∃ x : List Nat, vs = [.str (S x)] ∧ x ≠ [] ∧ x.length ≤ 2000 ∧ ∀ H', Same H H' → Q (.int (lp x : Int)) H'
theorem sc_md : FnScope ["ground"] ["ground"] (defScope st__law_made) := ⟨rfl, rfl, rfl, by decide +kernel, rfl, by decide +kernel, by decide +kernel⟩
def spMd (C : Addr) : Sp := fun vs H Q _ => ∃ (t : Addr) (u : List Nat) (g : Nat), vs = [.ref t] ∧ H t = some (.tup [.str (S u), .int (g : Int)]) ∧ Gd u g ∧ ∀ (x : Addr) (H' : Hp), H x = none → Same H H' → GAt C H' x u g → Q (.ref x) H'
theorem ok_md {C : Addr} (T : Gr K mg C) (D : Df K mg "_law_made" st__law_made ["ground"]) (M : Ma P w K mg base C 3 ["self", "signs", "gap"] (spInit C)) : FnOk P w K mg base CX0 5 D.f D.fd ["ground"] (spMd C) := by
  refine D.F.ok sc_md (fun vs H Q E h => ?_) (fun cdv A outer s H vs Q E hr h => ?_)
  · obtain ⟨t, u, g, rfl, _⟩ := h
    rfl
  · obtain ⟨t, u, g, rfl, ht, G, q⟩ := h
    refine ⟨_, pss_one (ps_ret (pe_make M.mm M.ok hr (by rfl) T.g M.b .nil pass0 (pa_cons (pe_ix (r := rIxT K) ix_tup (pv 0) pe_int (fun _ _ => rfl)) (pa_cons (pe_ix (r := rIxT K) ix_tup (pv 0) pe_int (fun _ _ => rfl)) pa_nil)))), ?_⟩
    refine ⟨_, rfl, t, _, 0, .str (S u), rfl, rfl, .inl (.inl ht), atI_nat (j := 0) rfl, _, rfl, t, _, 1, .int (g : Int), rfl, rfl, .inl (.inl ht), atI_nat (j := 1) rfl, fun x dx hx hdx ne => ?_⟩
    refine ⟨x, dx, u, g, rfl, upd_same, G, fun H' kp ga => ⟨rfl, q x H' hx (fun b o e => kp b o ?_ (ne_of_none e hx)) ga⟩⟩
    rw [upd_ne (ne_of_none e hx), upd_ne (ne_of_none e hdx)]
    exact e
theorem sc_mg : FnScope ["dice"] ["dice"] (defScope st__law_many_ground) := ⟨rfl, rfl, rfl, by decide +kernel, rfl, by decide +kernel, by decide +kernel⟩
def spMg : Sp := fun vs H Q _ => ∃ (d : Addr) (n : Nat), vs = [.ref d] ∧ Dice H d n ∧ n < 2 ^ 57 ∧ ∀ (p : Addr) (H' : Hp) (u : List Nat) (g : Nat), H p = none → Kept H H' d → H' p = some (.tup [.str (S u), .int (g : Int)]) → Gd u g → u.length ^ (2 * g - 2) ≤ 5000 → Q (.ref p) H'
theorem ok_mg (D : Df K mg "_law_many_ground" st__law_many_ground ["dice"]) (CD : Cal P w K mg base 2 "_law_draw" ["dice", "many"] spDraw) (CL : Cal P w K mg base 3 "_law_letters" ["dice", "many"] spLetters) : FnOk P w K mg base CX0 4 D.f D.fd ["dice"] spMg := by
  refine D.F.ok sc_mg (fun vs H Q E h => ?_) (fun cdv A outer s H vs Q E hr h => ?_)
  · obtain ⟨d, n, rfl, _⟩ := h
    rfl
  · obtain ⟨d, n, rfl, hD, hn, q⟩ := h
    have two : 2 ≤ sizeLine := by show 2 ≤ sizeLine; decide
    have r2 : Room 2 _ := hr.mono (by decide)
    refine ⟨_, (pss_one (ps_ret (pe_ifExp (pt_cmpR op_eq (pcall CD r2 (by rfl) (pa_cons (pv 0) (pa_cons pe_int pa_nil))) pe_int (nomark _)) (pe_tup (pa_cons (pcall CL hr (by rfl) (pa_cons (pv 0) (pa_cons pe_int pa_nil))) (pa_cons pe_int pa_nil))) (pe_tup (pa_cons (pcall CL hr (by rfl) (pa_cons (pv 0) (pa_cons pe_int pa_nil))) (pa_cons pe_int pa_nil)))))), ?_⟩
    refine ⟨_, rfl, d, 2, n, rfl, hD, by omega, by decide, by decide, fun r H1 r0 r1 hD1 k1 => ⟨rfl, _, rfl, ?_⟩⟩
    have fin : ∀ (m g : Nat) (hm : m ≤ 26) (h2 : 2 ≤ m) (hg : 2 ≤ g) (hg2 : g ≤ 1000) (h5 : m ^ (2 * g - 2) ≤ 5000) (u : List Nat) (H2 : Hp), u.length = m → Low u → u.Pairwise (· < ·) → Kept H1 H2 d → Dice H2 d (n + 1 + m) → ∀ p, H2 p = none → Q (.ref p) (upd H2 p (.tup [.str (S u), .int (g : Int)])) := by
      intro m g hm h2 hg hg2 h5 u H2 hu hl hp k2 hD2 p hpn
      have hpd : p ≠ d := hD2.ne hpn
      refine q p _ u g ?_ (k1.trans (k2.trans (Kept.of (same_upd hpn)))) upd_same ⟨hl, hp, by omega, by omega, hg, hg2⟩ (by rw [hu]; exact h5)
      cases e : H p with
      | none => rfl
      | some o =>
        have := k2 _ _ hpd (k1 _ _ hpd e)
        rw [hpn] at this
        cases this
    rw [dec_int]
    by_cases hz : r = 0
    · rw [beq_iff_eq.mpr hz]
      refine iteT ?_
      exact ⟨_, rfl, d, 10, n + 1, rfl, hD1, by omega, by decide, fun u H2 hu hl hp hD2 k2 => ⟨two, fun p hpn => fin 10 2 (by decide) (by decide) (by decide) (by decide) (by decide) u H2 hu hl hp k2 hD2 p hpn⟩⟩
    · rw [beq_eq_false_iff_ne.mpr hz]
      refine iteF ?_
      exact ⟨_, rfl, d, 2, n + 1, rfl, hD1, by omega, by decide, fun u H2 hu hl hp hD2 k2 => ⟨two, fun p hpn => fin 2 5 (by decide) (by decide) (by decide) (by decide) (by decide) u H2 hu hl hp k2 hD2 p hpn⟩⟩
end
end K4
set_option Elab.async false
set_option linter.all false
set_option maxRecDepth 100000
set_option maxHeartbeats 4000000
namespace K4
open PySem PySem.Spec PyProof.Rows L2 K4M K4S
theorem atI_m1 {α : Type} {xs : List α} {v : α} (h : xs[xs.length - 1]? = some v) : atI xs (-1) = some v := by
  have hl : 0 < xs.length := by have := (List.getElem?_eq_some_iff.mp h).1; omega
  unfold atI ixN
  rw [if_neg (by decide), if_pos (by omega)]
  show xs[((-1 : Int) + (xs.length : Int)).toNat]? = some v
  rw [show ((-1 : Int) + (xs.length : Int)).toNat = xs.length - 1 by omega]
  exact h
theorem merge_some : ∀ (more kvs : List (Key × V)) (k : Key), (valV (mergeK kvs more) k).isSome = ((valV kvs k).isSome || more.any fun e => decide (e.1 = k))
  | [], kvs, k => by
    rw [List.any_nil, Bool.or_false]
    rfl
  | e :: r, kvs, k => by
    show (valV (mergeK (putK kvs e.1 e.2) r) k).isSome = _
    rw [merge_some r, valV_put, List.any_cons]
    by_cases h : k = e.1
    · rw [if_pos h, decide_eq_true h.symm]
      simp
    · rw [if_neg h, decide_eq_false (fun z => h z.symm)]
      simp
/-- what the law has seen: the windows of the rings of the windows so far -/
def Seen (kvs : List (Key × V)) (bs : List (List Nat)) : Prop := ∀ k : List Nat, (valV kvs (Sum.inr (S k))).isSome = true ↔ ∃ v ∈ bs, k ∈ ringL v
/-- the first turns of a ring -/
def rs (v : List Nat) (k : Nat) : List (List Nat) := (List.range k).map fun j => cy v (lp v) j v.length
theorem rs_len (v : List Nat) (k : Nat) : (rs v k).length = k := by unfold rs; rw [List.length_map, List.length_range]
theorem rs_succ (v : List Nat) (k : Nat) : rs v (k + 1) = rs v k ++ [cy v (lp v) k v.length] := by unfold rs; rw [List.range_succ, List.map_append]; rfl
theorem rs_one {v : List Nat} (h : v ≠ []) : rs v 1 = [v] := by
  rw [rs_succ]
  show [cy v (lp v) 0 v.length] = [v]
  rw [cy_zero (lp_pos h) (lp_per h)]
theorem rs_last (v : List Nat) (k : Nat) : (strsV (rs v (k + 1)))[(strsV (rs v (k + 1))).length - 1]? = some (V.str (S (cy v (lp v) k v.length))) := by
  rw [strs_len, rs_len, Nat.add_sub_cancel, rs_succ, strs_app, List.getElem?_append_right (by rw [strs_len, rs_len]; exact Nat.le_refl _), strs_len, rs_len, Nat.sub_self]
  rfl
theorem S_at {x : List Nat} {i : Nat} (h : i < x.length) : (S x).cps.toList[i]? = some (x.getD i 0) := by
  show x[i]? = _
  rw [List.getD_eq_getElem?_getD, List.getElem?_eq_getElem h]
  rfl
/-- the pairs of a ring's windows -/
def trues (ws : List (List Nat)) : List (Key × V) := ws.map fun v => (Sum.inr (S v), V.bl true)
theorem trues_any (ws : List (List Nat)) (k : List Nat) : ((trues ws).any fun e => decide (e.1 = (Sum.inr (S k) : Key))) = true ↔ k ∈ ws := by
  unfold trues
  rw [List.any_map, List.any_eq_true]
  constructor
  · rintro ⟨v, hv, e⟩
    have : (Sum.inr (S v) : Key) = Sum.inr (S k) := of_decide_eq_true e
    rw [← S_inj (Sum.inr.inj this)]
    exact hv
  · intro h
    exact ⟨k, h, decide_eq_true rfl⟩
theorem paired_at {α β : Type} {F : α → β → Prop} : ∀ {l₁ : List α} {l₂ : List β}, l₁.length = l₂.length → (∀ (i : Nat) (a : α) (b : β), l₁[i]? = some a → l₂[i]? = some b → F a b) → Paired F l₁ l₂
  | [], [], _, _ => .nil
  | a :: l, b :: m, hl, h => .cons (h 0 a b rfl rfl) (paired_at (by simpa using hl) fun i x y hx hy => h (i + 1) x y hx hy)
  | [], _ :: _, hl, _ => by cases hl
  | _ :: _, [], hl, _ => by cases hl
theorem Seen.add {kvs : List (Key × V)} {cs : List Nat} {g i : Nat} {v : List Nat} (hv : (bad cs g)[i]? = some v) (h : Seen kvs ((bad cs g).take i)) : Seen (mergeK kvs (mergeK [] (trues (ringL v)))) ((bad cs g).take (i + 1)) := fun k => by
  have e : ((mergeK [] (trues (ringL v))).any fun e => decide (e.1 = (Sum.inr (S k) : Key))) = (valV (mergeK [] (trues (ringL v))) (Sum.inr (S k))).isSome := valV_any _ _
  rw [merge_some, e, merge_some, seen_more hv, Bool.or_eq_true, h k]
  rw [Bool.or_eq_true, trues_any]
  constructor
  · rintro (z | z | z)
    · exact .inl z
    · cases z
    · exact .inr z
  · rintro (z | z)
    · exact .inl z
    · exact .inr (.inr z)
theorem Seen.skip {kvs : List (Key × V)} {cs : List Nat} {g i : Nat} {v : List Nat} (hg : 2 ≤ g) (hv : (bad cs g)[i]? = some v) (h : Seen kvs ((bad cs g).take i)) (hs : ∃ u ∈ (bad cs g).take i, v ∈ ringL u) : Seen kvs ((bad cs g).take (i + 1)) := fun k => by
  rw [h k, seen_more hv]
  constructor
  · exact .inl
  · rintro (z | z)
    · exact z
    · exact seen_skip hg hs z
theorem bad_ne {cs : List Nat} {g : Nat} (hg : 2 ≤ g) (h : cs ≠ []) : bad cs g ≠ [] := fun z => by
  obtain ⟨c, r, rfl⟩ : ∃ c r, cs = c :: r := by
    cases cs with
    | nil => exact absurd rfl h
    | cons c r => exact ⟨c, r, rfl⟩
  have hne : List.replicate (2 * g - 2) c ≠ [] := fun y => by
    have := congrArg List.length y
    simp at this
    omega
  have hp : Per (List.replicate (2 * g - 2) c) 1 := fun i hi => by
    rw [List.length_replicate] at hi
    rw [List.getElem?_replicate, List.getElem?_replicate, if_pos (by omega), if_pos hi]
  have : List.replicate (2 * g - 2) c ∈ bad (c :: r) g := by
    refine bad_mem.mpr ⟨⟨List.length_replicate, fun d hd => by rw [List.eq_of_mem_replicate hd]; exact List.mem_cons_self⟩, ?_⟩
    have := lp_le hne (by decide) hp
    omega
  rw [z] at this
  cases this
theorem rings_ne {cs : List Nat} {g : Nat} (hc : cs.Pairwise (· < ·)) (hg : 2 ≤ g) (h : cs ≠ []) : ∃ w r, rings cs g = ringL w :: r := by
  have hb := bad_ne hg h
  cases e : bad cs g with
  | nil => exact absurd e hb
  | cons w r =>
    have hw : (bad cs g)[0]? = some w := by rw [e]; rfl
    have hl : least w = true := by
      cases z : least w with
      | true => rfl
      | false =>
        obtain ⟨u, hu, _⟩ := (seen_step hc hg hw).mpr z
        rw [List.take_zero] at hu
        cases hu
    refine ⟨w, (r.filter least).map ringL, ?_⟩
    unfold rings
    rw [e, List.filter_cons_of_pos hl]
    rfl
theorem strs_flat (ws : List (List Nat)) : ∀ x ∈ strsV ws, Flat x := fun x hx => by
  obtain ⟨v, _, rfl⟩ := List.mem_map.mp hx
  exact True.intro
theorem strs_flatV (ws : List (List Nat)) : (strsV ws).all flatV = true := by
  unfold strsV
  rw [List.all_map, List.all_eq_true]
  intro x _
  rfl
theorem inV_strs (v : List Nat) (ws : List (List Nat)) : inV (.str (S v)) (strsV ws) = ws.contains v := by
  unfold inV strsV
  rw [List.any_map, Bool.eq_iff_iff, List.any_eq_true, List.contains_iff_mem]
  constructor
  · rintro ⟨x, hx, h⟩
    have h2 : (S x == S v) = true := h
    have h3 : x = v := S_inj (eq_of_beq h2)
    rw [← h3]
    exact hx
  · intro h
    exact ⟨v, h, beq_self_eq_true (S v)⟩
theorem Eqv.rings {K : PySem.W.Frag} {H : Hp} {L L' : Addr} {qs ps : List (Addr × List (List Nat))} (h1 : H L = some (.lst (refsV qs))) (h2 : H L' = some (.lst (refsV ps))) (lq : ∀ e ∈ qs, H e.1 = some (.lst (strsV e.2))) (lp : ∀ e ∈ ps, H e.1 = some (.lst (strsV e.2)))
    (e : qs.map (·.2) = ps.map (·.2)) (hl : qs.length ≤ 100000) (hb : ∀ e ∈ qs, e.2.length ≤ 100000) : Eqv K H 2 (.ref L) (.ref L') := by
  have el : qs.length = ps.length := by
    have := congrArg List.length e
    rw [List.length_map, List.length_map] at this
    exact this
  refine .inr ⟨L, L', refsV qs, refsV ps, rfl, rfl, by rw [refs_len]; exact hl, by rw [refs_len, refs_len]; exact el, .inl ⟨.inl (.inl h1), .inl (.inl h2)⟩, fun i a b ha hb' => ?_⟩
  obtain ⟨q, hq, rfl⟩ := refs_at ha
  obtain ⟨p, hp, rfl⟩ := refs_at hb'
  have e2 : q.2 = p.2 := by
    have := congrArg (fun l => l[i]?) e
    simp only [List.getElem?_map, hq, hp, Option.map_some] at this
    exact Option.some.inj this
  have m1 := lq q (List.mem_of_getElem? hq)
  have m2 := lp p (List.mem_of_getElem? hp)
  rw [← e2] at m2
  exact Eqv.list (.inl (.inl m1)) (.inl (.inl m2)) (by rw [strs_len]; exact hb q (List.mem_of_getElem? hq)) (strs_flat _)
theorem ring_of {cs : List Nat} {g : Nat} {ps : List (Addr × List (List Nat))} (e : ps.map (·.2) = rings cs g) {p : Addr × List (List Nat)} (hp : p ∈ ps) : ∃ v ∈ bad cs g, p.2 = ringL v := by
  have : p.2 ∈ rings cs g := by rw [← e]; exact List.mem_map.mpr ⟨p, hp, rfl⟩
  obtain ⟨v, hv, ev⟩ := List.mem_map.mp this
  exact ⟨v, (List.mem_filter.mp hv).1, ev.symm⟩
theorem cut_mem {xs : List V} {lo hi : Option Int} {x : V} (h : x ∈ cutV xs lo hi) : x ∈ xs := by
  unfold cutV at h
  exact List.mem_of_mem_drop (List.mem_of_mem_take h)
end K4
set_option Elab.async false
set_option linter.all false
set_option maxRecDepth 100000
set_option maxHeartbeats 4000000
namespace K4
open PySem PySem.Spec PyProof.Rows L2 K4M K4S
theorem nats_can : ∀ l : List Nat, PyData.canLayAll0 (l.map fun (d : Nat) => PyData.int (d : Int)) = true
  | [] => rfl
  | d :: r => by
    rw [List.map_cons]
    unfold PyData.canLayAll0
    rw [nats_can r]
    rfl
theorem nats_depth : ∀ l : List Nat, PyData.depthAll (l.map fun (d : Nat) => PyData.int (d : Int)) ≤ 1
  | [] => Nat.zero_le _
  | d :: r => by
    rw [List.map_cons]
    exact Nat.max_le.mpr ⟨Nat.zero_le _, nats_depth r⟩
theorem nats_shaped (l : List Nat) : SeqAt.shaped (.list (l.map fun (d : Nat) => PyData.int (d : Int))) = true := by
  unfold SeqAt.shaped
  rw [Bool.and_eq_true]
  refine ⟨?_, decide_eq_true ?_⟩
  · unfold PyData.canLay0
    exact nats_can l
  · have := nats_depth l
    show PyData.depthAll _ + 1 ≤ 64
    omega
theorem nats_dp {K : PySem.W.Frag} {H : Hp} : ∀ l : List Nat, DpAll K H (natsV l) (l.map fun (d : Nat) => PyData.int (d : Int))
  | [] => .nil
  | d :: r => .cons (.int _) (nats_dp r)
theorem nats_eqv (l : List Nat) : PyData.eqv (.list (l.map fun (d : Nat) => PyData.int (d : Int))) (.list []) = (l == []) := by
  cases l with
  | nil => rfl
  | cons d r => rfl
/-- what near_text tells: a tuple of a text and two positions -/
def ntV (g : Nat) (x y : List Nat) : List V := if dist g x y != [] then [.str (S (x.take ((dist g x y).headD 0) ++ y)), .int 0, .int (((dist g x y).headD 0 : Nat) : Int)] else [.str (S (y.take ((dist g y x).headD 0) ++ x)), .int (((dist g y x).headD 0 : Nat) : Int), .int 0]
section
variable {P : Program} {w : World} {K : PySem.W.Frag} {mg : Str → Option Value} {base : Heap}
theorem sc_c2 : FnScope ["ground", "one", "other"] ["ground", "one", "other"] (defScope st__check_two) := ⟨rfl, rfl, rfl, by decide +kernel, rfl, by decide +kernel, by decide +kernel⟩
def spC2 (C : Addr) : Sp := fun vs H Q _ => ∃ (p : Addr) (u : List Nat) (g : Nat) (x y : List Nat), vs = [.ref p, .str (S x), .str (S y)] ∧ GAt C H p u g ∧ Gd u g ∧ x ∈ wl u (2 * g - 2) ∧ y ∈ wl u (2 * g - 2) ∧ Q .non H
theorem ok_c2 {C : Addr} (D : Df K mg "_check_two" st__check_two ["ground", "one", "other"]) (CG : Cal P w K mg base 1 "check_ground" ["value"] (spCg C)) (CW : Cal P w K mg base 4 "check_window" ["ground", "value"] (spCw C)) : FnOk P w K mg base CX0 5 D.f D.fd ["ground", "one", "other"] (spC2 C) := by
  refine D.F.ok sc_c2 (fun vs H Q E h => ?_) (fun cdv A outer s H vs Q E hr h => ?_)
  · obtain ⟨p, u, g, x, y, rfl, _⟩ := h
    rfl
  · obtain ⟨p, u, g, x, y, rfl, ga, G, hx, hy, q⟩ := h
    have r1 : Room 1 _ := hr.mono (by decide)
    have g2 := G.gap
    have gm := G.max
    refine ⟨_, (pss_cons (ps_expr (pcall CG r1 (by rfl) (pa_cons (pv 0) pa_nil))) (pss_cons (ps_expr (pcall CW hr (by rfl) (pa_cons (pv 0) (pa_cons (pv 1) pa_nil)))) (pss_one (ps_expr (pcall CW hr (by rfl) (pa_cons (pv 0) (pa_cons (pv 2) pa_nil))))))), ?_⟩
    exact ⟨_, rfl, p, u, g, rfl, ga, _, rfl, _, rfl, p, u, g, x, rfl, ga, by omega, by omega, hx, _, rfl, _, rfl, p, u, g, y, rfl, ga, by omega, by omega, hy, q⟩
theorem sc_db : FnScope ["gap", "one", "other", "distance"] ["gap", "one", "other"] (defScope st__distances_behind) := ⟨rfl, rfl, rfl, by decide +kernel, rfl, by decide +kernel, by decide +kernel⟩
def spDb : Sp := fun vs H Q _ => ∃ (g : Nat) (x y : List Nat), vs = [.int (g : Int), .str (S x), .str (S y)] ∧ 1 ≤ g ∧ g ≤ 1000 ∧ x.length ≤ 2000 ∧ y.length ≤ 2000 ∧ ∀ (L : Addr) (H' : Hp), H L = none → Same H H' → H' L = some (.lst (natsV (dist g x y))) → Q (.ref L) H'
theorem ok_db (B : Bi mg) (D : Df K mg "_distances_behind" st__distances_behind ["gap", "one", "other"]) : FnOk P w K mg base CX0 1 D.f D.fd ["gap", "one", "other"] spDb := by
  refine D.F.ok sc_db (fun vs H Q E h => ?_) (fun cdv A outer s H vs Q E hr h => ?_)
  · obtain ⟨g, x, y, rfl, _⟩ := h
    rfl
  · obtain ⟨g, x, y, rfl, g1, gm, hx, hy, q⟩ := h
    have e16 : sizeLine = 16777216 := by decide
    have hs : (S x).length ≤ sizeLine := by rw [S_len]; omega
    refine ⟨_, (pss_one (ps_ret (pe_lc (own := [("distance", 3)]) (g := (gName 3)) rfl sc_db.nd (pi_range2 (by rfl) B.range (pa_cons pe_int (pa_cons (pv 0) pa_nil))) (blkOk_by (N := ["gap", "one", "other", "distance"]) (sc := defScope st__distances_behind) (by decide +kernel)) (fun _ _ _ _ _ => (pg_name (i := 3) sc_db.nd rfl (.inl rfl))) (fun _ _ _ _ _ => (pts_one (pt_val (pe_m1 PySem.F.slot_str_startswith PySem.F.type_str_startswith mt_startswith (pv 2) (pe_slice sl_str (pv 1) (po_some (pv 3)) po_none))))) (fun _ _ _ _ _ => (pv 3))))), ?_⟩
    refine ⟨_, rfl, 1, (g : Int), rfl, ⟨by decide, by decide, by omega, by omega⟩, fun DD hD => ?_⟩
    refine lc_range (lo := 1) (n := ((g : Int) - 1).toNat) (fun i H3 => Same H H3 ∧ H3 DD = some (.lst (natsV ((List.range' 1 i).filter fun d => (x.drop d).isPrefixOf y)))) ⟨same_upd hD, upd_same⟩ ?_ ?_
    · rintro i H3 hi ⟨sm, hDD⟩
      have ei : (1 + (i : Int)) = ((i + 1 : Nat) : Int) := by omega
      refine ⟨rfl, ?_⟩
      rw [ei]
      refine ⟨_, rfl, ⟨_, rfl⟩, _, rfl, _, rfl, ((i + 1 : Nat) : Int), rfl, S x, rfl, hs, S y, _, rfl, rfl, ?_⟩
      rw [cut_drop, starts]
      refine ⟨_, rfl, ?_⟩
      cases hb : (x.drop (i + 1)).isPrefixOf y with
      | true =>
        refine iteT ⟨_, rfl, _, hDD, ?_, fun c o e => ?_, ?_⟩
        · unfold natsV
          rw [List.length_map]
          have := List.length_filter_le (fun d => (x.drop d).isPrefixOf y) (List.range' 1 i)
          rw [List.length_range'] at this
          omega
        · rw [upd_ne (ne_of_none e hD)]
          exact sm c o e
        · rw [upd_same, range_snoc', List.filter_append, List.filter_cons_of_pos (p := fun d => (x.drop d).isPrefixOf y) hb]
          unfold natsV
          rw [List.map_append]
          rfl
      | false =>
        refine iteF ⟨sm, ?_⟩
        rw [hDD, range_snoc', List.filter_append, List.filter_cons_of_neg (by rw [hb]; exact Bool.false_ne_true)]
        simp
    · rintro H3 ⟨sm, hDD⟩
      rw [show ((g : Int) - 1).toNat = g - 1 by omega] at hDD
      exact q DD H3 hD sm hDD
theorem sc_nt : FnScope ["ground", "one", "other", "behind", "ahead"] ["ground", "one", "other"] (defScope st_near_text) := ⟨rfl, rfl, rfl, by decide +kernel, rfl, by decide +kernel, by decide +kernel⟩
def spNt (C : Addr) : Sp := fun vs H Q _ => ∃ (p : Addr) (u : List Nat) (g : Nat) (x y : List Nat), vs = [.ref p, .str (S x), .str (S y)] ∧ GAt C H p u g ∧ Gd u g ∧ x ∈ wl u (2 * g - 2) ∧ y ∈ wl u (2 * g - 2) ∧
  (near g x y = true → ∀ (T : Addr) (H' : Hp), H T = none → Same H H' → H' T = some (.tup (ntV g x y)) → Q (.ref T) H') ∧ (near g x y = false → ∀ H', Same H H' → Q .non H')
theorem ok_nt {C : Addr} (T : Gr K mg C) (D : Df K mg "near_text" st_near_text ["ground", "one", "other"]) (C2 : Cal P w K mg base 5 "_check_two" ["ground", "one", "other"] (spC2 C)) (CD : Cal P w K mg base 1 "_distances_behind" ["gap", "one", "other"] spDb) (MG : Mt P w K mg base C 1 "gap" ["self"] (spGg C)) :
    FnOk P w K mg base CX0 6 D.f D.fd ["ground", "one", "other"] (spNt C) := by
  refine D.F.ok sc_nt (fun vs H Q E h => ?_) (fun cdv A outer s H vs Q E hr h => ?_)
  · obtain ⟨p, u, g, x, y, rfl, _⟩ := h
    rfl
  · obtain ⟨p, u, g, x, y, rfl, ⟨dx, hp⟩, G, hx, hy, q1, q2⟩ := h
    have r1 : Room 1 _ := hr.mono (by decide)
    have g2 := G.gap
    have gm := G.max
    have e16 : sizeLine = 16777216 := by decide
    obtain ⟨hxl, _⟩ := wl_mem.mp hx
    obtain ⟨hyl, _⟩ := wl_mem.mp hy
    have hsx : (S x).length ≤ sizeLine := by rw [S_len]; omega
    have hsy : (S y).length ≤ sizeLine := by rw [S_len]; omega
    refine ⟨_, (pss_cons (ps_expr (pcall C2 (hr.mono (by decide)) (by rfl) (pa_cons (pv 0) (pa_cons (pv 1) (pa_cons (pv 2) pa_nil))))) (pss_cons (ps_set (i := 3) sc_nt.nd rfl (.inl rfl) (pcall CD r1 (by rfl) (pa_cons (pe_meth0 (pv 0) T.cl MG.me MG.ok r1 MG.b .nil pass0) (pa_cons (pv 1) (pa_cons (pv 2) pa_nil))))) (pss_cons (ps_if (pt_cmpR (r := rNeD K) (op_neD hr.units) (pv 3) (pe_lst pa_nil) (nomark _)) (pss_one (ps_ret (pe_tup (pa_cons (pe_op op_add_str (pe_slice sl_str (pv 1) po_none (po_some (pe_ix (r := rIxL K) ix_list (pv 3) pe_int (fun _ _ => rfl)))) (pv 2)) (pa_cons pe_int (pa_cons (pe_ix (r := rIxL K) ix_list (pv 3) pe_int (fun _ _ => rfl)) pa_nil)))))) pss_nil) (pss_cons (ps_set (i := 4) sc_nt.nd rfl (.inl rfl) (pcall CD r1 (by rfl) (pa_cons (pe_meth0 (pv 0) T.cl MG.me MG.ok r1 MG.b .nil pass0) (pa_cons (pv 2) (pa_cons (pv 1) pa_nil))))) (pss_cons (ps_if (pt_cmpR (r := rNeD K) (op_neD hr.units) (pv 4) (pe_lst pa_nil) (nomark _)) (pss_one (ps_ret (pe_tup (pa_cons (pe_op op_add_str (pe_slice sl_str (pv 2) po_none (po_some (pe_ix (r := rIxL K) ix_list (pv 4) pe_int (fun _ _ => rfl)))) (pv 1)) (pa_cons (pe_ix (r := rIxL K) ix_list (pv 4) pe_int (fun _ _ => rfl)) (pa_cons pe_int pa_nil)))))) pss_nil) (pss_one (ps_ret pe_non))))))), ?_⟩
    refine ⟨_, rfl, _, rfl, _, rfl, p, u, g, x, y, rfl, ⟨dx, hp⟩, G, hx, hy, ?_⟩
    refine ⟨_, rfl, p, dx, _, rfl, hp, gf_no noG noG2, p, u, g, rfl, ⟨dx, hp⟩, _, rfl, _, rfl, g, x, y, rfl, by omega, by omega, by omega, by omega, fun L1 H1 hL1 s1 e1 => ?_⟩
    refine ⟨_, rfl, Nat.zero_le _, fun E1 hE1 => ?_⟩
    have s2 := same_upd (o := .lst []) hE1
    have e1' := s2 _ _ e1
    have eE := upd_same (H := H1) (a := E1) (o := .lst [])
    revert s2 e1' eE
    generalize upd H1 E1 (.lst []) = H2
    intro s2 e1' eE
    refine ⟨_, _, .lst (.inl (.inl e1')) (nats_dp _), .lst (.inl (.inl eE)) .nil, nats_shaped _, rfl, _, rfl, ?_⟩
    have s02 := s1.trans s2
    rw [nats_eqv]
    have fresh : ∀ T, H2 T = none → H T = none := fun T hT => s02.free hT
    cases ed : dist g x y with
    | cons d r =>
      refine iteT ?_
      have hat : atI (natsV (d :: r)) 0 = some (.int (d : Int)) := atI_nat (j := 0) rfl
      rw [ed] at e1'
      refine ⟨_, rfl, _, rfl, L1, _, 0, _, rfl, rfl, .inl (.inl e1'), hat, _, rfl, S x, rfl, hsx, _, rfl, _, _, rfl, rfl, by rw [cut_take, S_len, S_len, List.length_take]; omega, _, rfl, L1, _, 0, _, rfl, rfl, .inl (.inl e1'), hat, by show 3 ≤ sizeLine; decide, fun T hT => ?_⟩
      refine q1 (by unfold near; rw [ed]; rfl) T _ (fresh T hT) (s02.trans (same_upd hT)) ?_
      rw [upd_same, cut_take, S_app]
      unfold ntV
      rw [ed]
      rfl
    | nil =>
      refine iteF ?_
      have hp2 := s02 _ _ hp
      refine ⟨_, rfl, p, dx, _, rfl, hp2, gf_no noG noG2, p, u, g, rfl, ⟨dx, hp2⟩, _, rfl, _, rfl, g, y, x, rfl, by omega, by omega, by omega, by omega, fun L2' H3 hL3 s3 e3 => ?_⟩
      refine ⟨_, rfl, Nat.zero_le _, fun E2 hE2 => ?_⟩
      have s4 := same_upd (o := .lst []) hE2
      have e3' := s4 _ _ e3
      have eE2 := upd_same (H := H3) (a := E2) (o := .lst [])
      revert s4 e3' eE2
      generalize upd H3 E2 (.lst []) = H4
      intro s4 e3' eE2
      refine ⟨_, _, .lst (.inl (.inl e3')) (nats_dp _), .lst (.inl (.inl eE2)) .nil, nats_shaped _, rfl, _, rfl, ?_⟩
      have s04 := s02.trans (s3.trans s4)
      rw [nats_eqv]
      cases ed2 : dist g y x with
      | cons d r =>
        refine iteT ?_
        have hat : atI (natsV (d :: r)) 0 = some (.int (d : Int)) := atI_nat (j := 0) rfl
        rw [ed2] at e3'
        refine ⟨_, rfl, _, rfl, L2', _, 0, _, rfl, rfl, .inl (.inl e3'), hat, _, rfl, S y, rfl, hsy, _, rfl, _, _, rfl, rfl, by rw [cut_take, S_len, S_len, List.length_take]; omega, _, rfl, L2', _, 0, _, rfl, rfl, .inl (.inl e3'), hat, by show 3 ≤ sizeLine; decide, fun T hT => ?_⟩
        refine q1 (by unfold near; rw [ed, ed2]; rfl) T _ (s04.free hT) (s04.trans (same_upd hT)) ?_
        rw [upd_same, cut_take, S_app]
        unfold ntV
        rw [ed, ed2]
        rfl
      | nil =>
        refine iteF ?_
        exact q2 (by unfold near; rw [ed, ed2]; rfl) H4 s04
theorem sc_an : FnScope ["ground", "one", "other"] ["ground", "one", "other"] (defScope st_are_near) := ⟨rfl, rfl, rfl, by decide +kernel, rfl, by decide +kernel, by decide +kernel⟩
def spAn (C : Addr) : Sp := fun vs H Q _ => ∃ (p : Addr) (u : List Nat) (g : Nat) (x y : List Nat), vs = [.ref p, .str (S x), .str (S y)] ∧ GAt C H p u g ∧ Gd u g ∧ x ∈ wl u (2 * g - 2) ∧ y ∈ wl u (2 * g - 2) ∧ ∀ H', Same H H' → Q (.bl (near g x y)) H'
theorem ok_an {C : Addr} (D : Df K mg "are_near" st_are_near ["ground", "one", "other"]) (CN : Cal P w K mg base 6 "near_text" ["ground", "one", "other"] (spNt C)) : FnOk P w K mg base CX0 7 D.f D.fd ["ground", "one", "other"] (spAn C) := by
  refine D.F.ok sc_an (fun vs H Q E h => ?_) (fun cdv A outer s H vs Q E hr h => ?_)
  · obtain ⟨p, u, g, x, y, rfl, _⟩ := h
    rfl
  · obtain ⟨p, u, g, x, y, rfl, ga, G, hx, hy, q⟩ := h
    refine ⟨_, (pss_one (ps_ret (pe_cmpR op_notN (pcall CN hr (by rfl) (pa_cons (pv 0) (pa_cons (pv 1) (pa_cons (pv 2) pa_nil)))) pe_non (nomark _)))), ?_⟩
    refine ⟨_, rfl, _, rfl, _, rfl, p, u, g, x, y, rfl, ga, G, hx, hy, fun hn T H' hT s1 eT => ⟨rfl, ?_⟩, fun hn H' s1 => ⟨rfl, ?_⟩⟩
    · have := q H' s1
      rw [hn] at this
      exact this
    · have := q H' s1
      rw [hn] at this
      exact this
theorem sc_ow : FnScope ["ground", "window"] ["ground"] (defScope st_own_windows) := ⟨rfl, rfl, rfl, by decide +kernel, rfl, by decide +kernel, by decide +kernel⟩
def spOw (C : Addr) : Sp := fun vs H Q _ => ∃ (p : Addr) (u : List Nat) (g : Nat), vs = [.ref p] ∧ GAt C H p u g ∧ Gd u g ∧ u.length ^ (2 * g - 2) ≤ 5000 ∧ ∀ (L : Addr) (H' : Hp), H L = none → Same H H' → H' L = some (.lst (strsV (own u g))) → Q (.ref L) H'
theorem ok_ow {C : Addr} (D : Df K mg "own_windows" st_own_windows ["ground"]) (CW : Cal P w K mg base 3 "windows" ["ground"] (spWin C)) (CO : Cal P w K mg base 6 "is_own" ["ground", "window"] (spOwn C)) : FnOk P w K mg base CX0 7 D.f D.fd ["ground"] (spOw C) := by
  refine D.F.ok sc_ow (fun vs H Q E h => ?_) (fun cdv A outer s H vs Q E hr h => ?_)
  · obtain ⟨p, u, g, rfl, _⟩ := h
    rfl
  · obtain ⟨p, u, g, rfl, ga, G, h5, q⟩ := h
    have e16 : sizeLine = 16777216 := by decide
    have r2 : Room 2 _ := hr.mono (by decide)
    refine ⟨_, (pss_one (ps_ret (pe_lc (own := [("window", 1)]) (g := (gName 1)) rfl sc_ow.nd (pi_list (pcall CW (hr.mono (by decide)) (by rfl) (pa_cons (pv 0) pa_nil))) (blkOk_by (N := ["ground", "window"]) (sc := defScope st_own_windows) (by decide +kernel)) (fun _ _ _ _ _ => (pg_name (i := 1) sc_ow.nd rfl (.inl rfl))) (fun _ _ _ _ _ => (pts_one (pt_val (pcall CO hr (by rfl) (pa_cons (pv 0) (pa_cons (pv 1) pa_nil)))))) (fun _ _ _ _ _ => (pv 1))))), ?_⟩
    refine ⟨_, rfl, p, u, g, rfl, ga, G, h5, fun L H1 hL s1 e1 => ⟨L, rfl, ⟨_, .inl (.inl e1)⟩, fun DD hD => ?_⟩⟩
    have hwl : (wl u (2 * g - 2)).length ≤ 5000 := by rw [wl_eq, words_len]; exact h5
    refine lc_list (K := K) (a := L) (xs := strsV (wl u (2 * g - 2))) (fun j H3 => Same H1 H3 ∧ H3 DD = some (.lst (strsV (((wl u (2 * g - 2)).take j).filter fun v => !decide (lp v < g))))) ⟨same_upd hD, upd_same⟩ (fun j H3 _ z => .inl (.inl (z.1 _ _ e1))) ?_ ?_
    · rintro j y H3 hj ⟨s3, hDD⟩
      obtain ⟨v, hv, rfl⟩ := strs_at hj
      have lf := List.length_filter_le (fun v => !decide (lp v < g)) ((wl u (2 * g - 2)).take j)
      rw [List.length_take] at lf
      refine ⟨rfl, _, rfl, _, rfl, p, u, g, v, rfl, (ga.same s1).same s3, G, List.mem_of_getElem? hv, _, rfl, ?_⟩
      cases hb : (!decide (lp v < g)) with
      | true =>
        refine iteT ⟨_, rfl, _, hDD, by rw [strs_len]; omega, fun b o e => ?_, ?_⟩
        · rw [upd_ne (ne_of_none e hD)]
          exact s3 b o e
        · rw [upd_same, filter_take hv, if_pos hb, strs_app]
          rfl
      | false =>
        refine iteF ⟨s3, ?_⟩
        rw [hDD, filter_take hv, if_neg (by rw [hb]; exact Bool.false_ne_true), List.append_nil]
    · rintro H3 ⟨s3, hDD⟩
      rw [strs_len, List.take_length] at hDD
      exact q DD H3 (s1.free hD) (s1.trans s3) hDD
theorem sc_no : FnScope ["ground", "window", "other"] ["ground", "window"] (defScope st_near_ones) := ⟨rfl, rfl, rfl, by decide +kernel, rfl, by decide +kernel, by decide +kernel⟩
def spNo (C : Addr) : Sp := fun vs H Q _ => ∃ (p : Addr) (u : List Nat) (g : Nat) (x : List Nat), vs = [.ref p, .str (S x)] ∧ GAt C H p u g ∧ Gd u g ∧ u.length ^ (2 * g - 2) ≤ 5000 ∧ x ∈ wl u (2 * g - 2) ∧ ∀ (L : Addr) (H' : Hp), H L = none → Same H H' → H' L = some (.lst (strsV ((own u g).filter (near g x)))) → Q (.ref L) H'
theorem ok_no {C : Addr} (D : Df K mg "near_ones" st_near_ones ["ground", "window"]) (CG : Cal P w K mg base 1 "check_ground" ["value"] (spCg C)) (CW : Cal P w K mg base 4 "check_window" ["ground", "value"] (spCw C)) (CO : Cal P w K mg base 7 "own_windows" ["ground"] (spOw C)) (CA : Cal P w K mg base 7 "are_near" ["ground", "one", "other"] (spAn C)) :
    FnOk P w K mg base CX0 8 D.f D.fd ["ground", "window"] (spNo C) := by
  refine D.F.ok sc_no (fun vs H Q E h => ?_) (fun cdv A outer s H vs Q E hr h => ?_)
  · obtain ⟨p, u, g, x, rfl, _⟩ := h
    rfl
  · obtain ⟨p, u, g, x, rfl, ga, G, h5, hx, q⟩ := h
    have e16 : sizeLine = 16777216 := by decide
    have g2 := G.gap
    have gm := G.max
    have r1 : Room 1 _ := hr.mono (by decide)
    have r3 : Room 3 _ := hr.mono (by decide)
    have r6 : Room 6 _ := hr.mono (by decide)
    refine ⟨_, (pss_cons (ps_expr (pcall CG r1 (by rfl) (pa_cons (pv 0) pa_nil))) (pss_cons (ps_expr (pcall CW (hr.mono (by decide)) (by rfl) (pa_cons (pv 0) (pa_cons (pv 1) pa_nil)))) (pss_one (ps_ret (pe_lc (own := [("other", 2)]) (g := (gName 2)) rfl sc_no.nd (pi_list (pcall CO hr (by rfl) (pa_cons (pv 0) pa_nil))) (blkOk_by (N := ["ground", "window", "other"]) (sc := defScope st_near_ones) (by decide +kernel)) (fun _ _ _ _ _ => (pg_name (i := 2) sc_no.nd rfl (.inl rfl))) (fun _ _ _ _ _ => (pts_one (pt_val (pcall CA (hr.mono (by decide)) (by rfl) (pa_cons (pv 0) (pa_cons (pv 1) (pa_cons (pv 2) pa_nil))))))) (fun _ _ _ _ _ => (pv 2))))))), ?_⟩
    refine ⟨_, rfl, p, u, g, rfl, ga, _, rfl, _, rfl, p, u, g, x, rfl, ga, by omega, by omega, hx, ?_⟩
    refine ⟨_, rfl, p, u, g, rfl, ga, G, h5, fun L H1 hL s1 e1 => ⟨L, rfl, ⟨_, .inl (.inl e1)⟩, fun DD hD => ?_⟩⟩
    have hwl : (own u g).length ≤ 5000 := Nat.le_trans (List.length_filter_le _ _) (by rw [wl_eq, words_len]; exact h5)
    refine lc_list (K := K) (a := L) (xs := strsV (own u g)) (fun j H3 => Same H1 H3 ∧ H3 DD = some (.lst (strsV (((own u g).take j).filter (near g x))))) ⟨same_upd hD, upd_same⟩ (fun j H3 _ z => .inl (.inl (z.1 _ _ e1))) ?_ ?_
    · rintro j y H3 hj ⟨s3, hDD⟩
      obtain ⟨v, hv, rfl⟩ := strs_at hj
      have lf := List.length_filter_le (near g x) ((own u g).take j)
      rw [List.length_take] at lf
      have vm : v ∈ wl u (2 * g - 2) := (List.mem_filter.mp (List.mem_of_getElem? hv)).1
      refine ⟨rfl, _, rfl, _, rfl, _, rfl, p, u, g, x, v, rfl, (ga.same s1).same s3, G, hx, vm, fun H4 s4 => ⟨_, rfl, ?_⟩⟩
      cases hb : near g x v with
      | true =>
        refine iteT ⟨_, rfl, _, s4 _ _ hDD, by rw [strs_len]; omega, fun b o e => ?_, ?_⟩
        · rw [upd_ne (ne_of_none e hD)]
          exact s4 _ _ (s3 b o e)
        · rw [upd_same, filter_take hv, if_pos hb, strs_app]
          rfl
      | false =>
        refine iteF ⟨s3.trans s4, ?_⟩
        rw [s4 _ _ hDD, filter_take hv, if_neg (by rw [hb]; exact Bool.false_ne_true), List.append_nil]
    · rintro H3 ⟨s3, hDD⟩
      rw [strs_len, List.take_length] at hDD
      exact q DD H3 (s1.free hD) (s1.trans s3) hDD
end
end K4
set_option Elab.async false
set_option linter.all false
set_option maxRecDepth 100000
set_option maxHeartbeats 4000000
namespace K4
open PySem PySem.Spec PyProof.Rows L2 K4M K4S
theorem gd_pow {u : List Nat} (h : u.length ≤ 26) : ((u.length : Nat) : Int).natAbs < 2 ^ 100 := by
  rw [Int.natAbs_natCast]
  exact Nat.lt_of_le_of_lt h (by decide)
section
variable {P : Program} {w : World} {K : PySem.W.Frag} {mg : Str → Option Value} {base : Heap}
theorem sc_mo : FnScope ["ground", "many", "repeating", "length"] ["ground"] (defScope st_many_own) := ⟨rfl, rfl, rfl, by decide +kernel, rfl, by decide +kernel, by decide +kernel⟩
def spMo (C : Addr) : Sp := fun vs H Q _ => ∃ (p : Addr) (u : List Nat) (g : Nat), vs = [.ref p] ∧ GAt C H p u g ∧ Gd u g ∧ g ≤ 100 ∧ ∀ H', Same H H' → Q (.int (manyOwn u.length g)) H'
theorem ok_mo (B : Bi mg) {C : Addr} (T : Gr K mg C) (D : Df K mg "many_own" st_many_own ["ground"]) (CG : Cal P w K mg base 1 "check_ground" ["value"] (spCg C)) (CP : Cal P w K mg base 4 "many_primitives" ["signs", "length"] spPrims) (CW : Cal P w K mg base 1 "many_words" ["signs", "length"] spPow)
    (MS : Mt P w K mg base C 1 "signs" ["self"] (spGs C)) (MG : Mt P w K mg base C 1 "gap" ["self"] (spGg C)) (MW : Mt P w K mg base C 1 "width" ["self"] (spGw C)) : FnOk P w K mg base CX0 5 D.f D.fd ["ground"] (spMo C) := by
  refine D.F.ok sc_mo (fun vs H Q E h => ?_) (fun cdv A outer s H vs Q E hr h => ?_)
  · obtain ⟨p, u, g, rfl, _⟩ := h
    rfl
  · obtain ⟨p, u, g, rfl, ⟨dx, hp⟩, G, g100, q⟩ := h
    have r1 : Room 1 _ := hr.mono (by decide)
    have g2 := G.gap
    have l2 := G.two
    have l26 := G.few
    have e16 : sizeLine = 16777216 := by decide
    refine ⟨_, (pss_cons (ps_expr (pcall CG r1 (by rfl) (pa_cons (pv 0) pa_nil))) (pss_cons (ps_set (i := 1) sc_mo.nd rfl (.inr rfl) (pe_callB call_len_str (by rfl) B.len PySem.boot_len (pa_cons (pe_meth0 (pv 0) T.cl MS.me MS.ok r1 MS.b .nil pass0) pa_nil))) (pss_cons (ps_setLc (i := 2) (own := [("length", 3)]) (g := (gName 3)) (tt := tYes) rfl sc_mo.nd rfl rfl (sw_true rfl rfl rfl (by decide +kernel)) (pi_range2 (by rfl) B.range (pa_cons pe_int (pa_cons (pe_meth0 (pv 0) T.cl MG.me MG.ok r1 MG.b .nil pass0) pa_nil))) (blkOk_by (N := ["ground", "many", "repeating", "length"]) (sc := defScope st_many_own) (by decide +kernel)) (fun _ _ _ _ _ => (pg_name (i := 3) sc_mo.nd rfl (.inl rfl))) (fun _ _ _ _ _ => pts_nil) (fun _ _ _ _ _ => (pcall CP hr (by rfl) (pa_cons (pv 1) (pa_cons (pv 3) pa_nil))))) (pss_one (ps_ret (pe_op op_sub (pcall CW r1 (by rfl) (pa_cons (pv 1) (pa_cons (pe_meth0 (pv 0) T.cl MW.me MW.ok r1 MW.b .nil pass0) pa_nil))) (pe_callB (cr_sum rfl) (by rfl) B.sum (by decide +kernel) (pa_cons (pv 2) pa_nil)))))))), ?_⟩
    refine ⟨_, rfl, p, u, g, rfl, ⟨dx, hp⟩, ?_⟩
    refine ⟨_, rfl, p, dx, _, rfl, hp, gf_no noS noS2, p, u, g, rfl, ⟨dx, hp⟩, S u, rfl, by rw [S_len]; omega, ?_⟩
    refine ⟨_, rfl, p, dx, _, rfl, hp, gf_no noG noG2, p, u, g, rfl, ⟨dx, hp⟩, 1, (g : Int), rfl, ⟨by decide, by decide, by omega, by omega⟩, fun DD hD => ?_⟩
    refine lc_range (lo := 1) (n := ((g : Int) - 1).toNat) (fun i H3 => Same H H3 ∧ H3 DD = some (.lst (numsV ((List.range' 1 i).map fun l => prims (u.length : Int) l)))) ⟨same_upd hD, upd_same⟩ ?_ ?_
    · rintro i H3 hi ⟨sm, hDD⟩
      have ei : (1 + (i : Int)) = ((i + 1 : Nat) : Int) := by omega
      refine ⟨rfl, ?_⟩
      rw [ei, S_len]
      refine ⟨_, rfl, _, rfl, (u.length : Int), i + 1, rfl, by omega, gd_pow l26, by omega, by omega, fun H4 s4 => ?_⟩
      refine ⟨_, s4 _ _ hDD, ?_, fun b o e => ?_, ?_⟩
      · unfold numsV
        rw [List.length_map, List.length_map, List.length_range']
        omega
      · rw [upd_ne (ne_of_none e hD)]
        exact s4 _ _ (sm b o e)
      · rw [upd_same, range_snoc', List.map_append]
        unfold numsV
        rw [List.map_append]
        rfl
    · rintro H3 ⟨sm, hDD⟩
      rw [show ((g : Int) - 1).toNat = g - 1 by omega] at hDD
      have hp3 := sm _ _ hp
      rw [S_len]
      refine ⟨_, rfl, _, rfl, p, dx, _, rfl, hp3, gf_no noW noW2, p, u, g, rfl, ⟨dx, hp3⟩, by omega, (u.length : Int), 2 * g - 2, rfl, gd_pow l26, by omega, _, rfl, DD, _, rfl, .inl (.inl hDD), _, _, rfl, rfl, q H3 sm⟩
theorem sc_lb : FnScope ["one", "other", "gap", "space"] ["one", "other", "gap"] (defScope st__law_behind_at) := ⟨rfl, rfl, rfl, by decide +kernel, rfl, by decide +kernel, by decide +kernel⟩
def spLb : Sp := fun vs H Q _ => ∃ (g : Nat) (x y : List Nat), vs = [.str (S x), .str (S y), .int (g : Int)] ∧ 1 ≤ g ∧ g ≤ x.length ∧ x.length = y.length ∧ x.length ≤ 2000 ∧ ∀ (L : Addr) (H' : Hp), H L = none → Same H H' → H' L = some (.lst (natsV (dist g x y))) → Q (.ref L) H'
theorem ok_lb (B : Bi mg) (D : Df K mg "_law_behind_at" st__law_behind_at ["one", "other", "gap"]) : FnOk P w K mg base CX0 1 D.f D.fd ["one", "other", "gap"] spLb := by
  refine D.F.ok sc_lb (fun vs H Q E h => ?_) (fun cdv A outer s H vs Q E hr h => ?_)
  · obtain ⟨g, x, y, rfl, _⟩ := h
    rfl
  · obtain ⟨g, x, y, rfl, g1, gx, hxy, hx, q⟩ := h
    have e16 : sizeLine = 16777216 := by decide
    have hs : (S x).length ≤ sizeLine := by rw [S_len]; omega
    have hsy : (S y).length ≤ sizeLine := by rw [S_len]; omega
    refine ⟨_, (pss_one (ps_ret (pe_lc (own := [("space", 3)]) (g := (gName 3)) rfl sc_lb.nd (pi_range2 (by rfl) B.range (pa_cons pe_int (pa_cons (pv 2) pa_nil))) (blkOk_by (N := ["one", "other", "gap", "space"]) (sc := defScope st__law_behind_at) (by decide +kernel)) (fun _ _ _ _ _ => (pg_name (i := 3) sc_lb.nd rfl (.inl rfl))) (fun _ _ _ _ _ => (pts_one (pt_cmpR op_eq (pe_slice sl_str (pv 0) (po_some (pv 3)) po_none) (pe_slice sl_str (pv 1) po_none (po_some (pe_op op_sub (pe_callB call_len_str (by rfl) B.len PySem.boot_len (pa_cons (pv 0) pa_nil)) (pv 3)))) (nomark _)))) (fun _ _ _ _ _ => (pv 3))))), ?_⟩
    refine ⟨_, rfl, 1, (g : Int), rfl, ⟨by decide, by decide, by omega, by omega⟩, fun DD hD => ?_⟩
    refine lc_range (lo := 1) (n := ((g : Int) - 1).toNat) (fun i H3 => Same H H3 ∧ H3 DD = some (.lst (natsV ((List.range' 1 i).filter fun d => (x.drop d).isPrefixOf y)))) ⟨same_upd hD, upd_same⟩ ?_ ?_
    · rintro i H3 hi ⟨sm, hDD⟩
      have ei : (1 + (i : Int)) = ((i + 1 : Nat) : Int) := by omega
      refine ⟨rfl, ?_⟩
      rw [ei]
      refine ⟨_, rfl, _, rfl, ((i + 1 : Nat) : Int), rfl, S x, rfl, hs, _, rfl, _, rfl, S x, rfl, hs, _, rfl, _, _, rfl, rfl, ((x.length - (i + 1) : Nat) : Int), congrArg V.int (by rw [S_len]; omega), S y, rfl, hsy, rfl, ?_⟩
      rw [cut_drop, cut_take, V_dec, dist_law hxy]
      refine ⟨_, rfl, ?_⟩
      cases hb : (x.drop (i + 1)).isPrefixOf y with
      | true =>
        refine iteT ⟨_, rfl, _, hDD, ?_, fun c o e => ?_, ?_⟩
        · unfold natsV
          rw [List.length_map]
          have := List.length_filter_le (fun d => (x.drop d).isPrefixOf y) (List.range' 1 i)
          rw [List.length_range'] at this
          omega
        · rw [upd_ne (ne_of_none e hD)]
          exact sm c o e
        · rw [upd_same, range_snoc', List.filter_append, List.filter_cons_of_pos (p := fun d => (x.drop d).isPrefixOf y) hb]
          unfold natsV
          rw [List.map_append]
          rfl
      | false =>
        refine iteF ⟨sm, ?_⟩
        rw [hDD, range_snoc', List.filter_append, List.filter_cons_of_neg (by rw [hb]; exact Bool.false_ne_true)]
        simp
    · rintro H3 ⟨sm, hDD⟩
      rw [show ((g : Int) - 1).toNat = g - 1 by omega] at hDD
      exact q DD H3 hD sm hDD
theorem sc_ln : FnScope ["one", "other", "gap"] ["one", "other", "gap"] (defScope st__law_near) := ⟨rfl, rfl, rfl, by decide +kernel, rfl, by decide +kernel, by decide +kernel⟩
def spLn : Sp := fun vs H Q _ => ∃ (g : Nat) (x y : List Nat), vs = [.str (S x), .str (S y), .int (g : Int)] ∧ 1 ≤ g ∧ g ≤ x.length ∧ x.length = y.length ∧ x.length ≤ 2000 ∧ ∀ H', Same H H' → Q (.bl (near g x y)) H'
theorem ok_ln (D : Df K mg "_law_near" st__law_near ["one", "other", "gap"]) (CB : Cal P w K mg base 1 "_law_behind_at" ["one", "other", "gap"] spLb) : FnOk P w K mg base CX0 2 D.f D.fd ["one", "other", "gap"] spLn := by
  refine D.F.ok sc_ln (fun vs H Q E h => ?_) (fun cdv A outer s H vs Q E hr h => ?_)
  · obtain ⟨g, x, y, rfl, _⟩ := h
    rfl
  · obtain ⟨g, x, y, rfl, g1, gx, hxy, hx, q⟩ := h
    refine ⟨_, (pss_one (ps_ret (pe_or (pe_cmpR (r := rNeD K) (op_neD hr.units) (pcall CB hr (by rfl) (pa_cons (pv 0) (pa_cons (pv 1) (pa_cons (pv 2) pa_nil)))) (pe_lst pa_nil) (nomark _)) (pe_one (pe_cmpR (r := rNeD K) (op_neD hr.units) (pcall CB hr (by rfl) (pa_cons (pv 1) (pa_cons (pv 0) (pa_cons (pv 2) pa_nil)))) (pe_lst pa_nil) (nomark _)))))), ?_⟩
    refine ⟨_, rfl, _, rfl, _, rfl, g, x, y, rfl, g1, gx, hxy, hx, fun L1 H1 hL1 s1 e1 => ?_⟩
    refine ⟨Nat.zero_le _, fun E1 hE1 => ?_⟩
    have s2 := same_upd (o := .lst []) hE1
    have e1' := s2 _ _ e1
    have eE := upd_same (H := H1) (a := E1) (o := .lst [])
    revert s2 e1' eE
    generalize upd H1 E1 (.lst []) = H2
    intro s2 e1' eE
    refine ⟨_, _, .lst (.inl (.inl e1')) (nats_dp _), .lst (.inl (.inl eE)) .nil, nats_shaped _, rfl, _, rfl, ?_⟩
    rw [nats_eqv]
    have s02 := s1.trans s2
    cases ed : dist g x y with
    | cons d r =>
      refine iteT ?_
      have := q H2 s02
      unfold near at this
      rw [ed] at this
      exact this
    | nil =>
      refine iteF ?_
      refine ⟨_, rfl, _, rfl, _, rfl, g, y, x, rfl, g1, by omega, hxy.symm, by omega, fun L2' H3 hL3 s3 e3 => ?_⟩
      refine ⟨Nat.zero_le _, fun E2 hE2 => ?_⟩
      have s4 := same_upd (o := .lst []) hE2
      have e3' := s4 _ _ e3
      have eE2 := upd_same (H := H3) (a := E2) (o := .lst [])
      revert s4 e3' eE2
      generalize upd H3 E2 (.lst []) = H4
      intro s4 e3' eE2
      refine ⟨_, _, .lst (.inl (.inl e3')) (nats_dp _), .lst (.inl (.inl eE2)) .nil, nats_shaped _, rfl, ?_⟩
      rw [nats_eqv]
      have := q H4 (s02.trans (s3.trans s4))
      unfold near at this
      rw [ed] at this
      exact this
theorem sc_lo : FnScope ["ground", "word"] ["ground"] (defScope st__law_own) := ⟨rfl, rfl, rfl, by decide +kernel, rfl, by decide +kernel, by decide +kernel⟩
def spLo : Sp := fun vs H Q _ => ∃ (t : Addr) (u : List Nat) (g : Nat), vs = [.ref t] ∧ H t = some (.tup [.str (S u), .int (g : Int)]) ∧ Gd u g ∧ g ≤ 100 ∧ u.length ^ (2 * g - 2) ≤ 5000 ∧ ∀ (L : Addr) (H' : Hp), H L = none → Same H H' → H' L = some (.lst (strsV (own u g))) → Q (.ref L) H'
theorem ok_lo (D : Df K mg "_law_own" st__law_own ["ground"]) (CWo : Cal P w K mg base 1 "_law_words_of" ["signs", "size"] spWords) (CRp : Cal P w K mg base 1 "_law_repeats" ["word", "gap"] spRep) : FnOk P w K mg base CX0 2 D.f D.fd ["ground"] spLo := by
  refine D.F.ok sc_lo (fun vs H Q E h => ?_) (fun cdv A outer s H vs Q E hr h => ?_)
  · obtain ⟨t, u, g, rfl, _⟩ := h
    rfl
  · obtain ⟨t, u, g, rfl, ht, G, g100, h5, q⟩ := h
    have e16 : sizeLine = 16777216 := by decide
    have g2 := G.gap
    have l2 := G.two
    have l26 := G.few
    refine ⟨_, (pss_one (ps_ret (pe_lc (own := [("word", 1)]) (g := (gName 1)) rfl sc_lo.nd (pi_list (pcall CWo hr (by rfl) (pa_cons (pe_ix (r := rIxT K) ix_tup (pv 0) pe_int (fun _ _ => rfl)) (pa_cons (pe_op op_sub (pe_op op_mul pe_int (pe_ix (r := rIxT K) ix_tup (pv 0) pe_int (fun _ _ => rfl))) pe_int) pa_nil)))) (blkOk_by (N := ["ground", "word"]) (sc := defScope st__law_own) (by decide +kernel)) (fun _ _ _ _ _ => (pg_name (i := 1) sc_lo.nd rfl (.inl rfl))) (fun _ _ _ _ _ => (pts_one (pt_not (pt_val (pcall CRp hr (by rfl) (pa_cons (pv 1) (pa_cons (pe_ix (r := rIxT K) ix_tup (pv 0) pe_int (fun _ _ => rfl)) pa_nil))))))) (fun _ _ _ _ _ => (pv 1))))), ?_⟩
    refine ⟨_, rfl, t, _, 0, .str (S u), rfl, rfl, .inl (.inl ht), atI_nat (j := 0) rfl, _, rfl, t, _, 1, .int (g : Int), rfl, rfl, .inl (.inl ht), atI_nat (j := 1) rfl, _, _, rfl, rfl, .inl ⟨by decide, by decide⟩, _, _, rfl, rfl, ?_⟩
    refine ⟨u, 2 * g - 2, congrArg (fun i => [V.str (S u), V.int i]) (show (2 * (g : Int) - 2) = ((2 * g - 2 : Nat) : Int) by omega), by omega, l26, by omega, h5, fun L H2 hL sm2 hLs => ?_⟩
    have hwl : (wl u (2 * g - 2)).length ≤ 5000 := by rw [wl_eq, words_len]; exact h5
    refine ⟨L, rfl, ⟨_, .inl (.inl hLs)⟩, fun DD hD => ?_⟩
    refine lc_list (K := K) (a := L) (xs := strsV (wl u (2 * g - 2))) (fun j H3 => Same H2 H3 ∧ H3 DD = some (.lst (strsV (((wl u (2 * g - 2)).take j).filter fun v => !decide (lp v < g)))))
      ⟨same_upd hD, upd_same⟩ (fun j H3 _ z => .inl (.inl (z.1 _ _ hLs))) ?_ ?_
    · rintro j y H3 hj ⟨s3, hDD⟩
      obtain ⟨v, hv, rfl⟩ := strs_at hj
      obtain ⟨hvl, hvc⟩ := wl_mem.mp (List.mem_of_getElem? hv)
      refine ⟨rfl, _, rfl, _, rfl, t, _, 1, .int (g : Int), rfl, rfl, .inl (.inl (s3 _ _ (sm2 _ _ ht))), atI_nat (j := 1) rfl, v, g, rfl, (fun z => by rw [z] at hvl; simp at hvl; omega), by omega, by omega, by omega, fun H4 s4 => ⟨_, rfl, ?_⟩⟩
      have lf := List.length_filter_le (fun v => !decide (lp v < g)) ((wl u (2 * g - 2)).take j)
      rw [List.length_take] at lf
      by_cases hb : lp v < g
      · rw [decide_eq_true hb]
        refine iteF ⟨s3.trans s4, ?_⟩
        rw [s4 _ _ hDD, filter_take hv, if_neg (by simpa using hb), List.append_nil]
      · rw [decide_eq_false hb]
        refine iteT ⟨_, rfl, _, s4 _ _ hDD, by rw [strs_len]; omega, fun b o e => ?_, ?_⟩
        · rw [upd_ne (ne_of_none e hD)]
          exact s4 _ _ (s3 b o e)
        · rw [upd_same, filter_take hv, if_pos (by simpa using hb), strs_app]
          rfl
    · rintro H3 ⟨s3, hDD⟩
      rw [strs_len, List.take_length] at hDD
      exact q DD H3 (sm2.free hD) (sm2.trans s3) hDD
end
end K4
set_option Elab.async false
set_option linter.all false
set_option maxRecDepth 100000
set_option maxHeartbeats 8000000
namespace K4
open PySem PySem.Spec PyProof.Rows L2 K4M K4S
section
variable {P : Program} {w : World} {K : PySem.W.Frag} {mg : Str → Option Value} {base : Heap}
theorem sc_gg2 : FnScope ["dice", "most"] ["dice", "most"] (defScope st__law_great_ground) := ⟨rfl, rfl, rfl, by decide +kernel, rfl, by decide +kernel, by decide +kernel⟩
def spGg2 : Sp := fun vs H Q _ => ∃ (d : Addr) (most n : Nat), vs = [.ref d, .int (most : Int)] ∧ Dice H d n ∧ n < 2 ^ 55 ∧ 2 ≤ most ∧ most ≤ 100 ∧ ∀ (p : Addr) (H' : Hp) (u : List Nat) (g : Nat), H p = none → Kept H H' d → H' p = some (.tup [.str (S u), .int (g : Int)]) → Gd u g → g ≤ 100 → Dice H' d (n + 20) → Q (.ref p) H'
theorem ok_gg2 (D : Df K mg "_law_great_ground" st__law_great_ground ["dice", "most"]) (CD : Cal P w K mg base 2 "_law_draw" ["dice", "many"] spDraw) (CL : Cal P w K mg base 3 "_law_letters" ["dice", "many"] spLetters) : FnOk P w K mg base CX0 4 D.f D.fd ["dice", "most"] spGg2 := by
  refine D.F.ok sc_gg2 (fun vs H Q E h => ?_) (fun cdv A outer s H vs Q E hr h => ?_)
  · obtain ⟨d, m, n, rfl, _⟩ := h
    rfl
  · obtain ⟨d, most, n, rfl, hD, hn, hm1, hm2, q⟩ := h
    have r2 : Room 2 _ := hr.mono (by decide)
    refine ⟨_, (pss_one (ps_ret (pe_tup (pa_cons (pcall CL hr (by rfl) (pa_cons (pv 0) (pa_cons (pe_op op_add pe_int (pcall CD r2 (by rfl) (pa_cons (pv 0) (pa_cons pe_int pa_nil)))) pa_nil))) (pa_cons (pe_op op_add pe_int (pcall CD r2 (by rfl) (pa_cons (pv 0) (pa_cons (pe_op op_sub (pv 1) pe_int) pa_nil)))) pa_nil))))), ?_⟩
    refine ⟨_, rfl, _, rfl, d, 5, n, rfl, hD, by omega, by decide, by decide, fun r H1 r0 r1 hD1 k1 => ⟨_, _, rfl, rfl, ?_⟩⟩
    obtain ⟨m, rfl⟩ : ∃ m : Nat, r = (m : Int) := ⟨r.toNat, by omega⟩
    refine ⟨d, 2 + m, n + 1, congrArg (fun i => [V.ref d, V.int i]) (show (2 + (m : Int)) = ((2 + m : Nat) : Int) by omega), hD1, by omega, by omega, fun u H2 hu hl hp hD2 k2 => ?_⟩
    refine ⟨_, rfl, _, rfl, _, _, rfl, rfl, d, (most : Int) - 1, n + 1 + (2 + m), rfl, hD2, by omega, by omega, by omega, fun r' H3 r0' r1' hD3 k3 => ⟨_, _, rfl, rfl, by show 2 ≤ sizeLine; decide, fun p hpn => ?_⟩⟩
    obtain ⟨g', rfl⟩ : ∃ m : Nat, r' = (m : Int) := ⟨r'.toNat, by omega⟩
    have hpd : p ≠ d := hD3.ne hpn
    refine q p _ u (2 + g') ?_ (k1.trans (k2.trans (k3.trans (Kept.of (same_upd hpn))))) ?_ ⟨hl, hp, by omega, by omega, by omega, by omega⟩ (by omega) ((Same.dice (same_upd hpn) hD3).more (by omega))
    · cases e : H p with
      | none => rfl
      | some o =>
        have := k3 _ _ hpd (k2 _ _ hpd (k1 _ _ hpd e))
        rw [hpn] at this
        cases this
    · rw [upd_same]
      have : (2 + (g' : Int)) = ((2 + g' : Nat) : Int) := by omega
      rw [← this]
theorem sc_gw2 : FnScope ["dice", "ground", "size", "signs", "word", "window", "at", "spin"] ["dice", "ground"] (defScope st__law_great_window) := ⟨rfl, rfl, rfl, by decide +kernel, rfl, by decide +kernel, by decide +kernel⟩
def spGw2 : Sp := fun vs H Q _ => ∃ (d t : Addr) (u : List Nat) (g n : Nat), vs = [.ref d, .ref t] ∧ Dice H d n ∧ n < 2 ^ 50 ∧ t ≠ d ∧ H t = some (.tup [.str (S u), .int (g : Int)]) ∧ Gd u g ∧ g ≤ 100 ∧ ∀ (x : List Nat) (H' : Hp), x ∈ wl u (2 * g - 2) → Kept H H' d → Dice H' d (n + 200) → Q (.str (S x)) H'
theorem ok_gw2 (B : Bi mg) (D : Df K mg "_law_great_window" st__law_great_window ["dice", "ground"]) (CD : Cal P w K mg base 2 "_law_draw" ["dice", "many"] spDraw) (CO : Cal P w K mg base 3 "_law_one_of" ["dice", "some"] (spOne K)) : FnOk P w K mg base CX0 4 D.f D.fd ["dice", "ground"] spGw2 := by
  refine D.F.ok sc_gw2 (fun vs H Q E h => ?_) (fun cdv A outer s H vs Q E hr h => ?_)
  · obtain ⟨d, t, u, g, n, rfl, _⟩ := h
    rfl
  · obtain ⟨d, t, u, g, n, rfl, hD, hn, htd, ht, G, g100, q⟩ := h
    have r2 : Room 2 _ := hr.mono (by decide)
    have g2 := G.gap
    have l2 := G.two
    have l26 := G.few
    have hune : u ≠ [] := fun z => by rw [z] at l2; exact absurd l2 (by decide)
    have e16 : sizeLine = 16777216 := by decide
    have eg : (2 * (g : Int) - 2) = ((2 * g - 2 : Nat) : Int) := by omega
    refine ⟨_, (pss_cons (ps_asg (pe_tup (pa_cons (pe_op op_sub (pe_op op_mul pe_int (pe_ix (r := rIxT K) ix_tup (pv 1) pe_int (fun _ _ => rfl))) pe_int) (pa_cons (pe_callTy (call_listS rfl) (by rfl) B.list (by decide +kernel) (pa_cons (pe_ix (r := rIxT K) ix_tup (pv 1) pe_int (fun _ _ => rfl)) pa_nil)) pa_nil))) (pg_tup rfl (pgs_cons (pg_name (i := 2) sc_gw2.nd rfl (.inl rfl)) (pgs_cons (pg_name (i := 3) sc_gw2.nd rfl (.inr rfl)) pgs_nil)))) (pss_cons (ps_set (i := 4) sc_gw2.nd rfl (.inl rfl) (pe_join pe_str (pe_lc (own := [("spin", 7)]) (g := (gName 7)) (tt := tYes) rfl sc_gw2.nd (pi_range1 (by rfl) B.range (pa_cons (pe_op op_add pe_int (pcall CD r2 (by rfl) (pa_cons (pv 0) (pa_cons (pe_op op_add (pe_ix (r := rIxT K) ix_tup (pv 1) pe_int (fun _ _ => rfl)) pe_int) pa_nil)))) pa_nil)) (blkOk_by (N := ["dice", "ground", "size", "signs", "word", "window", "at", "spin"]) (sc := defScope st__law_great_window) (by decide +kernel)) (fun _ _ _ _ _ => (pg_name (i := 7) sc_gw2.nd rfl (.inl rfl))) (fun _ _ _ _ _ => pts_nil) (fun _ _ _ _ _ => (pcall CO hr (by rfl) (pa_cons (pv 0) (pa_cons (pv 3) pa_nil))))))) (pss_cons (ps_par (i := 5) (j := 6) (by rfl) sc_gw2.nd rfl rfl (by decide) rfl rfl (pa_cons (pe_slice sl_str (pe_op op_mulS (pv 4) (pv 2)) po_none (po_some (pv 2))) (pa_cons (pcall CD r2 (by rfl) (pa_cons (pv 0) (pa_cons (pv 2) pa_nil))) pa_nil)) (by rfl)) (pss_one (ps_ret (pe_ifExp (pt_cmpR op_eq (pcall CD r2 (by rfl) (pa_cons (pv 0) (pa_cons pe_int pa_nil))) pe_int (nomark _)) (pv 5) (pe_op op_add_str (pe_op op_add_str (pe_slice sl_str (pv 5) po_none (po_some (pv 6))) (pcall CO hr (by rfl) (pa_cons (pv 0) (pa_cons (pv 3) pa_nil)))) (pe_slice sl_str (pv 5) (po_some (pe_op op_add (pv 6) pe_int)) po_none)))))))), ?_⟩
    refine ⟨_, rfl, t, _, 1, .int (g : Int), rfl, rfl, .inl (.inl ht), atI_nat (j := 1) rfl, _, _, rfl, rfl, .inl ⟨by decide, by decide⟩, _, _, rfl, rfl, ?_⟩
    refine ⟨_, rfl, t, _, 0, .str (S u), rfl, rfl, .inl (.inl ht), atI_nat (j := 0) rfl, u, rfl, by omega, fun L hL => ⟨by show 2 ≤ sizeLine; decide, fun T0 hT0 => ⟨T0, _, rfl, .inl (.inl upd_same), rfl, _, _, rfl, _, _, rfl, rfl, ?_⟩⟩⟩
    have sL := same_upd (o := .lst (signsV u)) hL
    have s1 := sL.trans (same_upd (o := .tup [V.int (2 * (g : Int) - 2), V.ref L]) hT0)
    have eL := same_upd (o := .tup [V.int (2 * (g : Int) - 2), V.ref L]) hT0 _ _ (upd_same (H := H) (a := L) (o := .lst (signsV u)))
    have hLd : L ≠ d := hD.ne hL
    revert s1 eL
    generalize upd (upd H L (.lst (signsV u))) T0 (.tup [V.int (2 * (g : Int) - 2), V.ref L]) = H1
    intro s1 eL
    have ht1 := s1 _ _ ht
    refine ⟨⟨_, rfl⟩, _, rfl, _, rfl, t, _, 1, .int (g : Int), rfl, rfl, .inl (.inl ht1), atI_nat (j := 1) rfl, _, _, rfl, rfl, d, (g : Int) + 1, n, rfl, Same.dice s1 hD, by omega, by omega, by omega, fun r H2 r0 r1 hD2 k2 => ⟨_, _, rfl, rfl, _, rfl, by omega, by omega, fun DD hDD => ?_⟩⟩
    have hDDd : DD ≠ d := hD2.ne hDD
    have hL2 := k2 _ _ hLd eL
    refine lc_range (lo := 0) (n := (1 + r).toNat) (fun i H6 => ∃ x : List Nat, x.length = i ∧ (∀ c ∈ x, c ∈ u) ∧ H6 DD = some (.lst (signsV x)) ∧ Dice H6 d (n + 1 + i) ∧ (∀ b o, b ≠ d → H2 b = some o → H6 b = some o))
      ⟨[], rfl, (fun _ h => by cases h), upd_same, Same.dice (same_upd hDD) hD2, fun b o _ e => same_upd hDD b o e⟩ ?_ ?_
    · rintro i H6 hi ⟨v, v1, v2, v3, v4, v5⟩
      exact ⟨rfl, _, rfl, _, rfl, drawn_turn hDD hLd hune (by omega) (by omega) (by omega) v1 v2 v3 v4 hDDd (v5 _ _ hLd hL2) v5 []⟩
    · rintro H6 ⟨v, v1, v2, v3, v4, v5⟩
      have hvl : v.length ≤ 110 := by omega
      have hv0 : 0 < v.length := by omega
      refine ⟨Str.empty, DD, v.map (fun c => S [c]), rfl, rfl, .inl (.inl (.inl (by rw [v3, sig_strs]))), ?_, ?_⟩
      · rw [ones_sum, List.length_map]
        show v.length + v.length * 0 ≤ 16777216
        omega
      rw [join_ones]
      have hmul : v.length * (2 * g - 2) ≤ 110 * 200 := Nat.mul_le_mul hvl (by omega)
      have rl : (rep v (2 * g - 2)).length = v.length * (2 * g - 2) := by rw [rep_len, Nat.mul_comm]
      have hsR : (S (rep v (2 * g - 2))).length ≤ sizeLine := by rw [S_len, rl]; omega
      refine ⟨_, rfl, _, rfl, v, 2 * g - 2, rfl, congrArg V.int eg, by omega, by omega, by omega, _, rfl, 2 * (g : Int) - 2, rfl, S (rep v (2 * g - 2)), rfl, hsR, ?_⟩
      refine ⟨_, rfl, _, rfl, d, 2 * (g : Int) - 2, n + 1 + v.length, rfl, v1 ▸ v4, by omega, by omega, by omega, fun at' H7 a0 a1 hD7 k7 => ⟨_, _, rfl, ?_⟩⟩
      have ec : cutS (S (rep v (2 * g - 2))) none (some (2 * (g : Int) - 2)) = S ((rep v (2 * g - 2)).take (2 * g - 2)) := by rw [eg, cut_take]
      rw [ec]
      have hge : 2 * g - 2 ≤ v.length * (2 * g - 2) := Nat.le_mul_of_pos_left _ hv0
      have wm : (rep v (2 * g - 2)).take (2 * g - 2) ∈ wl u (2 * g - 2) := wl_mem.mpr ⟨by rw [List.length_take, rl]; omega, fun c hc => v2 c (rep_mem (List.mem_of_mem_take hc))⟩
      generalize (rep v (2 * g - 2)).take (2 * g - 2) = win at wm
      obtain ⟨hwl, hwc⟩ := wl_mem.mp wm
      have hsw : (S win).length ≤ sizeLine := by rw [S_len]; omega
      refine ⟨_, rfl, d, 2, n + 1 + v.length + 1, rfl, hD7, by omega, by decide, by decide, fun z H8 z0 z1 hD8 k8 => ⟨rfl, _, rfl, ite2 (fun _ => ?_) (fun _ => ?_)⟩⟩
      · exact ⟨_, rfl, q win H8 wm (fun b o hb e => k8 b o hb (k7 b o hb (v5 b o hb (k2 b o hb (s1 b o e))))) (hD8.more (by omega))⟩
      · obtain ⟨a, rfl⟩ : ∃ a : Nat, at' = (a : Int) := ⟨at'.toNat, by omega⟩
        refine ⟨_, rfl, _, rfl, (a : Int), rfl, S win, rfl, hsw, _, rfl, _, rfl, d, L, n + 1 + v.length + 2, signsV u, rfl, hD8, by omega, hLd, .inl (.inl (k8 _ _ hLd (k7 _ _ hLd (v5 _ _ hLd hL2)))), by rw [sig_len]; omega, by rw [sig_len]; omega, fun i y H9 hi hD9 k9 => ?_⟩
        obtain ⟨c, hc, rfl⟩ := sig_at hi
        rw [cut_take]
        refine ⟨_, _, rfl, rfl, by rw [S_len, S_len, List.length_take]; show _ + 1 ≤ _; omega, _, rfl, _, rfl, _, _, rfl, rfl, (a : Int) + 1, rfl, S win, rfl, hsw, ?_⟩
        have ec2 : cutS (S win) (some ((a : Int) + 1)) none = S (win.drop (a + 1)) := by
          rw [show ((a : Int) + 1) = ((a + 1 : Nat) : Int) by omega, cut_drop]
        refine ⟨_, _, rfl, rfl, by rw [ec2, S_app, S_len, S_len, List.length_append, List.length_take, List.length_drop]; show _ + 1 + _ ≤ _; omega, ?_⟩
        rw [ec2, S_app, S_app]
        refine q _ H9 (wl_mem.mpr ⟨?_, fun e he => ?_⟩) (fun b o hb e => k9 b o hb (k8 b o hb (k7 b o hb (v5 b o hb (k2 b o hb (s1 b o e)))))) (hD9.more (by omega))
        · rw [List.length_append, List.length_append, List.length_take, List.length_drop]
          show _ + 1 + _ = _
          omega
        · rcases List.mem_append.mp he with z | z
          · rcases List.mem_append.mp z with z | z
            · exact hwc e (List.mem_of_mem_take z)
            · rw [List.mem_singleton.mp z]
              exact List.mem_of_getElem? hc
          · exact hwc e (List.mem_of_mem_drop z)
end
end K4
set_option Elab.async false
set_option linter.all false
set_option maxRecDepth 100000
set_option maxHeartbeats 8000000
namespace K4
open PySem PySem.Spec PyProof.Rows L2 K4M K4S
def upto (i : Nat) : List Nat := List.range' 1 i
theorem upto_mem {i d : Nat} : d ∈ upto i ↔ 0 < d ∧ d ≤ i := by
  unfold upto
  rw [List.mem_range'_1]
  omega
theorem upto_len (i : Nat) : (upto i).length = i := List.length_range'
section
variable {P : Program} {w : World} {K : PySem.W.Frag} {mg : Str → Option Value} {base : Heap}
theorem sc_lpm : FnScope ["signs", "most", "found", "size", "late"] ["signs", "most"] (defScope st__law_primitives) := ⟨rfl, rfl, rfl, by decide +kernel, rfl, by decide +kernel, by decide +kernel⟩
def spLpm : Sp := fun vs H Q _ => ∃ (s : Int) (n : Nat), vs = [.int s, .int (n : Int)] ∧ s.natAbs < 2 ^ 100 ∧ n ≤ 1000 ∧ ∀ H', Same H H' → Q (.int ((List.range' 1 n).map (prims s)).sum) H'
theorem ok_lpm (B : Bi mg) (D : Df K mg "_law_primitives" st__law_primitives ["signs", "most"]) (CW : Cal P w K mg base 1 "_law_power" ["base", "many"] spPow) : FnOk P w K mg base CX0 2 D.f D.fd ["signs", "most"] spLpm := by
  refine D.F.ok sc_lpm (fun vs H Q E h => ?_) (fun cdv A outer s' H vs Q E hr h => ?_)
  · obtain ⟨s, n, rfl, _⟩ := h
    rfl
  · obtain ⟨s, n, rfl, hs2, hn2, q⟩ := h
    have hu := hu_of hr
    have hr1 : Room 1 _ := hr.mono (by decide)
    refine ⟨_, (pss_cons (ps_set (i := 2) sc_lpm.nd rfl (.inr rfl) pe_dnewK) (pss_cons (ps_for PassesOwn.never rfl (pi_range2 (by rfl) B.range (pa_cons pe_int (pa_cons (pe_op op_add (pv 1) pe_int) pa_nil))) (pg_name (i := 3) sc_lpm.nd rfl (.inr rfl)) (pss_one (ps_dput hu (pv 2) (pv 3) (pe_op op_sub (pcall CW hr1 (by rfl) (pa_cons (pv 0) (pa_cons (pv 3) pa_nil))) (pe_callB (cr_sum rfl) (by rfl) B.sum (by decide +kernel) (pa_cons (pe_lock (pe_lc (own := [("late", 4)]) (g := (gName 4)) rfl sc_lpm.nd (pi_keys (pv 2)) (blkOk_by (N := ["signs", "most", "found", "size", "late"]) (sc := defScope st__law_primitives) (by decide +kernel)) (fun _ _ _ _ _ => (pg_name (i := 4) sc_lpm.nd rfl (.inl rfl))) (fun _ _ _ _ _ => (pts_one (pt_cmpR op_eq (pe_op op_mod (pe_callTy call_int1 (by rfl) B.int (by decide +kernel) (pa_cons (pv 3) pa_nil)) (pv 4)) pe_int (nomark _)))) (fun _ _ _ _ _ => (pe_dget hu (pv 2) (pv 4) (fun _ _ => rfl))))) pa_nil))) rfl))) (pss_one (ps_ret (pe_callB (cr_sum rfl) (by rfl) B.sum (by decide +kernel) (pa_cons (pe_lock (pe_lc (own := [("size", 3)]) (g := (gName 3)) (tt := tYes) rfl sc_lpm.nd (pi_keys (pv 2)) (blkOk_by (N := ["signs", "most", "found", "size", "late"]) (sc := defScope st__law_primitives) (by decide +kernel)) (fun _ _ _ _ _ => (pg_name (i := 3) sc_lpm.nd rfl (.inl rfl))) (fun _ _ _ _ _ => pts_nil) (fun _ _ _ _ _ => (pe_dget hu (pv 2) (pv 3) (fun _ _ => rfl))))) pa_nil)))))), ?_⟩
    have e16 : sizeLine = 16777216 := by decide
    intro d hd
    refine ⟨_, rfl, _, _, rfl, rfl, 1, (n : Int) + 1, rfl, ⟨by decide, by decide, by omega, by omega⟩, ?_⟩
    refine for_range (lo := 1) (n := ((n : Int) + 1 - 1).toNat) (fun i σ H2 => ∃ y3 : Option V, σ = [some (.int s), some (.int n), some (.ref d), y3, none] ∧ H2 d = some (.dK (tabl s (upto i))) ∧ Same H H2)
      ⟨none, rfl, upd_same, same_upd hd⟩ ?_ ?_
    · rintro i σ H2 hi ⟨y3, rfl, hd2, sm⟩
      have ei : (1 + (i : Int)) = ((i + 1 : Nat) : Int) := by omega
      rw [ei]
      refine ⟨_, rfl, _, rfl, s, i + 1, rfl, hs2, by omega, ?_⟩
      refine ⟨d, _, hd2, True.intro, fun od => ?_⟩
      refine ⟨_, rfl, d, od, rfl, .inl ⟨_, upd_same, fun DD hDD => ?_⟩⟩
      have hne : DD ≠ d := fun z => by
        rw [z, upd_same] at hDD
        cases hDD
      rw [upd_ne hne] at hDD
      refine lc_keys (d := d) (o := od) (kvs := tabl s (upto i)) (fun j H3 => H3 d = some (.frz od (.dK (tabl s (upto i)))) ∧ (∀ b o, H2 b = some o → b ≠ d → H3 b = some o) ∧ H3 DD = some (.lst (numsV ((((upto i).take j).filter (fun c => (i + 1) % c == 0)).map (prims s)))))
        ⟨by rw [upd_ne hne.symm, upd_same], fun b o eb hb => by rw [upd_ne (ne_of_none eb hDD), upd_ne hb]; exact eb, by rw [upd_same]; rfl⟩ (fun j H3 z => z.1) ?_ ?_
      · rintro j k v H3 hj ⟨k1, k2, k3⟩
        obtain ⟨c, hc, rfl, rfl⟩ := tabl_at hj
        have hmem := List.mem_of_getElem? hc
        have h0 := upto_mem.mp hmem
        refine ⟨rfl, _, rfl, .inl ⟨_, rfl, _, rfl, _, _, rfl, rfl, by show (0 : Int) < (c : Int); omega, rfl, ?_⟩⟩
        rw [dec_int, int_mod_beq]
        refine ⟨_, rfl, ?_⟩
        cases hb : ((i + 1) % c == 0) with
        | true =>
          refine iteT ?_
          refine ⟨_, rfl, _, rfl, d, _, rfl, .inl ⟨_, Sum.inl (c : Int), .inr ⟨od, k1⟩, rfl, (tabl_get s hmem).symm⟩, ?_⟩
          refine ⟨_, k3, ?_, ?_, fun b o eb hb' => ?_, ?_⟩
          · unfold numsV
            rw [List.length_map, List.length_map]
            have l1 := List.length_filter_le (fun c => (i + 1) % c == 0) ((upto i).take j)
            rw [List.length_take, upto_len] at l1
            omega
          · rw [upd_ne hne.symm]
            exact k1
          · rw [upd_ne (ne_of_none eb hDD)]
            exact k2 b o eb hb'
          · rw [upd_same, filter_take hc, hb]
            unfold numsV
            rw [List.map_append, List.map_append]
            rfl
        | false =>
          refine iteF ⟨k1, k2, ?_⟩
          rw [k3, filter_take hc, hb]
          simp
      · rintro H3 ⟨k1, k2, k3⟩
        refine ⟨k1, ?_⟩
        rw [tabl_len, List.take_length] at k3
        have k3 : H3 DD = some (.lst (numsV ((divs (i + 1) i).map (prims s)))) := k3
        refine ⟨DD, _, rfl, .inl (.inl (by rw [upd_ne hne]; exact k3)), _, _, rfl, rfl, ?_⟩
        have hnm : ¬ (i + 1) ∈ upto i := fun z => by
          have := upto_mem.mp z
          omega
        have ep : s ^ (i + 1) - ((divs (i + 1) i).map (prims s)).sum = prims s (i + 1) := (prims_eq s (i + 1) (by omega)).symm
        refine ⟨_, rfl, _, rfl, d, _, rfl, .inl ⟨_, Sum.inl ((i + 1 : Nat) : Int), upd_same, rfl, by rw [tabl_len, upto_len]; omega, rfl⟩, ?_⟩
        refine ⟨some (.int ((i + 1 : Nat) : Int)), rfl, ?_, fun b o eb => ?_⟩
        · rw [upd_same]
          show some (HO.dK (putK (tabl s (upto i)) (Sum.inl ((i + 1 : Nat) : Int)) (V.int (s ^ (i + 1) - ((divs (i + 1) i).map (prims s)).sum)))) = _
          rw [ep, tabl_put s hnm]
          unfold upto
          rw [range_snoc']
        · have hb : b ≠ d := ne_of_none eb hd
          rw [upd_ne hb, upd_ne hb]
          exact k2 b o (sm b o eb) hb
    · rintro σ H2 ⟨y3, rfl, hd2, sm⟩
      rw [show ((n : Int) + 1 - 1).toNat = n by omega] at hd2
      refine ⟨d, _, hd2, True.intro, fun od => ?_⟩
      refine ⟨_, rfl, d, od, rfl, .inl ⟨_, upd_same, fun DD hDD => ?_⟩⟩
      have hne : DD ≠ d := fun z => by
        rw [z, upd_same] at hDD
        cases hDD
      rw [upd_ne hne] at hDD
      refine lc_keys (d := d) (o := od) (kvs := tabl s (upto n)) (fun j H3 => H3 d = some (.frz od (.dK (tabl s (upto n)))) ∧ (∀ b o, H2 b = some o → b ≠ d → H3 b = some o) ∧ H3 DD = some (.lst (numsV (((upto n).take j).map (prims s)))))
        ⟨by rw [upd_ne hne.symm, upd_same], fun b o eb hb => by rw [upd_ne (ne_of_none eb hDD), upd_ne hb]; exact eb, by rw [upd_same]; rfl⟩ (fun j H3 z => z.1) ?_ ?_
      · rintro j k v H3 hj ⟨k1, k2, k3⟩
        obtain ⟨c, hc, rfl, rfl⟩ := tabl_at hj
        have hmem := List.mem_of_getElem? hc
        refine ⟨rfl, _, rfl, _, rfl, d, _, rfl, .inl ⟨_, Sum.inl (c : Int), .inr ⟨od, k1⟩, rfl, (tabl_get s hmem).symm⟩, ?_⟩
        refine ⟨_, k3, ?_, ?_, fun b o eb hb' => ?_, ?_⟩
        · unfold numsV
          rw [List.length_map, List.length_map, List.length_take, upto_len]
          omega
        · rw [upd_ne hne.symm]
          exact k1
        · rw [upd_ne (ne_of_none eb hDD)]
          exact k2 b o eb hb'
        · rw [upd_same, List.take_add_one, hc]
          unfold numsV
          rw [List.map_append, List.map_append]
          rfl
      · rintro H3 ⟨k1, k2, k3⟩
        rw [tabl_len, List.take_length] at k3
        refine ⟨k1, DD, _, rfl, .inl (.inl (by rw [upd_ne hne]; exact k3)), q _ fun b o eb => ?_⟩
        have hb : b ≠ d := ne_of_none eb hd
        rw [upd_ne hb]
        exact k2 b o (sm b o eb) hb
theorem sc_grt : FnScope ["dice", "signs", "gap", "many", "due"] ["dice"] (defScope st__law_great_right) := ⟨rfl, rfl, rfl, by decide +kernel, rfl, by decide +kernel, by decide +kernel⟩
def spGrt : Sp := fun vs H Q _ => ∃ (d : Addr) (n : Nat), vs = [.ref d] ∧ Dice H d n ∧ n < 2 ^ 55 ∧ ∀ H', Dice H' d (n + 40) → Kept H H' d → Q (.bl true) H'
theorem ok_grt (B : Bi mg) {C : Addr} (D : Df K mg "_law_great_right" st__law_great_right ["dice"]) (CD : Cal P w K mg base 2 "_law_draw" ["dice", "many"] spDraw) (CL : Cal P w K mg base 3 "_law_letters" ["dice", "many"] spLetters) (CW : Cal P w K mg base 1 "_law_power" ["base", "many"] spPow)
    (CP : Cal P w K mg base 2 "_law_primitives" ["signs", "most"] spLpm) (CM : Cal P w K mg base 5 "_law_made" ["ground"] (spMd C)) (CO : Cal P w K mg base 5 "many_own" ["ground"] (spMo C)) (CE : Cal P w K mg base 3 "_law_exact" ["mine", "theirs"] (spExact K 2)) : FnOk P w K mg base CX0 6 D.f D.fd ["dice"] spGrt := by
  refine D.F.ok sc_grt (fun vs H Q E h => ?_) (fun cdv A outer s' H vs Q E hr h => ?_)
  · obtain ⟨d, n, rfl, _⟩ := h
    rfl
  · obtain ⟨d, n, rfl, hD, hn, q⟩ := h
    have r1 : Room 1 _ := hr.mono (by decide)
    have r2 : Room 2 _ := hr.mono (by decide)
    have r3 : Room 3 _ := hr.mono (by decide)
    refine ⟨_, (pss_cons (ps_par (i := 1) (j := 2) (by rfl) sc_grt.nd rfl rfl (by decide) rfl rfl (pa_cons (pcall CL r3 (by rfl) (pa_cons (pv 0) (pa_cons (pe_op op_add pe_int (pcall CD r2 (by rfl) (pa_cons (pv 0) (pa_cons pe_int pa_nil)))) pa_nil))) (pa_cons (pe_op op_add pe_int (pcall CD r2 (by rfl) (pa_cons (pv 0) (pa_cons pe_int pa_nil)))) pa_nil)) (by rfl)) (pss_cons (ps_set (i := 3) sc_grt.nd rfl (.inl rfl) (pe_callB call_len_str (by rfl) B.len PySem.boot_len (pa_cons (pv 1) pa_nil))) (pss_cons (ps_set (i := 4) sc_grt.nd rfl (.inl rfl) (pe_op op_sub (pcall CW r1 (by rfl) (pa_cons (pv 3) (pa_cons (pe_op op_sub (pe_op op_mul pe_int (pv 2)) pe_int) pa_nil))) (pcall CP r2 (by rfl) (pa_cons (pv 3) (pa_cons (pe_op op_sub (pv 2) pe_int) pa_nil))))) (pss_one (ps_ret (pcall CE r3 (by rfl) (pa_cons (pcall CO hr (by rfl) (pa_cons (pcall CM hr (by rfl) (pa_cons (pe_tup (pa_cons (pv 1) (pa_cons (pv 2) pa_nil))) pa_nil)) pa_nil)) (pa_cons (pv 4) pa_nil)))))))), ?_⟩
    have e16 : sizeLine = 16777216 := by decide
    refine ⟨_, rfl, _, rfl, d, 25, n, rfl, hD, by omega, by decide, by decide, fun r H1 r0 r1 hD1 k1 => ⟨_, _, rfl, rfl, ?_⟩⟩
    obtain ⟨m, rfl⟩ : ∃ m : Nat, r = (m : Int) := ⟨r.toNat, by omega⟩
    refine ⟨d, 2 + m, n + 1, congrArg (fun i => [V.ref d, V.int i]) (show (2 + (m : Int)) = ((2 + m : Nat) : Int) by omega), hD1, by omega, by omega, fun u H2 hul hl hp hD2 k2 => ?_⟩
    refine ⟨_, rfl, d, 59, n + 1 + (2 + m), rfl, hD2, by omega, by decide, by decide, fun r' H3 r0' r1' hD3 k3 => ⟨_, _, rfl, rfl, _, _, rfl, ?_⟩⟩
    obtain ⟨g', rfl⟩ : ∃ m : Nat, r' = (m : Int) := ⟨r'.toNat, by omega⟩
    have G : Gd u (2 + g') := ⟨hl, hp, by omega, by omega, by omega, by omega⟩
    have l26 := G.few
    refine ⟨_, rfl, S u, rfl, by rw [S_len]; omega, ?_⟩
    refine ⟨_, rfl, _, rfl, _, _, rfl, rfl, .inl ⟨by decide, by decide⟩, _, _, rfl, rfl, (u.length : Int), 2 * (2 + g') - 2, ?_, gd_pow l26, by omega, ?_⟩
    · rw [S_len]
      exact congrArg (fun i => [V.int (u.length : Int), V.int i]) (by omega)
    refine ⟨_, rfl, _, rfl, _, _, rfl, rfl, (u.length : Int), 2 + g' - 1, ?_, gd_pow l26, by omega, fun H4 s4 => ?_⟩
    · rw [S_len]
      exact congrArg (fun i => [V.int (u.length : Int), V.int i]) (by omega)
    refine ⟨_, _, rfl, rfl, ?_⟩
    refine ⟨_, rfl, _, rfl, by show 2 ≤ sizeLine; decide, fun T hT => ?_⟩
    refine ⟨T, u, 2 + g', rfl, ?_, G, fun x H5 hx s5 ga => ?_⟩
    · rw [upd_same, ← show (2 + (g' : Int)) = ((2 + g' : Nat) : Int) by omega]
    refine ⟨x, u, 2 + g', rfl, ga, G, by omega, fun H6 s6 => ?_⟩
    refine ⟨_, rfl, _, _, rfl, Eqv.flat (n := 2) True.intro, fun H7 s7 => ?_⟩
    have sA : Same H3 H7 := s4.trans ((same_upd hT).trans (s5.trans (s6.trans s7)))
    exact q H7 ((Same.dice sA hD3).more (by omega)) (k1.trans (k2.trans (k3.trans (Kept.of sA))))
end
end K4
set_option Elab.async false
set_option linter.all false
set_option maxRecDepth 100000
set_option maxHeartbeats 8000000
namespace K4
open PySem PySem.Spec PyProof.Rows L2 K4M K4S
def nine : List (Nat × Nat) := [(2, 2), (3, 2), (2, 3), (4, 2), (5, 2), (2, 4), (3, 3), (10, 2), (2, 5)]
theorem nine_ok {k g : Nat} (h : (k, g) ∈ nine) : g ≤ 100 ∧ k ^ (2 * g - 2) ≤ 5000 ∧ 1 ≤ manyOwn k g := by
  have all : ∀ x ∈ nine, x.2 ≤ 100 ∧ x.1 ^ (2 * x.2 - 2) ≤ 5000 ∧ 1 ≤ manyOwn x.1 x.2 := by decide +kernel
  exact all _ h
theorem Eqv.three {K : PySem.W.Frag} {H : Hp} {n : Nat} {a b : Addr} {x1 x2 x3 y1 y2 y3 : V} (ha : H a = some (.lst [x1, x2, x3])) (hb : H b = some (.lst [y1, y2, y3])) (e1 : Eqv K H n x1 y1) (e2 : Eqv K H n x2 y2) (e3 : Eqv K H n x3 y3) : Eqv K H (n + 1) (.ref a) (.ref b) :=
  .inr ⟨a, b, [x1, x2, x3], [y1, y2, y3], rfl, rfl, by show 3 ≤ 100000; decide, rfl, .inl ⟨.inl (.inl ha), .inl (.inl hb)⟩, fun i u v hu hv => by
    match i with
    | 0 => cases hu; cases hv; exact e1
    | 1 => cases hu; cases hv; exact e2
    | 2 => cases hu; cases hv; exact e3
    | k + 3 => cases hu⟩
theorem nodup_of {u : List Nat} (h : u.Pairwise (· < ·)) : u.Nodup := by
  rw [List.nodup_iff_pairwise_ne]
  exact h.imp fun {a b} h z => absurd (z ▸ h) (Nat.lt_irrefl _)
section
variable {P : Program} {w : World} {K : PySem.W.Frag} {mg : Str → Option Value} {base : Heap}
theorem sc_gr7 : FnScope ["ground", "made", "every", "own", "spin", "told", "some", "window", "near"] ["ground"] (defScope st__law_ground_right) := ⟨rfl, rfl, rfl, by decide +kernel, rfl, by decide +kernel, by decide +kernel⟩
def spGr7 : Sp := fun vs H Q _ => ∃ (t : Addr) (u : List Nat) (g : Nat), vs = [.ref t] ∧ H t = some (.tup [.str (S u), .int (g : Int)]) ∧ Gd u g ∧ (u.length, g) ∈ nine ∧ ∀ H', Same H H' → Q (.bl true) H'
theorem ok_gr7 (B : Bi mg) {C : Addr} (D : Df K mg "_law_ground_right" st__law_ground_right ["ground"]) (CM : Cal P w K mg base 5 "_law_made" ["ground"] (spMd C)) (CWo : Cal P w K mg base 1 "_law_words_of" ["signs", "size"] spWords) (CLo : Cal P w K mg base 2 "_law_own" ["ground"] spLo) (CE : Cal P w K mg base 3 "_law_exact" ["mine", "theirs"] (spExact K 2))
    (COw : Cal P w K mg base 7 "own_windows" ["ground"] (spOw C)) (CMo : Cal P w K mg base 5 "many_own" ["ground"] (spMo C)) (CIo : Cal P w K mg base 6 "is_own" ["ground", "window"] (spOwn C)) (CW : Cal P w K mg base 3 "windows" ["ground"] (spWin C)) (CNo : Cal P w K mg base 8 "near_ones" ["ground", "window"] (spNo C)) (CLn : Cal P w K mg base 2 "_law_near" ["one", "other", "gap"] spLn) :
    FnOk P w K mg base CX0 9 D.f D.fd ["ground"] spGr7 := by
  refine D.F.ok sc_gr7 (fun vs H Q E h => ?_) (fun cdv A outer s H vs Q E hr h => ?_)
  · obtain ⟨t, u, g, rfl, _⟩ := h
    rfl
  · obtain ⟨t, u, g, rfl, ht, G, h9, q⟩ := h
    obtain ⟨g100, h5, hmany⟩ := nine_ok h9
    have r1 : Room 1 _ := hr.mono (by decide)
    have r2 : Room 2 _ := hr.mono (by decide)
    have r3 : Room 3 _ := hr.mono (by decide)
    have r5 : Room 5 _ := hr.mono (by decide)
    have r6 : Room 6 _ := hr.mono (by decide)
    have r7 : Room 7 _ := hr.mono (by decide)
    have g2 := G.gap
    have l2 := G.two
    have l26 := G.few
    have e16 : sizeLine = 16777216 := by decide
    have three : 3 ≤ sizeLine := by show 3 ≤ sizeLine; decide
    refine ⟨_, (pss_cons (ps_asg (pe_tup (pa_cons (pcall CM r5 (by rfl) (pa_cons (pv 0) pa_nil)) (pa_cons (pcall CWo r1 (by rfl) (pa_cons (pe_ix (r := rIxT K) ix_tup (pv 0) pe_int (fun _ _ => rfl)) (pa_cons (pe_op op_sub (pe_op op_mul pe_int (pe_ix (r := rIxT K) ix_tup (pv 0) pe_int (fun _ _ => rfl))) pe_int) pa_nil))) pa_nil))) (pg_tup rfl (pgs_cons (pg_name (i := 1) sc_gr7.nd rfl (.inl rfl)) (pgs_cons (pg_name (i := 2) sc_gr7.nd rfl (.inr rfl)) pgs_nil)))) (pss_cons (ps_set (i := 3) sc_gr7.nd rfl (.inl rfl) (pcall CLo r2 (by rfl) (pa_cons (pv 0) pa_nil))) (pss_cons (ps_if (pt_not (pt_val (pcall CE r3 (by rfl) (pa_cons (pe_lst (pa_cons (pcall COw r7 (by rfl) (pa_cons (pcall CM r5 (by rfl) (pa_cons (pv 0) pa_nil)) pa_nil)) (pa_cons (pcall CMo r5 (by rfl) (pa_cons (pcall CM r5 (by rfl) (pa_cons (pv 0) pa_nil)) pa_nil)) (pa_cons (pcall CIo r6 (by rfl) (pa_cons (pcall CM r5 (by rfl) (pa_cons (pv 0) pa_nil)) (pa_cons (pe_ix (r := rIxL K) ix_list (pv 3) (pe_un un_neg pe_int) (fun _ _ => rfl)) pa_nil))) pa_nil)))) (pa_cons (pe_lst (pa_cons (pv 3) (pa_cons (pe_callB call_len_seq (by rfl) B.len PySem.boot_len (pa_cons (pv 3) pa_nil)) (pa_cons pe_bl pa_nil)))) pa_nil))))) pss_never pss_nil) (pss_cons (ps_for PassesOwn.never rfl (pi_range1 (by rfl) B.range (pa_cons pe_int pa_nil)) (pg_name (i := 4) sc_gr7.nd rfl (.inl rfl)) (pss_cons (ps_par (i := 5) (j := 6) (by rfl) sc_gr7.nd rfl rfl (by decide) rfl rfl (pa_cons (pcall CW (hr.mono (by decide)) (by rfl) (pa_cons (pv 1) pa_nil)) (pa_cons (pcall COw r7 (by rfl) (pa_cons (pv 1) pa_nil)) pa_nil)) (by rfl)) (pss_cons (ps_if (pt_not (pt_val (pcall CE r3 (by rfl) (pa_cons (pe_lst (pa_cons (pv 5) (pa_cons (pv 6) (pa_cons (pcall CMo r5 (by rfl) (pa_cons (pv 1) pa_nil)) pa_nil)))) (pa_cons (pe_lst (pa_cons (pv 2) (pa_cons (pv 3) (pa_cons (pe_callB call_len_seq (by rfl) B.len PySem.boot_len (pa_cons (pv 3) pa_nil)) pa_nil)))) pa_nil))))) pss_never pss_nil) (pss_cons (ps_expr (pe_bm PySem.F.plainAttrs_list PySem.F.slot_list_append PySem.F.type_list_append mt_append (pv 5) (pa_cons pe_str pa_nil))) (pss_one (ps_expr (pe_bm PySem.F.plainAttrs_list PySem.F.slot_list_append PySem.F.type_list_append mt_append (pv 6) (pa_cons pe_str pa_nil)))))))) (pss_cons (ps_for PassesOwn.never rfl (pi_list (pe_op op_cat (pe_slice sl_list (pv 2) po_none (po_some pe_int)) (pe_slice sl_list (pv 2) (po_some (pe_un un_neg pe_int)) po_none))) (pg_name (i := 7) sc_gr7.nd rfl (.inl rfl)) (pss_one (ps_if (pt_not (pt_val (pcall CE r3 (by rfl) (pa_cons (pcall CIo r6 (by rfl) (pa_cons (pv 1) (pa_cons (pv 7) pa_nil))) (pa_cons (pe_cmpR (r := rIn K false) op_in_seq (pv 7) (pv 3) rfl) pa_nil))))) pss_never pss_nil))) (pss_cons (ps_par (i := 5) (j := 6) (by rfl) sc_gr7.nd rfl rfl (by decide) rfl rfl (pa_cons (pcall CW (hr.mono (by decide)) (by rfl) (pa_cons (pv 1) pa_nil)) (pa_cons (pcall COw r7 (by rfl) (pa_cons (pv 1) pa_nil)) pa_nil)) (by rfl)) (pss_cons (ps_set (i := 8) sc_gr7.nd rfl (.inl rfl) (pcall CNo hr (by rfl) (pa_cons (pv 1) (pa_cons (pe_ix (r := rIxL K) ix_list (pv 2) (pe_un un_neg pe_int) (fun _ _ => rfl)) pa_nil)))) (pss_cons (ps_if (pt_not (pt_val (pcall CE r3 (by rfl) (pa_cons (pe_lst (pa_cons (pv 5) (pa_cons (pv 6) (pa_cons (pv 8) pa_nil)))) (pa_cons (pe_lst (pa_cons (pv 2) (pa_cons (pv 3) (pa_cons (pe_lc (own := [("window", 7)]) (g := (gName 7)) rfl sc_gr7.nd (pi_list (pv 3)) (blkOk_by (N := ["ground", "made", "every", "own", "spin", "told", "some", "window", "near"]) (sc := defScope st__law_ground_right) (by decide +kernel)) (fun _ _ _ _ _ => (pg_name (i := 7) sc_gr7.nd rfl (.inl rfl))) (fun _ _ _ _ _ => (pts_one (pt_val (pcall CLn r2 (by rfl) (pa_cons (pe_ix (r := rIxL K) ix_list (pv 2) (pe_un un_neg pe_int) (fun _ _ => rfl)) (pa_cons (pv 7) (pa_cons (pe_ix (r := rIxT K) ix_tup (pv 0) pe_int (fun _ _ => rfl)) pa_nil))))))) (fun _ _ _ _ _ => (pv 7))) pa_nil)))) pa_nil))))) pss_never pss_nil) (pss_one (ps_ret (pe_not (pe_callB (cr_any rfl) (by rfl) B.any (by decide +kernel) (pa_cons (pe_lc (own := [("window", 7)]) (g := (gName 7)) (tt := tYes) rfl sc_gr7.nd (pi_list (pv 3)) (blkOk_by (N := ["ground", "made", "every", "own", "spin", "told", "some", "window", "near"]) (sc := defScope st__law_ground_right) (by decide +kernel)) (fun _ _ _ _ _ => (pg_name (i := 7) sc_gr7.nd rfl (.inl rfl))) (fun _ _ _ _ _ => pts_nil) (fun _ _ _ _ _ => (pcall CLn r2 (by rfl) (pa_cons (pv 7) (pa_cons (pv 7) (pa_cons (pe_ix (r := rIxT K) ix_tup (pv 0) pe_int (fun _ _ => rfl)) pa_nil)))))) pa_nil))))))))))))), ?_⟩
    refine ⟨_, rfl, t, u, g, rfl, ht, G, fun x H1 hx sm1 ga1 => ?_⟩
    have ht1 := sm1 _ _ ht
    refine ⟨_, rfl, t, _, 0, .str (S u), rfl, rfl, .inl (.inl ht1), atI_nat (j := 0) rfl, _, rfl, t, _, 1, .int (g : Int), rfl, rfl, .inl (.inl ht1), atI_nat (j := 1) rfl, _, _, rfl, rfl, .inl ⟨by decide, by decide⟩, _, _, rfl, rfl, ?_⟩
    refine ⟨u, 2 * g - 2, congrArg (fun i => [V.str (S u), V.int i]) (show (2 * (g : Int) - 2) = ((2 * g - 2 : Nat) : Int) by omega), by omega, l26, by omega, h5, fun L H2' hL sm2' hLs' => ⟨by show 2 ≤ sizeLine; decide, fun TP hTP => ⟨TP, _, rfl, .inl (.inl upd_same), rfl, _, _, rfl, _, _, rfl, rfl, ?_⟩⟩⟩
    have sm2 := sm2'.trans (same_upd (o := .tup [V.ref x, V.ref L]) hTP)
    have hLs := same_upd (o := .tup [V.ref x, V.ref L]) hTP _ _ hLs'
    revert sm2 hLs
    generalize upd H2' TP (.tup [V.ref x, V.ref L]) = H2
    intro sm2 hLs
    have hwl : (wl u (2 * g - 2)).length ≤ 5000 := by rw [wl_eq, words_len]; exact h5
    have hol : (own u g).length ≤ 5000 := Nat.le_trans (List.length_filter_le _ _) hwl
    have hcount : (((own u g).length : Nat) : Int) = manyOwn u.length g := own_many (nodup_of G.up) h9
    have hone : own u g ≠ [] := fun z => by
      rw [z] at hcount
      have : (0 : Int) = manyOwn u.length g := hcount
      omega
    have ht2 := sm2 _ _ ht1
    refine ⟨_, rfl, t, u, g, rfl, ht2, G, g100, h5, fun LO H3 hLO sm3 eO => ?_⟩
    have ht3 := sm3 _ _ ht2
    have eL3 := sm3 _ _ hLs
    have ga3 := (ga1.same sm2).same sm3
    -- three made anew
    obtain ⟨lw, hlw⟩ : ∃ v, (own u g)[(own u g).length - 1]? = some v := ⟨_, List.getElem?_eq_getElem (by have := List.length_pos_iff.mpr hone; omega)⟩
    have hlast : (strsV (own u g))[(strsV (own u g)).length - 1]? = some (V.str (S lw)) := by
      unfold strsV
      rw [List.length_map, List.getElem?_map, hlw]
      rfl
    have lwm := List.mem_filter.mp (List.mem_of_getElem? hlw)
    refine ⟨_, rfl, t, u, g, rfl, ht3, G, fun x1 H4 hx1 s4 gb1 => ⟨x1, u, g, rfl, gb1, G, h5, fun L1 H5 hL1 s5 e5 => ?_⟩⟩
    refine ⟨_, rfl, t, u, g, rfl, (s4.trans s5) _ _ ht3, G, fun x2 H6 hx2 s6 gb2 => ⟨x2, u, g, rfl, gb2, G, g100, fun H7 s7 => ?_⟩⟩
    have s37 : Same H3 H7 := s4.trans (s5.trans (s6.trans s7))
    refine ⟨_, rfl, t, u, g, rfl, s37 _ _ ht3, G, fun x3 H8 hx3 s8 gb3 => ?_⟩
    have eO8 := (s37.trans s8) _ _ eO
    refine ⟨_, rfl, _, rfl, LO, _, -1, _, rfl, rfl, .inl (.inl eO8), atI_m1 hlast, x3, u, g, lw, rfl, gb3, G, lwm.1, ?_⟩
    rw [lwm.2]
    refine ⟨three, fun A1 hA1 => ?_⟩
    have t1 := same_upd (o := .lst [V.ref L1, V.int (manyOwn u.length g), V.bl true]) hA1
    refine ⟨_, rfl, _, rfl, LO, _, rfl, .inl (.inl (.inl (t1 _ _ eO8))), three, fun A2 hA2 => ?_⟩
    have t2 := same_upd (o := .lst [V.ref LO, V.int ((strsV (own u g)).length : Nat), V.bl true]) hA2
    refine ⟨_, _, rfl, Eqv.three (t2 _ _ upd_same) upd_same (Eqv.list (.inl (.inl ((s6.trans (s7.trans (s8.trans (t1.trans t2)))) _ _ e5))) (.inl (.inl ((t1.trans t2) _ _ eO8))) (by rw [strs_len]; omega) (strs_flat _)) (by rw [strs_len, hcount]; exact Eqv.flat True.intro) (Eqv.flat True.intro), fun H9 s9 => ⟨_, rfl, iteF ?_⟩⟩
    have s39 : Same H3 H9 := s37.trans (s8.trans (t1.trans (t2.trans s9)))
    -- twice
    refine ⟨2, rfl, by decide, by decide, ?_⟩
    refine for_range (lo := 0) (n := (2 : Int).toNat) (fun i σ H10 => ∃ y4 y5 y6 y7 y8 : Option V, σ = [some (.ref t), some (.ref x), some (.ref L), some (.ref LO), y4, y5, y6, y7, y8] ∧ Same H3 H10) ⟨none, none, none, none, none, rfl, s39⟩ ?_ ?_
    · rintro i σ H10 hi ⟨y4, y5, y6, y7, y8, rfl, s10⟩
      refine ⟨_, rfl, x, u, g, rfl, ga3.same s10, G, h5, fun T1 H11 hT1 s11 e11 => ⟨_, rfl, x, u, g, rfl, (ga3.same s10).same s11, G, h5, fun T2 H12 hT2 s12 e12 => ⟨_, _, rfl, ?_⟩⟩⟩
      have s13 : Same H3 H12 := s10.trans (s11.trans s12)
      refine ⟨_, rfl, _, rfl, _, rfl, x, u, g, rfl, ga3.same s13, G, g100, fun H13 s14 => ⟨three, fun A3 hA3 => ?_⟩⟩
      have t3 := same_upd (o := .lst [V.ref T1, V.ref T2, V.int (manyOwn u.length g)]) hA3
      have s15 : Same H3 _ := s13.trans (s14.trans t3)
      refine ⟨_, rfl, _, rfl, _, rfl, LO, _, rfl, .inl (.inl (.inl (s15 _ _ eO))), three, fun A4 hA4 => ?_⟩
      have t4 := same_upd (o := .lst [V.ref L, V.ref LO, V.int ((strsV (own u g)).length : Nat)]) hA4
      refine ⟨_, _, rfl, Eqv.three (t4 _ _ upd_same) upd_same (Eqv.list (.inl (.inl ((s12.trans (s14.trans (t3.trans t4))) _ _ e11))) (.inl (.inl ((s15.trans t4) _ _ eL3))) (by rw [strs_len]; omega) (strs_flat _))
        (Eqv.list (.inl (.inl ((s14.trans (t3.trans t4)) _ _ e12))) (.inl (.inl ((s15.trans t4) _ _ eO))) (by rw [strs_len]; omega) (strs_flat _)) (by rw [strs_len, hcount]; exact Eqv.flat True.intro), fun H16 s16 => ⟨_, rfl, iteF ?_⟩⟩
      have e11' := (s12.trans (s14.trans (t3.trans (t4.trans s16)))) _ _ e11
      have e12' := (s14.trans (t3.trans (t4.trans s16))) _ _ e12
      have n12 : T2 ≠ T1 := (ne_of_none e11 hT2).symm
      refine ⟨_, rfl, .inl ⟨rfl, _, .inl (.inl e11')⟩, T1, _, _, rfl, rfl, e11', by rw [strs_len]; omega, ?_⟩
      have e12'' : (upd H16 T1 (.lst (strsV (wl u (2 * g - 2)) ++ [V.str (Str.ofString "more")]))) T2 = some (.lst (strsV (own u g))) := by rw [upd_ne n12]; exact e12'
      refine ⟨_, rfl, .inl ⟨rfl, _, .inl (.inl e12'')⟩, T2, _, _, rfl, rfl, e12'', by rw [strs_len]; omega, _, _, _, _, _, rfl, fun b o e => ?_⟩
      have e10 := s10 _ _ e
      rw [upd_ne (ne_of_none (s11 _ _ e10) hT2), upd_ne (ne_of_none e10 hT1)]
      exact (s15.trans (t4.trans s16)) _ _ e
    · rintro σ H10 ⟨y4, y5, y6, y7, y8, rfl, s10⟩
      have hp90 := cutV_length (strsV (wl u (2 * g - 2))) none (some 90)
      have hm90 := cutV_length (strsV (wl u (2 * g - 2))) (some (-90)) none
      rw [strs_len] at hp90 hm90
      have eL10 := s10 _ _ eL3
      refine ⟨_, rfl, _, rfl, L, _, rfl, .inl (.inl eL10), fun p1 hp1 => ?_⟩
      have z1 := same_upd (o := .lst (cutV (strsV (wl u (2 * g - 2))) none (some 90))) hp1
      refine ⟨_, rfl, 90, rfl, _, rfl, L, _, rfl, .inl (.inl (z1 _ _ eL10)), fun p2 hp2 => ?_⟩
      have z2 := same_upd (o := .lst (cutV (strsV (wl u (2 * g - 2))) (some (-90)) none)) hp2
      refine ⟨p1, p2, _, _, rfl, rfl, z2 _ _ upd_same, upd_same, by omega, fun p3 hp3 => ?_⟩
      have hmem : ∀ y ∈ cutV (strsV (wl u (2 * g - 2))) none (some 90) ++ cutV (strsV (wl u (2 * g - 2))) (some (-90)) none, ∃ v ∈ wl u (2 * g - 2), y = V.str (S v) := fun y hy => by
        have hy2 : y ∈ strsV (wl u (2 * g - 2)) := by
          rcases List.mem_append.mp hy with z | z
          · exact cut_mem z
          · exact cut_mem z
        obtain ⟨v, hv, ev⟩ := List.mem_map.mp hy2
        exact ⟨v, hv, ev.symm⟩
      have s3' := s10.trans (z1.trans (z2.trans (same_upd (o := .lst (cutV (strsV (wl u (2 * g - 2))) none (some 90) ++ cutV (strsV (wl u (2 * g - 2))) (some (-90)) none)) hp3)))
      have e3' := upd_same (H := upd (upd H10 p1 (.lst (cutV (strsV (wl u (2 * g - 2))) none (some 90)))) p2 (.lst (cutV (strsV (wl u (2 * g - 2))) (some (-90)) none))) (a := p3) (o := .lst (cutV (strsV (wl u (2 * g - 2))) none (some 90) ++ cutV (strsV (wl u (2 * g - 2))) (some (-90)) none))
      revert s3' e3'
      generalize upd (upd (upd H10 p1 (.lst (cutV (strsV (wl u (2 * g - 2))) none (some 90)))) p2 (.lst (cutV (strsV (wl u (2 * g - 2))) (some (-90)) none))) p3 (.lst (cutV (strsV (wl u (2 * g - 2))) none (some 90) ++ cutV (strsV (wl u (2 * g - 2))) (some (-90)) none)) = H11
      intro s11 e11
      generalize cutV (strsV (wl u (2 * g - 2))) none (some 90) ++ cutV (strsV (wl u (2 * g - 2))) (some (-90)) none = zs at hmem e11
      refine ⟨p3, rfl, ⟨_, .inl (.inl e11)⟩, ?_⟩
      refine for_list (K := K) (a := p3) (xs := zs) (fun j σ H12 => ∃ (y7 : Option V), σ = [some (.ref t), some (.ref x), some (.ref L), some (.ref LO), y4, y5, y6, y7, y8] ∧ Same H11 H12)
        ⟨y7, rfl, Same.refl _⟩ (fun j σ H12 _ ⟨_, _, z⟩ => .inl (.inl (z _ _ e11))) ?_ ?_
      · rintro j y σ H12 hj ⟨y7, rfl, s12⟩
        obtain ⟨v, vm, rfl⟩ := hmem y (List.mem_of_getElem? hj)
        refine ⟨_, rfl, _, rfl, x, u, g, v, rfl, (ga3.same s11).same s12, G, vm, ?_⟩
        refine ⟨_, rfl, _, rfl, LO, _, rfl, .inl (.inl (.inl (s12 _ _ (s11 _ _ eO)))), rfl, strs_flatV _, ?_⟩
        have ec : inV (.str (S v)) (strsV (own u g)) = !decide (lp v < g) := by
          rw [inV_strs, Bool.eq_iff_iff, List.contains_iff_mem]
          unfold own
          rw [List.mem_filter]
          exact ⟨fun z => z.2, fun z => ⟨vm, z⟩⟩
        refine ⟨_, _, rfl, ?_, fun H13 s13 => ⟨_, rfl, iteF ⟨_, rfl, s12.trans s13⟩⟩⟩
        show Eqv K H12 2 (.bl (!decide (lp v < g))) (.bl (inV (.str (S v)) (strsV (own u g))))
        rw [ec]
        exact Eqv.flat True.intro
      · rintro σ H12 ⟨y7, rfl, s12⟩
        have s0 : Same H3 H12 := s11.trans s12
        refine ⟨_, rfl, x, u, g, rfl, ga3.same s0, G, h5, fun T1 H13 hT1 s13 e13 => ⟨_, rfl, x, u, g, rfl, (ga3.same s0).same s13, G, h5, fun T2 H14 hT2 s14 e14 => ⟨_, _, rfl, ?_⟩⟩⟩
        have s1 : Same H3 H14 := s0.trans (s13.trans s14)
        have hwne : wl u (2 * g - 2) ≠ [] := fun z => by
          have := lwm.1
          rw [z] at this
          cases this
        obtain ⟨ew, hew⟩ : ∃ v, (wl u (2 * g - 2))[(wl u (2 * g - 2)).length - 1]? = some v := ⟨_, List.getElem?_eq_getElem (by have := List.length_pos_iff.mpr hwne; omega)⟩
        have helast : (strsV (wl u (2 * g - 2)))[(strsV (wl u (2 * g - 2))).length - 1]? = some (V.str (S ew)) := by
          unfold strsV
          rw [List.length_map, List.getElem?_map, hew]
          rfl
        have ewm := List.mem_of_getElem? hew
        obtain ⟨ewl, _⟩ := wl_mem.mp ewm
        have eL14 := s1 _ _ eL3
        refine ⟨_, rfl, _, rfl, _, rfl, L, _, -1, _, rfl, rfl, .inl (.inl eL14), atI_m1 helast, x, u, g, ew, rfl, ga3.same s1, G, h5, ewm, fun T3 H15 hT3 s15 e15 => ?_⟩
        refine ⟨_, rfl, _, rfl, _, rfl, three, fun A5 hA5 => ?_⟩
        have t5 := same_upd (o := .lst [V.ref T1, V.ref T2, V.ref T3]) hA5
        have s16 := s1.trans (s15.trans t5)
        have eA5 := upd_same (H := H15) (a := A5) (o := .lst [V.ref T1, V.ref T2, V.ref T3])
        have k13 := (s14.trans (s15.trans t5)) _ _ e13
        have k14 := (s15.trans t5) _ _ e14
        have k15 := t5 _ _ e15
        revert s16 eA5 k13 k14 k15
        generalize upd H15 A5 (.lst [V.ref T1, V.ref T2, V.ref T3]) = H16
        intro s16 eA5 k13 k14 k15
        refine ⟨_, rfl, _, rfl, _, rfl, LO, rfl, ⟨_, .inl (.inl (s16 _ _ eO))⟩, fun DD hD => ?_⟩
        refine lc_list (K := K) (a := LO) (xs := strsV (own u g)) (fun j H17 => Same H16 H17 ∧ H17 DD = some (.lst (strsV (((own u g).take j).filter (near g ew))))) ⟨same_upd hD, upd_same⟩ (fun j H17 _ z => .inl (.inl (z.1 _ _ (s16 _ _ eO)))) ?_ ?_
        · rintro j y H17 hj ⟨s17, hDD⟩
          obtain ⟨v, hv, rfl⟩ := strs_at hj
          have vm := (List.mem_filter.mp (List.mem_of_getElem? hv)).1
          obtain ⟨hvl, _⟩ := wl_mem.mp vm
          have lf := List.length_filter_le (near g ew) ((own u g).take j)
          rw [List.length_take] at lf
          have st := s16.trans s17
          refine ⟨rfl, _, rfl, _, rfl, L, _, -1, _, rfl, rfl, .inl (.inl (st _ _ eL3)), atI_m1 helast, _, rfl, _, rfl, t, _, 1, .int (g : Int), rfl, rfl, .inl (.inl (st _ _ ht3)), atI_nat (j := 1) rfl, g, ew, v, rfl, by omega, by omega, by omega, by omega, fun H18 s18 => ⟨_, rfl, ?_⟩⟩
          cases hb : near g ew v with
          | true =>
            refine iteT ⟨_, rfl, _, s18 _ _ hDD, by rw [strs_len]; omega, fun b o e => ?_, ?_⟩
            · rw [upd_ne (ne_of_none e hD)]
              exact s18 _ _ (s17 b o e)
            · rw [upd_same, filter_take hv, if_pos hb, strs_app]
              rfl
          | false =>
            refine iteF ⟨s17.trans s18, ?_⟩
            rw [s18 _ _ hDD, filter_take hv, if_neg (by rw [hb]; exact Bool.false_ne_true), List.append_nil]
        · rintro H17 ⟨s17, hDD⟩
          rw [strs_len, List.take_length] at hDD
          refine ⟨three, fun A6 hA6 => ?_⟩
          have t6 := same_upd (o := .lst [V.ref L, V.ref LO, V.ref DD]) hA6
          have lnf : ((own u g).filter (near g ew)).length ≤ 100000 := Nat.le_trans (List.length_filter_le _ _) (by omega)
          refine ⟨_, _, rfl, Eqv.three ((s17.trans t6) _ _ eA5) upd_same (Eqv.list (.inl (.inl ((s17.trans t6) _ _ k13))) (.inl (.inl ((s16.trans (s17.trans t6)) _ _ eL3))) (by rw [strs_len]; omega) (strs_flat _))
            (Eqv.list (.inl (.inl ((s17.trans t6) _ _ k14))) (.inl (.inl ((s16.trans (s17.trans t6)) _ _ eO))) (by rw [strs_len]; omega) (strs_flat _)) (Eqv.list (.inl (.inl ((s17.trans t6) _ _ k15))) (.inl (.inl (t6 _ _ hDD))) (by rw [strs_len]; exact lnf) (strs_flat _)), fun H18 s18 => ⟨_, rfl, iteF ?_⟩⟩
          have s19 : Same H3 H18 := s16.trans (s17.trans (t6.trans s18))
          -- no own window is near itself
          refine ⟨_, rfl, LO, rfl, ⟨_, .inl (.inl (s19 _ _ eO))⟩, fun D2 hD2 => ?_⟩
          refine lc_list (K := K) (a := LO) (xs := strsV (own u g)) (fun j H20 => Same H18 H20 ∧ H20 D2 = some (.lst ((List.replicate j false).map V.bl))) ⟨same_upd hD2, upd_same⟩ (fun j H20 _ z => .inl (.inl (z.1 _ _ (s19 _ _ eO)))) ?_ ?_
          · rintro j y H20 hj ⟨s20, eD⟩
            obtain ⟨v, hv, rfl⟩ := strs_at hj
            have hjl := (List.getElem?_eq_some_iff.mp hv).1
            have vmm := List.mem_filter.mp (List.mem_of_getElem? hv)
            obtain ⟨hvl, _⟩ := wl_mem.mp vmm.1
            have hvne : v ≠ [] := fun z => by rw [z] at hvl; simp at hvl; omega
            have hnf : near g v v = false := by
              rw [near_self hvne]
              have := vmm.2
              cases z : decide (lp v < g) with
              | false => rfl
              | true => rw [z] at this; cases this
            refine ⟨rfl, _, rfl, _, rfl, _, rfl, t, _, 1, .int (g : Int), rfl, rfl, .inl (.inl ((s19.trans s20) _ _ ht3)), atI_nat (j := 1) rfl, g, v, v, rfl, by omega, by omega, rfl, by omega, fun H21 s21 => ?_⟩
            rw [hnf]
            refine ⟨_, s21 _ _ eD, by rw [List.length_map, List.length_replicate]; omega, fun b o e => ?_, ?_⟩
            · rw [upd_ne (ne_of_none e hD2)]
              exact s21 _ _ (s20 b o e)
            · rw [upd_same, List.replicate_succ', List.map_append]
              rfl
          · rintro H20 ⟨s20, eD⟩
            refine ⟨D2, _, rfl, .inl (.inl eD), ?_⟩
            rw [show (List.replicate (strsV (own u g)).length false).any id = false by simp]
            exact ⟨_, rfl, q H20 (sm1.trans (sm2.trans (sm3.trans (s19.trans s20))))⟩
end
end K4
set_option Elab.async false
set_option linter.all false
set_option maxRecDepth 100000
set_option maxHeartbeats 8000000
namespace K4
open PySem PySem.Spec PyProof.Rows L2 K4M K4S
/-- behind the turn of one dice the others stand as they stood -/
theorem dices_after {ds : List Addr} {L d : Addr} {i : Nat} {H2 H9 : Hp} (hdi : ds[i]? = some d) (hnd : ds.Nodup) (neL : L ≠ d) (hL2 : H2 L = some (.lst (ds.map V.ref))) (hd2 : ∀ j d, i ≤ j → ds[j]? = some d → Dice H2 d 0) (kp : Kept H2 H9 d) :
    H9 L = some (.lst (ds.map V.ref)) ∧ ∀ j d', i + 1 ≤ j → ds[j]? = some d' → Dice H9 d' 0 := by
  refine ⟨kp _ _ neL hL2, fun j d' hj hjd => ?_⟩
  obtain ⟨b1, b2, b3, b4, e1, r⟩ := hd2 j d' (by omega) hjd
  refine ⟨b1, b2, b3, b4, kp _ _ (fun z => ?_) e1, r⟩
  have hj2 : j < ds.length := (List.getElem?_eq_some_iff.mp hjd).1
  have hi2 : i < ds.length := (List.getElem?_eq_some_iff.mp hdi).1
  have := (List.getElem?_inj hi2 hnd).mp (hdi.trans (hjd.trans (congrArg some z)).symm)
  omega
theorem dices_ne {ds : List Addr} {L : Addr} {H1 : Hp} (hLs : H1 L = some (.lst (ds.map V.ref))) {d : Addr} (hd : d ∈ ds) {n : Nat} (h : Dice H1 d n) : L ≠ d := fun z => by
  obtain ⟨b1, b2, b3, b4, e, _⟩ := h
  rw [← z, hLs] at e
  cases ds with
  | nil => cases hd
  | cons _ _ => simp at e
theorem good_nine {u : List Nat} {g : Nat} (hl : Low u) (hp : u.Pairwise (· < ·)) (h : Good 80 (u.length, g)) : Gd u g ∧ (u.length, g) ∈ nine := by
  have all : ∀ g ∈ tabG, 2 ≤ g.1 ∧ g.1 ≤ 26 ∧ 2 ≤ g.2 ∧ g.2 ≤ 100 ∧ g ∈ nine := by decide
  obtain ⟨a1, a2, a3, a4, a5⟩ := all _ h.mem
  exact ⟨⟨hl, hp, a1, a2, a3, Nat.le_trans a4 (by decide)⟩, a5⟩
theorem S_ab : Str.ofString "ab" = S [97, 98] := by decide +kernel
theorem S_abc : Str.ofString "abc" = S [97, 98, 99] := by decide +kernel
theorem S_i : Str.ofString "abcdefghi" = S (List.range' 97 9) := by decide +kernel
section
variable {P : Program} {w : World} {K : PySem.W.Frag} {mg : Str → Option Value} {base : Heap}
def spMg7 : Sp := fun vs H Q _ => ∃ (d : Addr) (n : Nat), vs = [.ref d] ∧ Dice H d n ∧ n < 2 ^ 57 ∧ ∀ (p : Addr) (H' : Hp) (u : List Nat) (g : Nat), H p = none → Kept H H' d → H' p = some (.tup [.str (S u), .int (g : Int)]) → Gd u g → (u.length, g) ∈ nine → Dice H' d (n + 20) → Q (.ref p) H'
theorem ok_mg7 (D : Df K mg "_law_many_ground" st__law_many_ground ["dice"]) (CD : Cal P w K mg base 2 "_law_draw" ["dice", "many"] spDraw) (CL : Cal P w K mg base 3 "_law_letters" ["dice", "many"] spLetters) : FnOk P w K mg base CX0 4 D.f D.fd ["dice"] spMg7 := by
  refine D.F.ok sc_mg (fun vs H Q E h => ?_) (fun cdv A outer s H vs Q E hr h => ?_)
  · obtain ⟨d, n, rfl, _⟩ := h
    rfl
  · obtain ⟨d, n, rfl, hD, hn, q⟩ := h
    have two : 2 ≤ sizeLine := by show 2 ≤ sizeLine; decide
    have r2 : Room 2 _ := hr.mono (by decide)
    refine ⟨_, (pss_one (ps_ret (pe_ifExp (pt_cmpR op_eq (pcall CD r2 (by rfl) (pa_cons (pv 0) (pa_cons pe_int pa_nil))) pe_int (nomark _)) (pe_tup (pa_cons (pcall CL hr (by rfl) (pa_cons (pv 0) (pa_cons pe_int pa_nil))) (pa_cons pe_int pa_nil))) (pe_tup (pa_cons (pcall CL hr (by rfl) (pa_cons (pv 0) (pa_cons pe_int pa_nil))) (pa_cons pe_int pa_nil)))))), ?_⟩
    refine ⟨_, rfl, d, 2, n, rfl, hD, by omega, by decide, by decide, fun r H1 r0 r1 hD1 k1 => ⟨rfl, _, rfl, ?_⟩⟩
    have fin : ∀ (m g : Nat) (hm : m ≤ 26) (h2 : 2 ≤ m) (hg : 2 ≤ g) (hg2 : g ≤ 1000) (h9 : (m, g) ∈ nine) (h10 : m ≤ 10) (u : List Nat) (H2 : Hp), u.length = m → Low u → u.Pairwise (· < ·) → Kept H1 H2 d → Dice H2 d (n + 1 + m) → ∀ p, H2 p = none → Q (.ref p) (upd H2 p (.tup [.str (S u), .int (g : Int)])) := by
      intro m g hm h2 hg hg2 h9 h10 u H2 hu hl hp k2 hD2 p hpn
      have hpd : p ≠ d := hD2.ne hpn
      refine q p _ u g ?_ (k1.trans (k2.trans (Kept.of (same_upd hpn)))) upd_same ⟨hl, hp, by omega, by omega, hg, hg2⟩ (by rw [hu]; exact h9) ((Same.dice (same_upd hpn) hD2).more (by omega))
      cases e : H p with
      | none => rfl
      | some o =>
        have := k2 _ _ hpd (k1 _ _ hpd e)
        rw [hpn] at this
        cases this
    rw [dec_int]
    by_cases hz : r = 0
    · rw [beq_iff_eq.mpr hz]
      refine iteT ?_
      exact ⟨_, rfl, d, 10, n + 1, rfl, hD1, by omega, by decide, fun u H2 hu hl hp hD2 k2 => ⟨two, fun p hpn => fin 10 2 (by decide) (by decide) (by decide) (by decide) (by decide) (by decide) u H2 hu hl hp k2 hD2 p hpn⟩⟩
    · rw [beq_eq_false_iff_ne.mpr hz]
      refine iteF ?_
      exact ⟨_, rfl, d, 2, n + 1, rfl, hD1, by omega, by decide, fun u H2 hu hl hp hD2 k2 => ⟨two, fun p hpn => fin 2 5 (by decide) (by decide) (by decide) (by decide) (by decide) (by decide) u H2 hu hl hp k2 hD2 p hpn⟩⟩
theorem sc_fr : FnScope ["dice", "ground", "made", "spin", "window", "sign"] ["dice"] (defScope st__law_far_right) := ⟨rfl, rfl, rfl, by decide +kernel, rfl, by decide +kernel, by decide +kernel⟩
def spFr : Sp := fun vs H Q _ => ∃ (d : Addr) (n : Nat), vs = [.ref d] ∧ Dice H d n ∧ n < 2 ^ 45 ∧ ∀ H', Dice H' d (n + 900) → Kept H H' d → Q (.bl true) H'
theorem ok_fr (B : Bi mg) {C : Addr} (D : Df K mg "_law_far_right" st__law_far_right ["dice"]) (CGg : Cal P w K mg base 4 "_law_great_ground" ["dice", "most"] spGg2) (CM : Cal P w K mg base 5 "_law_made" ["ground"] (spMd C)) (CGw : Cal P w K mg base 4 "_law_great_window" ["dice", "ground"] spGw2) (CE : Cal P w K mg base 3 "_law_exact" ["mine", "theirs"] (spExact K 2))
    (CIo : Cal P w K mg base 6 "is_own" ["ground", "window"] (spOwn C)) (CRp : Cal P w K mg base 1 "_law_repeats" ["word", "gap"] spRep) (CNx : Cal P w K mg base 5 "next_ones" ["ground", "window"] (spNx C)) : FnOk P w K mg base CX0 7 D.f D.fd ["dice"] spFr := by
  refine D.F.ok sc_fr (fun vs H Q E h => ?_) (fun cdv A outer s H vs Q E hr h => ?_)
  · obtain ⟨d, n, rfl, _⟩ := h
    rfl
  · obtain ⟨d, n, rfl, hD, hn, q⟩ := h
    have r1 : Room 1 _ := hr.mono (by decide)
    have r3 : Room 3 _ := hr.mono (by decide)
    have r4 : Room 4 _ := hr.mono (by decide)
    have r5 : Room 5 _ := hr.mono (by decide)
    have e16 : sizeLine = 16777216 := by decide
    refine ⟨_, (pss_cons (ps_set (i := 1) sc_fr.nd rfl (.inl rfl) (pcall CGg r4 (by rfl) (pa_cons (pv 0) (pa_cons pe_int pa_nil)))) (pss_cons (ps_set (i := 2) sc_fr.nd rfl (.inl rfl) (pcall CM r5 (by rfl) (pa_cons (pv 1) pa_nil))) (pss_cons (ps_for PassesOwn.never rfl (pi_range1 (by rfl) B.range (pa_cons pe_int pa_nil)) (pg_name (i := 3) sc_fr.nd rfl (.inl rfl)) (pss_cons (ps_set (i := 4) sc_fr.nd rfl (.inr rfl) (pcall CGw r4 (by rfl) (pa_cons (pv 0) (pa_cons (pv 1) pa_nil)))) (pss_cons (ps_if (pt_not (pt_val (pcall CE r3 (by rfl) (pa_cons (pcall CIo hr (by rfl) (pa_cons (pv 2) (pa_cons (pv 4) pa_nil))) (pa_cons (pe_not (pcall CRp r1 (by rfl) (pa_cons (pv 4) (pa_cons (pe_ix (r := rIxT K) ix_tup (pv 1) pe_int (fun _ _ => rfl)) pa_nil)))) pa_nil))))) pss_never pss_nil) (pss_one (ps_if (pt_not (pt_val (pcall CE r3 (by rfl) (pa_cons (pcall CNx (hr.mono (by decide)) (by rfl) (pa_cons (pv 2) (pa_cons (pv 4) pa_nil))) (pa_cons (pe_lc (own := [("sign", 5)]) (g := (gName 5)) (tt := tYes) rfl sc_fr.nd (pi_list (pe_callTy (call_listS rfl) (by rfl) B.list (by decide +kernel) (pa_cons (pe_ix (r := rIxT K) ix_tup (pv 1) pe_int (fun _ _ => rfl)) pa_nil))) (blkOk_by (N := ["dice", "ground", "made", "spin", "window", "sign"]) (sc := defScope st__law_far_right) (by decide +kernel)) (fun _ _ _ _ _ => (pg_name (i := 5) sc_fr.nd rfl (.inl rfl))) (fun _ _ _ _ _ => pts_nil) (fun _ _ _ _ _ => (pe_op op_add_str (pe_slice sl_str (pv 4) (po_some pe_int) po_none) (pv 5)))) pa_nil))))) pss_never pss_nil))))) (pss_one (ps_ret pe_bl))))), ?_⟩
    refine ⟨_, rfl, d, 60, n, rfl, hD, by omega, by decide, by decide, fun t H1 u g ht k1 et G g100 hD1 => ?_⟩
    have g2 := G.gap
    have l26 := G.few
    refine ⟨_, rfl, t, u, g, rfl, et, G, fun x H2 hx s2 ga => ?_⟩
    have htd : t ≠ d := hD.ne ht
    have hxd : x ≠ d := hD1.ne hx
    obtain ⟨dx, hgx⟩ := ga
    refine ⟨4, rfl, by decide, by decide, ?_⟩
    refine for_range (lo := 0) (n := (4 : Int).toNat) (fun i σ H3 => ∃ y3 y4 : Option V, σ = [some (.ref d), some (.ref t), some (.ref x), y3, y4, none] ∧ Dice H3 d (n + 20 + 200 * i) ∧ Kept H2 H3 d) ⟨none, none, rfl, (Same.dice s2 hD1).more (by omega), fun b o _ e => e⟩ ?_ ?_
    · rintro i σ H3 hi ⟨y3, y4, rfl, hD3, k3⟩
      have et3 := k3 _ _ htd (s2 _ _ et)
      refine ⟨_, rfl, _, rfl, d, t, u, g, _, rfl, hD3, by omega, htd, et3, G, g100, fun v H4 vm k4 hD4 => ?_⟩
      obtain ⟨hvl, hvc⟩ := wl_mem.mp vm
      have hvne : v ≠ [] := fun z => by rw [z] at hvl; simp at hvl; omega
      have hgx4 : GAt C H4 x u g := ⟨dx, k4 _ _ hxd (k3 _ _ hxd hgx)⟩
      have et4 := k4 _ _ htd et3
      have hs : (S v).length ≤ sizeLine := by rw [S_len]; omega
      refine ⟨_, rfl, _, rfl, x, u, g, v, rfl, hgx4, G, vm, ?_⟩
      refine ⟨_, rfl, _, rfl, t, _, 1, .int (g : Int), rfl, rfl, .inl (.inl et4), atI_nat (j := 1) rfl, v, g, rfl, hvne, by omega, by omega, by omega, fun H5 s5 => ⟨_, rfl, _, _, rfl, Eqv.flat (n := 2) True.intro, fun H6 s6 => ⟨_, rfl, iteF ?_⟩⟩⟩
      have s46 : Same H4 H6 := s5.trans s6
      refine ⟨_, rfl, _, rfl, x, u, g, v, rfl, hgx4.same s46, G, vm, fun LT H7 hLT s7 eLT => ?_⟩
      have et7 := s7 _ _ (s46 _ _ et4)
      refine ⟨_, rfl, t, _, 0, .str (S u), rfl, rfl, .inl (.inl et7), atI_nat (j := 0) rfl, u, rfl, by omega, fun LS hLS => ⟨LS, rfl, ⟨_, .inl (.inl upd_same)⟩, fun D2 hD2 => ?_⟩⟩
      have sL := same_upd (o := .lst (signsV u)) hLS
      have eLS := upd_same (H := H7) (a := LS) (o := .lst (signsV u))
      revert sL eLS hD2
      generalize upd H7 LS (.lst (signsV u)) = H13
      intro hD2 s13 eLS
      have ed : cutS (S v) (some 1) none = S (v.drop 1) := cut_drop v 1
      refine lc_list (K := K) (a := LS) (xs := signsV u) (fun m H14 => Same H13 H14 ∧ H14 D2 = some (.lst (strsV ((u.take m).map fun c => v.drop 1 ++ [c])))) ⟨same_upd hD2, upd_same⟩ (fun m H14 _ z => .inl (.inl (z.1 _ _ eLS))) ?_ ?_
      · rintro m y2 H14 hm ⟨t1, t2⟩
        obtain ⟨c, hc, rfl⟩ := sig_at hm
        have hml : m < u.length := (List.getElem?_eq_some_iff.mp hc).1
        refine ⟨rfl, _, rfl, 1, rfl, S v, rfl, hs, _, rfl, _, S [c], rfl, rfl, ?_, ?_⟩
        · rw [ed, S_len, S_len, List.length_drop]
          show v.length - 1 + 1 ≤ _
          omega
        · refine ⟨_, t2, ?_, fun b o e => ?_, ?_⟩
          · rw [strs_len, List.length_map, List.length_take]
            omega
          · rw [upd_ne (ne_of_none e hD2)]
            exact t1 b o e
          · rw [upd_same, ed, S_app, List.take_add_one, hc, List.map_append, strs_app]
            rfl
      · rintro H14 ⟨s14, eD2⟩
        rw [sig_len, List.take_length] at eD2
        have eLT14 := s14 _ _ (s13 _ _ eLT)
        refine ⟨.ref LT, .ref D2, rfl, Eqv.list (.inl (.inl eLT14)) (.inl (.inl eD2)) (by rw [strs_len, List.length_map]; omega) (strs_flat _), fun H15 s15' => ⟨_, rfl, iteF ?_⟩⟩
        have sE : Same H4 H15 := s46.trans (s7.trans (s13.trans (s14.trans s15')))
        exact ⟨_, _, rfl, (Same.dice sE hD4).more (by omega), k3.trans (k4.trans (Kept.of sE))⟩
    · rintro σ H3 ⟨y3, y4, rfl, hD3, k3⟩
      exact q H3 (hD3.more (by show n + 20 + 200 * 4 ≤ _; omega)) (k1.trans ((Kept.of s2).trans k3))
end
end K4
set_option Elab.async false
set_option linter.all false
set_option maxRecDepth 100000
set_option maxHeartbeats 8000000
namespace K4
open PySem PySem.Spec PyProof.Rows L2 K4M K4S
theorem m22 : manyOwn ([97, 98] : List Nat).length 2 = 2 := by decide +kernel
theorem m33 : manyOwn ([97, 98, 99] : List Nat).length 3 = 72 := by decide +kernel
theorem m24 : manyOwn ([97, 98] : List Nat).length 4 = 54 := by decide +kernel
theorem m92 : manyOwn (List.range' 97 9).length 2 = 72 := by decide +kernel
section
variable {P : Program} {w : World} {K : PySem.W.Frag} {mg : Str → Option Value} {base : Heap}
theorem sc_law : FnScope ["script", "dice", "far", "window", "told", "late"] ["script"] (defScope st_law) := ⟨rfl, rfl, rfl, by decide +kernel, rfl, by decide +kernel, by decide +kernel⟩
def spLaw (K : PySem.W.Frag) : Sp := fun vs H Q _ => ∃ (a : Addr) (ns : List Int), vs = [.ref a] ∧ SqL K H a (ns.map V.int) ∧ ns.length ≤ 63 ∧ ∀ H', Q (.bl true) H'
theorem ok_law (B : Bi mg) {C : Addr} (D : Df K mg "law" st_law ["script"]) (CDs : Cal P w K mg base 2 "_law_dices" ["script", "few"] (spDices K)) (CDr : Cal P w K mg base 2 "_law_draw" ["dice", "many"] spDraw)
    (CG : Cal P w K mg base 4 "_law_ground" ["dice", "most"] spGround) (CMg : Cal P w K mg base 4 "_law_many_ground" ["dice"] spMg7) (CGr : Cal P w K mg base 9 "_law_ground_right" ["ground"] spGr7) (CL : Cal P w K mg base 3 "_law_letters" ["dice", "many"] spLetters)
    (CGw : Cal P w K mg base 4 "_law_great_window" ["dice", "ground"] spGw2) (CE : Cal P w K mg base 3 "_law_exact" ["mine", "theirs"] (spExact K 2)) (CNo : Cal P w K mg base 8 "near_ones" ["ground", "window"] (spNo C)) (CM : Cal P w K mg base 5 "_law_made" ["ground"] (spMd C)) (CLo : Cal P w K mg base 2 "_law_own" ["ground"] spLo)
    (CLn : Cal P w K mg base 2 "_law_near" ["one", "other", "gap"] spLn) (CGt : Cal P w K mg base 6 "_law_great_right" ["dice"] spGrt) (CFr : Cal P w K mg base 7 "_law_far_right" ["dice"] spFr) (CMo : Cal P w K mg base 5 "many_own" ["ground"] (spMo C)) :
    FnOk P w K mg base CX0 10 D.f D.fd ["script"] (spLaw K) := by
  refine D.F.ok sc_law (fun vs H Q E h => ?_) (fun cdv A outer s' H vs Q E hr h => ?_)
  · obtain ⟨a, ns, rfl, _⟩ := h
    rfl
  · obtain ⟨a, ns, rfl, hS, hlen, q⟩ := h
    have r2 : Room 2 _ := hr.mono (by decide)
    have r3 : Room 3 _ := hr.mono (by decide)
    have r4 : Room 4 _ := hr.mono (by decide)
    have r5 : Room 5 _ := hr.mono (by decide)
    have r6 : Room 6 _ := hr.mono (by decide)
    have r7 : Room 7 _ := hr.mono (by decide)
    have r8 : Room 8 _ := hr.mono (by decide)
    have two : 2 ≤ sizeLine := by show 2 ≤ sizeLine; decide
    refine ⟨_, (pss_cons (ps_for PassesOwn.never rfl (pi_list (pcall CDs r2 (by rfl) (pa_cons (pv 0) (pa_cons pe_int pa_nil)))) (pg_name (i := 1) sc_law.nd rfl (.inl rfl)) (pss_cons (ps_if (PW.pt (pw_and (pt_cmpR op_eq (pcall CDr r2 (by rfl) (pa_cons (pv 1) (pa_cons pe_int pa_nil))) pe_int (nomark _)) (pw_and1 (pt_not (pt_val (pcall CGr hr (by rfl) (pa_cons (pcall CMg r4 (by rfl) (pa_cons (pv 1) pa_nil)) pa_nil))))))) pss_never pss_nil) (pss_cons (ps_if (pt_cmpR op_eq (pcall CDr r2 (by rfl) (pa_cons (pv 1) (pa_cons pe_int pa_nil))) pe_int (nomark _)) (pss_cons (ps_set (i := 2) sc_law.nd rfl (.inl rfl) (pe_tup (pa_cons (pcall CL r3 (by rfl) (pa_cons (pv 1) (pa_cons pe_int pa_nil))) (pa_cons pe_int pa_nil)))) (pss_cons (ps_set (i := 3) sc_law.nd rfl (.inr rfl) (pcall CGw r4 (by rfl) (pa_cons (pv 1) (pa_cons (pv 2) pa_nil)))) (pss_one (ps_if (pt_not (pt_val (pcall CE r3 (by rfl) (pa_cons (pcall CNo r8 (by rfl) (pa_cons (pcall CM r5 (by rfl) (pa_cons (pv 2) pa_nil)) (pa_cons (pv 3) pa_nil))) (pa_cons (pe_lc (own := [("late", 5)]) (g := (gName 5)) rfl sc_law.nd (pi_list (pcall CLo r2 (by rfl) (pa_cons (pv 2) pa_nil))) (blkOk_by (N := ["script", "dice", "far", "window", "told", "late"]) (sc := defScope st_law) (by decide +kernel)) (fun _ _ _ _ _ => (pg_name (i := 5) sc_law.nd rfl (.inl rfl))) (fun _ _ _ _ _ => (pts_one (pt_val (pcall CLn r2 (by rfl) (pa_cons (pv 3) (pa_cons (pv 5) (pa_cons pe_int pa_nil))))))) (fun _ _ _ _ _ => (pv 5))) pa_nil))))) pss_never pss_nil)))) pss_nil) (pss_one (ps_if (PW.pt (pw_or (pt_not (pt_val (pcall CGr hr (by rfl) (pa_cons (pcall CG r4 (by rfl) (pa_cons (pv 1) (pa_cons pe_int pa_nil))) pa_nil)))) (pw_or (pt_not (pt_val (pcall CGt r6 (by rfl) (pa_cons (pv 1) pa_nil)))) (pw_or (pt_not (pt_val (pcall CFr r7 (by rfl) (pa_cons (pv 1) pa_nil)))) (pw_or1 (pt_not (pt_val (pcall CFr r7 (by rfl) (pa_cons (pv 1) pa_nil))))))))) pss_never pss_nil))))) (pss_cons (ps_set (i := 4) sc_law.nd rfl (.inl rfl) (pe_lst (pa_cons (pcall CMo r5 (by rfl) (pa_cons (pcall CM r5 (by rfl) (pa_cons (pe_tup (pa_cons pe_str (pa_cons pe_int pa_nil))) pa_nil)) pa_nil)) (pa_cons (pcall CMo r5 (by rfl) (pa_cons (pcall CM r5 (by rfl) (pa_cons (pe_tup (pa_cons pe_str (pa_cons pe_int pa_nil))) pa_nil)) pa_nil)) (pa_cons (pcall CMo r5 (by rfl) (pa_cons (pcall CM r5 (by rfl) (pa_cons (pe_tup (pa_cons pe_str (pa_cons pe_int pa_nil))) pa_nil)) pa_nil)) (pa_cons (pcall CMo r5 (by rfl) (pa_cons (pcall CM r5 (by rfl) (pa_cons (pe_tup (pa_cons pe_str (pa_cons pe_int pa_nil))) pa_nil)) pa_nil)) pa_nil)))))) (pss_one (ps_ret (pcall CE r3 (by rfl) (pa_cons (pv 4) (pa_cons (pe_lst (pa_cons pe_int (pa_cons pe_int (pa_cons pe_int (pa_cons pe_int pa_nil))))) pa_nil))))))), ?_⟩
    have e16 : sizeLine = 16777216 := by decide
    refine ⟨_, rfl, a, ns, 1, rfl, hS, by decide, fun L ds H1 hL sm1 hLs hdl hds hnd => ?_⟩
    refine ⟨L, rfl, ⟨_, .inl (.inl hLs)⟩, ?_⟩
    refine for_list (K := K) (a := L) (xs := ds.map V.ref) (fun i σ H2 => ∃ y1 y2 y3 : Option V, σ = [some (.ref a), y1, y2, y3, none, none] ∧ H2 L = some (.lst (ds.map V.ref)) ∧ ∀ j d, i ≤ j → ds[j]? = some d → Dice H2 d 0)
      ⟨none, none, none, rfl, hLs, fun j d _ hj => (hds d (List.mem_of_getElem? hj)).1⟩ (fun i σ H2 _ ⟨_, _, _, _, z, _⟩ => .inl (.inl z)) ?_ ?_
    · rintro i x σ H2 hx ⟨y1, y2, y3, rfl, hL2, hd2⟩
      rw [List.getElem?_map] at hx
      obtain ⟨d, hdi, rfl⟩ : ∃ d, ds[i]? = some d ∧ x = V.ref d := by
        cases e : ds[i]? with
        | none => rw [e] at hx; cases hx
        | some d => rw [e] at hx; exact ⟨d, rfl, (Option.some.inj hx).symm⟩
      have hdm := List.mem_of_getElem? hdi
      have neL : L ≠ d := dices_ne hLs hdm (hds d hdm).1
      have hD0 := hd2 i d (Nat.le_refl _) hdi
      refine ⟨_, rfl, d, 8, 0, rfl, hD0, by decide, by decide, by decide, fun r H3 r0 r1 hD3 k3 => ⟨rfl, _, rfl, ite2 (fun _ => ?_) (fun _ => ?_)⟩⟩
      all_goals first
        | (refine ⟨_, rfl, d, 1, rfl, hD3, by decide, fun t H4 u g ht k4 et G h9 hD4 => ⟨t, u, g, rfl, et, G, h9, fun H5 s5 => ⟨_, rfl, iteF ?_⟩⟩⟩
           have k5 : Kept H2 H5 d := k3.trans (k4.trans (Kept.of s5))
           have hD5 : Dice H5 d 100 := (Same.dice s5 hD4).more (by decide))
        | (obtain ⟨H5, eH5⟩ : ∃ H5, H3 = H5 := ⟨_, rfl⟩
           subst eH5
           have k5 : Kept H2 H3 d := k3
           have hD5 : Dice H3 d 100 := hD3.more (by decide))
      all_goals
        refine ⟨_, rfl, d, 8, 100, rfl, hD5, by decide, by decide, by decide, fun r' H6 r0' r1' hD6 k6 => ⟨rfl, _, rfl, ite2 (fun _ => ?_) (fun _ => ?_)⟩⟩
      all_goals first
        | (refine ⟨_, rfl, d, 2, 101, rfl, hD6, by decide, by decide, fun u7 H7 hul hlow hpw hD7 k7 => ⟨two, fun FT hFT => ?_⟩⟩
           have sF := same_upd (o := .tup [V.str (S u7), V.int 6]) hFT
           have nFd : FT ≠ d := hD7.ne hFT
           have eF := upd_same (H := H7) (a := FT) (o := .tup [V.str (S u7), V.int 6])
           revert sF eF
           generalize upd H7 FT (.tup [V.str (S u7), V.int 6]) = H8
           intro sF eF
           have G7 : Gd u7 6 := ⟨hlow, hpw, by omega, by omega, by decide, by decide⟩
           have h57 : u7.length ^ (2 * 6 - 2) ≤ 5000 := by rw [hul]; decide
           refine ⟨_, rfl, _, rfl, d, FT, u7, 6, 103, rfl, Same.dice sF hD7, by decide, nFd, eF, G7, by decide, fun v H9 vm k9 hD9 => ?_⟩
           obtain ⟨hvl, _⟩ := wl_mem.mp vm
           have eF9 := k9 _ _ nFd eF
           refine ⟨_, rfl, FT, u7, 6, rfl, eF9, G7, fun x H10 hx s10 ga => ⟨_, rfl, x, u7, 6, v, rfl, ga, G7, h57, vm, fun LN H11 hLN s11 eLN => ?_⟩⟩
           have s911 := s10.trans s11
           refine ⟨_, rfl, FT, u7, 6, rfl, s911 _ _ eF9, G7, by decide, h57, fun LO H12 hLO s12 eLO => ⟨LO, rfl, ⟨_, .inl (.inl eLO)⟩, fun DD hDD => ?_⟩⟩
           have hol : (own u7 6).length ≤ 5000 := Nat.le_trans (List.length_filter_le _ _) (by rw [wl_eq, words_len]; exact h57)
           refine lc_list (K := K) (a := LO) (xs := strsV (own u7 6)) (fun j H17 => Same H12 H17 ∧ H17 DD = some (.lst (strsV (((own u7 6).take j).filter (near 6 v))))) ⟨same_upd hDD, upd_same⟩ (fun j H17 _ z => .inl (.inl (z.1 _ _ eLO))) ?_ ?_
           · rintro j y H17 hj ⟨s17, eDD⟩
             obtain ⟨z, hz, rfl⟩ := strs_at hj
             have zm := (List.mem_filter.mp (List.mem_of_getElem? hz)).1
             obtain ⟨hzl, _⟩ := wl_mem.mp zm
             have lf := List.length_filter_le (near 6 v) ((own u7 6).take j)
             rw [List.length_take] at lf
             refine ⟨rfl, _, rfl, _, rfl, 6, v, z, rfl, by decide, by omega, by omega, by omega, fun H18 s18 => ⟨_, rfl, ?_⟩⟩
             cases hb : near 6 v z with
             | true =>
               refine iteT ⟨_, rfl, _, s18 _ _ eDD, by rw [strs_len]; omega, fun b o e => ?_, ?_⟩
               · rw [upd_ne (ne_of_none e hDD)]
                 exact s18 _ _ (s17 b o e)
               · rw [upd_same, filter_take hz, if_pos hb, strs_app]
                 rfl
             | false =>
               refine iteF ⟨s17.trans s18, ?_⟩
               rw [s18 _ _ eDD, filter_take hz, if_neg (by rw [hb]; exact Bool.false_ne_true), List.append_nil]
           rintro H17 ⟨s17, eDD⟩
           rw [strs_len, List.take_length] at eDD
           have lnf : ((own u7 6).filter (near 6 v)).length ≤ 100000 := Nat.le_trans (List.length_filter_le _ _) (by omega)
           refine ⟨_, _, rfl, Eqv.list (.inl (.inl ((s12.trans s17) _ _ eLN))) (.inl (.inl eDD)) (by rw [strs_len]; exact lnf) (strs_flat _), fun HN s19 => ⟨_, rfl, iteF ?_⟩⟩
           have sN : Same H9 HN := s911.trans (s12.trans (s17.trans s19))
           have kN : Kept H2 HN d := k5.trans (k6.trans (k7.trans ((Kept.of sF).trans (k9.trans (Kept.of sN)))))
           have hDN : Dice HN d 1000 := (Same.dice sN hD9).more (by decide))
        | (have kN : Kept H2 H6 d := k5.trans k6
           have hDN : Dice H6 d 1000 := hD6.more (by decide))
      all_goals
        refine ⟨_, rfl, d, 80, 1000, rfl, hDN, by decide, by decide, fun t H20 u g ht k20 et hlow2 hpw2 hgood hD20 => ?_⟩
        obtain ⟨G, h9⟩ := good_nine hlow2 hpw2 hgood
        refine ⟨t, u, g, rfl, et, G, h9, fun H21 s21 => ⟨_, rfl, iteF ⟨_, rfl, d, 1010, rfl, Same.dice s21 hD20, by decide, fun H22 hD22 k22 => ⟨_, rfl, iteF ⟨_, rfl, d, 1050, rfl, hD22, by decide, fun H23 hD23 k23 => ⟨_, rfl, iteF ⟨_, rfl, d, 1950, rfl, hD23, by decide, fun H24 hD24 k24 => ⟨_, rfl, iteF ?_⟩⟩⟩⟩⟩⟩⟩⟩
        exact ⟨_, _, _, rfl, dices_after hdi hnd neL hL2 hd2 (kN.trans (k20.trans ((Kept.of s21).trans (k22.trans (k23.trans k24)))))⟩
    · rintro σ H2 ⟨y1, y2, y3, rfl, hL2, hd2⟩
      have Ga2 : ∀ g, 2 ≤ g → g ≤ 1000 → Gd [97, 98] g := fun g h1 h2 => ⟨by unfold Low; decide, by decide, by decide, by decide, h1, h2⟩
      have Gb : Gd [97, 98, 99] 3 := ⟨by unfold Low; decide, by decide, by decide, by decide, by decide, by decide⟩
      have Gc : Gd (List.range' 97 9) 2 := ⟨by unfold Low; decide, by decide, by decide, by decide, by decide, by decide⟩
      refine ⟨two, fun t1 ht1 => ⟨t1, [97, 98], 2, rfl, by rw [upd_same, S_ab]; rfl, Ga2 2 (by decide) (by decide), fun x1 H3 hx1 s1 ga1 => ⟨x1, [97, 98], 2, rfl, ga1, Ga2 2 (by decide) (by decide), by decide, fun H4 s2 => ?_⟩⟩⟩
      refine ⟨two, fun t2 ht2 => ⟨t2, [97, 98, 99], 3, rfl, by rw [upd_same, S_abc]; rfl, Gb, fun x2 H5 hx2 s3 ga2 => ⟨x2, [97, 98, 99], 3, rfl, ga2, Gb, by decide, fun H6 s4 => ?_⟩⟩⟩
      refine ⟨two, fun t3 ht3 => ⟨t3, [97, 98], 4, rfl, by rw [upd_same, S_ab]; rfl, Ga2 4 (by decide) (by decide), fun x3 H7 hx3 s5 ga3 => ⟨x3, [97, 98], 4, rfl, ga3, Ga2 4 (by decide) (by decide), by decide, fun H8 s6 => ?_⟩⟩⟩
      refine ⟨two, fun t4 ht4 => ⟨t4, List.range' 97 9, 2, rfl, by rw [upd_same, S_i]; rfl, Gc, fun x4 H9 hx4 s7 ga4 => ⟨x4, List.range' 97 9, 2, rfl, ga4, Gc, by decide, fun H10 s8 => ?_⟩⟩⟩
      rw [m22, m33, m24, m92]
      refine ⟨by show 4 ≤ sizeLine; decide, fun A1 h1 => ?_⟩
      refine ⟨_, rfl, by show 4 ≤ sizeLine; decide, fun A2 h2 => ?_⟩
      have z2 := same_upd (o := .lst [V.int 2, V.int 72, V.int 54, V.int 72]) h2
      refine ⟨.ref A1, .ref A2, rfl, Eqv.list (.inl (.inl (z2 _ _ upd_same))) (.inl (.inl upd_same)) (by show 4 ≤ 100000; decide) (fun y hy => ?_), fun H11 s11 => q H11⟩
      rcases List.mem_cons.mp hy with rfl | hy
      · exact True.intro
      rcases List.mem_cons.mp hy with rfl | hy
      · exact True.intro
      rcases List.mem_cons.mp hy with rfl | hy
      · exact True.intro
      · rw [List.mem_singleton.mp hy]
        exact True.intro
end
end K4
set_option Elab.async false
set_option linter.all false
set_option maxRecDepth 100000
set_option maxHeartbeats 4000000
namespace K4
open PySem PySem.Spec PyProof.Rows L2 K4M
/-- a def as the top has left it -/
def df_mk {K : PySem.W.Frag} {h : Heap} {mg : Str → Option Value} (X : K.In h) (G : h.Ns mainGlobals mg) {x : Str} {st : Stmt} {ps : List Str} {f : Addr} {oc : Value} {od an : Option Addr} {sl : Array (Option Value)} {kV dc pm cd ct : Value}
    (a : PySem.W.nsIn K mainGlobals x = some (some (.ref f))) (l : K.lookup f = some ⟨oc, od, .func (PySem.W.fnOf x x (defArgs st) (defBody st) (defScope st) .none kV dc pm an cd ct), sl⟩) (c : PySem.W.codeIn K cd x = true) (k : PySem.W.keepIn K (.ref f) = true)
    (b : ∀ (kV doc pm : Value) (an : Option Addr) (cdv ct : Value) (us : List Value), us.length = ps.length → bindArgs (PySem.W.fnOf x x (defArgs st) (defBody st) (defScope st) .none kV doc pm an cdv ct) ⟨us, []⟩ = pure (ps.zip us)) : Df K mg x st ps :=
  ⟨f, _, fun_mk (st := st) l c k, (fun_mk (st := st) l c k).binds b, PySem.W.mg_of X G a, ⟨_, _, _, _, _, _, rfl⟩⟩
theorem kit_self {K : PySem.W.Frag} {C : Addr} : PySem.W.kitOne K (.ref C) (.ref C) = some true := by
  unfold PySem.W.kitOne
  rw [if_pos (show (Value.ref C == Value.ref C) = true by simp)]
theorem gr_mk {K : PySem.W.Frag} {h : Heap} {mg : Str → Option Value} {C : Addr} (X : K.In h) (G : h.Ns mainGlobals mg) (aC : PySem.W.nsIn K mainGlobals "Ground" = some (some (.ref C)))
    (pg : PySem.W.plainGet K C Str.empty = true) (hd : PySem.W.hasDictIn K C = true) (po : PySem.W.plainOver K C = true) (sa : PySem.W.findIn K (.ref C) "__setattr__" = some (some (.builtin "object.__setattr__")))
    (nS : PySem.W.findIn K (.ref C) "_signs" = some none) (nG : PySem.W.findIn K (.ref C) "_gap" = some none)
    (ha : PySem.W.findIn K (.ref C) "__class__" = some (some (.builtin "object.__class__"))) (hn : PySem.W.specialIn K (.builtin "object.__class__") "__get__" = some (some (.builtin "getset_descriptor.__get__")))
    (htk : PySem.W.takesIn K (.builtin "object.__class__") = some true) (hm : PySem.W.mroIn K C (.type "object") = some true) : Gr K mg C :=
  ⟨⟨pg, hd, po, sa⟩, nS, nG, PySem.W.mg_of X G aC, ha, hn, htk, hm, kit_self⟩
def dm_mk {K : PySem.W.Frag} {mg : Str → Option Value} {C : Addr} (_ : Gr K mg C) {m q : Str} {st : Stmt} {ps : List Str} {f : Addr} {oc : Value} {od an : Option Addr} {sl : Array (Option Value)} {kV dc pm cd ct : Value}
    (a : PySem.W.findIn K (.ref C) m = some (some (.ref f))) (i : PySem.W.isFn K (.ref f) = true) (l : K.lookup f = some ⟨oc, od, .func (PySem.W.fnOf m q (defArgs st) (defBody st) (defScope st) .none kV dc pm an cd ct), sl⟩) (c : PySem.W.codeIn K cd q = true) (k : PySem.W.keepIn K (.ref f) = true)
    (b : ∀ (kV doc pm : Value) (an : Option Addr) (cdv ct : Value) (us : List Value), us.length = ps.length → bindArgs (PySem.W.fnOf m q (defArgs st) (defBody st) (defScope st) .none kV doc pm an cdv ct) ⟨us, []⟩ = pure (ps.zip us)) : Dm K C m q st ps :=
  ⟨f, _, fun_mk (st := st) l c k, ⟨a, i, k⟩, (fun_mk (st := st) l c k).binds b⟩
def di_mk {K : PySem.W.Frag} {mg : Str → Option Value} {C : Addr} (_ : Gr K mg C) {q : Str} {st : Stmt} {ps : List Str} {f : Addr} {oc : Value} {od an : Option Addr} {sl : Array (Option Value)} {kV dc pm cd ct : Value}
    (mk : PySem.W.makesIn K C = true) (kc : PySem.W.keepIn K (.ref C) = true)
    (a : PySem.W.findIn K (.ref C) "__init__" = some (some (.ref f))) (i : PySem.W.isFn K (.ref f) = true) (l : K.lookup f = some ⟨oc, od, .func (PySem.W.fnOf "__init__" q (defArgs st) (defBody st) (defScope st) .none kV dc pm an cd ct), sl⟩) (c : PySem.W.codeIn K cd q = true) (k : PySem.W.keepIn K (.ref f) = true)
    (b : ∀ (kV doc pm : Value) (an : Option Addr) (cdv ct : Value) (us : List Value), us.length = ps.length → bindArgs (PySem.W.fnOf "__init__" q (defArgs st) (defBody st) (defScope st) .none kV doc pm an cdv ct) ⟨us, []⟩ = pure (ps.zip us)) : Di K C q st ps :=
  ⟨f, _, fun_mk (st := st) l c k, ⟨mk, a, i, kc⟩, (fun_mk (st := st) l c k).binds b⟩
theorem all_mk {l : PySem.W.OpenLaw} {w : World} {K : PySem.W.Frag} {h : Heap} {mg : Str → Option Value} {fa f1 : Addr} (X : K.In h) (G : h.Ns mainGlobals mg) (hfa : mg "law" = some (.ref fa))
    {od1 an1 : Option Addr} {sl1 : Array (Option Value)} {oc1 kV1 dc1 pm1 cd1 ct1 : Value}
    (a1 : PySem.W.nsIn K mainGlobals "law" = some (some (.ref f1))) (l1 : K.lookup f1 = some ⟨oc1, od1, .func (PySem.W.fnOf "law" "law" (defArgs st_law) (defBody st_law) (defScope st_law) .none kV1 dc1 pm1 an1 cd1 ct1), sl1⟩) (c1 : PySem.W.codeIn K cd1 "law" = true) (k1 : PySem.W.keepIn K (.ref f1) = true)
    (B : Bi mg) {t : Tok} (lt : PySem.W.nsIn K mainGlobals "LETTERS" = some (some (.str LET t)))
    {C : Addr} (T : Gr K mg C)
    (m___init__ : Di K C "Ground.__init__" st_Ground___init__ ["self", "signs", "gap"])
    (m_gap : Dm K C "gap" "Ground.gap" st_Ground_gap ["self"])
    (m_signs : Dm K C "signs" "Ground.signs" st_Ground_signs ["self"])
    (m_width : Dm K C "width" "Ground.width" st_Ground_width ["self"])
    (d__law_dice : Df K mg "_law_dice" st__law_dice ["script", "at"])
    (d__law_dices : Df K mg "_law_dices" st__law_dices ["script", "few"])
    (d__law_mixed : Df K mg "_law_mixed" st__law_mixed ["seed", "spin", "at"])
    (d__law_draw : Df K mg "_law_draw" st__law_draw ["dice", "many"])
    (d__law_one_of : Df K mg "_law_one_of" st__law_one_of ["dice", "some"])
    (d__law_letters : Df K mg "_law_letters" st__law_letters ["dice", "many"])
    (d__law_ground : Df K mg "_law_ground" st__law_ground ["dice", "most"])
    (d__law_many_ground : Df K mg "_law_many_ground" st__law_many_ground ["dice"])
    (d_is_made_of : Df K mg "is_made_of" st_is_made_of ["value", "signs"])
    (d__are_signs : Df K mg "_are_signs" st__are_signs ["value"])
    (d_is_whole_number : Df K mg "is_whole_number" st_is_whole_number ["value"])
    (d_is_count : Df K mg "is_count" st_is_count ["value"])
    (d__law_made : Df K mg "_law_made" st__law_made ["ground"])
    (d__law_words_of : Df K mg "_law_words_of" st__law_words_of ["signs", "size"])
    (d__law_repeats : Df K mg "_law_repeats" st__law_repeats ["word", "gap"])
    (d__law_own : Df K mg "_law_own" st__law_own ["ground"])
    (d_check_ground : Df K mg "check_ground" st_check_ground ["value"])
    (d_words_long : Df K mg "words_long" st_words_long ["ground", "length"])
    (d_windows : Df K mg "windows" st_windows ["ground"])
    (d_is_text_of : Df K mg "is_text_of" st_is_text_of ["ground", "value"])
    (d_is_window : Df K mg "is_window" st_is_window ["ground", "value"])
    (d_check_window : Df K mg "check_window" st_check_window ["ground", "value"])
    (d__is_had : Df K mg "_is_had" st__is_had ["text", "period"])
    (d_repeats_below : Df K mg "repeats_below" st_repeats_below ["text", "below"])
    (d_is_own : Df K mg "is_own" st_is_own ["ground", "window"])
    (d_own_windows : Df K mg "own_windows" st_own_windows ["ground"])
    (d_check_number : Df K mg "check_number" st_check_number ["value", "least"])
    (d_many_words : Df K mg "many_words" st_many_words ["signs", "length"])
    (d_many_primitives : Df K mg "many_primitives" st_many_primitives ["signs", "length"])
    (d_many_own : Df K mg "many_own" st_many_own ["ground"])
    (d__check_two : Df K mg "_check_two" st__check_two ["ground", "one", "other"])
    (d__distances_behind : Df K mg "_distances_behind" st__distances_behind ["gap", "one", "other"])
    (d_near_text : Df K mg "near_text" st_near_text ["ground", "one", "other"])
    (d_are_near : Df K mg "are_near" st_are_near ["ground", "one", "other"])
    (d_near_ones : Df K mg "near_ones" st_near_ones ["ground", "window"])
    (d__law_behind_at : Df K mg "_law_behind_at" st__law_behind_at ["one", "other", "gap"])
    (d__law_near : Df K mg "_law_near" st__law_near ["one", "other", "gap"])
    (d__law_ground_right : Df K mg "_law_ground_right" st__law_ground_right ["ground"])
    (d__law_great_window : Df K mg "_law_great_window" st__law_great_window ["dice", "ground"])
    (d__law_power : Df K mg "_law_power" st__law_power ["base", "many"])
    (d__law_primitives : Df K mg "_law_primitives" st__law_primitives ["signs", "most"])
    (d__law_great_right : Df K mg "_law_great_right" st__law_great_right ["dice"])
    (d__law_great_ground : Df K mg "_law_great_ground" st__law_great_ground ["dice", "most"])
    (d_next_ones : Df K mg "next_ones" st_next_ones ["ground", "window"])
    (d__law_far_right : Df K mg "_law_far_right" st__law_far_right ["dice"])
    (d__law_exact : Df K mg "_law_exact" st__law_exact ["mine", "theirs"])
    : ∃ fd : FuncData, (∀ (s : Shared) (v : Value), BindsTo s fd ⟨[v], []⟩ [("script", v)]) ∧ ∀ base : Heap, K.In base → base.Ns mainGlobals mg → FnOk l.prog w K mg base CX0 10 fa fd ["script"] (spLaw K) := by
  have e := hfa.symm.trans (PySem.W.mg_of X G a1)
  cases e
  have F1 := fun_mk (st := st_law) l1 c1 k1
  have b1 := F1.binds (ps := ["script"]) fun _ _ _ _ _ _ us hl => match us, hl with | [_], _ => rfl
  refine ⟨PySem.W.fnOf "law" "law" (defArgs st_law) (defBody st_law) (defScope st_law) .none kV1 dc1 pm1 an1 cd1 ct1, fun s v => .of_eq rfl, fun base _ _ => ?_⟩
  have c_exact2 := d__law_exact.cal (P := l.prog) (w := w) (base := base) (ok_exact B d__law_exact 2)
  have c__law_dice := d__law_dice.cal (P := l.prog) (w := w) (base := base) (ok_dice B d__law_dice)
  have c__law_dices := d__law_dices.cal (P := l.prog) (w := w) (base := base) (ok_dices B d__law_dices c__law_dice)
  have c__law_mixed := d__law_mixed.cal (P := l.prog) (w := w) (base := base) (ok_mixed B d__law_mixed)
  have c__law_draw := d__law_draw.cal (P := l.prog) (w := w) (base := base) (ok_draw B d__law_draw c__law_mixed)
  have c__law_one_of := d__law_one_of.cal (P := l.prog) (w := w) (base := base) (ok_one_of B d__law_one_of c__law_draw)
  have c__law_letters := d__law_letters.cal (P := l.prog) (w := w) (base := base) (ok_letters B d__law_letters c__law_draw)
  have c__law_ground := d__law_ground.cal (P := l.prog) (w := w) (base := base) (ok_ground B d__law_ground c__law_draw c__law_one_of c__law_letters)
  have c__law_many_ground := d__law_many_ground.cal (P := l.prog) (w := w) (base := base) (ok_mg7 d__law_many_ground c__law_draw c__law_letters)
  have c_is_made_of := d_is_made_of.cal (P := l.prog) (w := w) (base := base) (ok_made B d_is_made_of)
  have c__are_signs := d__are_signs.cal (P := l.prog) (w := w) (base := base) (ok_asg B (PySem.W.mg_of X G lt) d__are_signs c_is_made_of)
  have c_is_whole_number := d_is_whole_number.cal (P := l.prog) (w := w) (base := base) (ok_whole B d_is_whole_number)
  have c_is_count := d_is_count.cal (P := l.prog) (w := w) (base := base) (ok_count B d_is_count c_is_whole_number)
  have c_m___init__ := m___init__.ma (P := l.prog) (w := w) (mg := mg) (base := base) (ok_init T m___init__ c__are_signs c_is_count)
  have c__law_made := d__law_made.cal (P := l.prog) (w := w) (base := base) (ok_md T d__law_made c_m___init__)
  have c__law_words_of := d__law_words_of.cal (P := l.prog) (w := w) (base := base) (ok_words B d__law_words_of)
  have c__law_repeats := d__law_repeats.cal (P := l.prog) (w := w) (base := base) (ok_rep B d__law_repeats)
  have c__law_own := d__law_own.cal (P := l.prog) (w := w) (base := base) (ok_lo d__law_own c__law_words_of c__law_repeats)
  have c_check_ground := d_check_ground.cal (P := l.prog) (w := w) (base := base) (ok_cg B T d_check_ground)
  have c_m_signs := m_signs.mt (P := l.prog) (w := w) (mg := mg) (base := base) (ok_gs T m_signs)
  have c_words_long := d_words_long.cal (P := l.prog) (w := w) (base := base) (ok_wlg B T d_words_long c_m_signs)
  have c_m_width := m_width.mt (P := l.prog) (w := w) (mg := mg) (base := base) (ok_gw T m_width)
  have c_windows := d_windows.cal (P := l.prog) (w := w) (base := base) (ok_win T d_windows c_check_ground c_words_long c_m_width)
  have c_is_text_of := d_is_text_of.cal (P := l.prog) (w := w) (base := base) (ok_tof T d_is_text_of c_is_made_of c_m_signs)
  have c_is_window := d_is_window.cal (P := l.prog) (w := w) (base := base) (ok_isw B T d_is_window c_is_text_of c_m_width)
  have c_check_window := d_check_window.cal (P := l.prog) (w := w) (base := base) (ok_cw d_check_window c_is_window)
  have c__is_had := d__is_had.cal (P := l.prog) (w := w) (base := base) (ok_had d__is_had)
  have c_repeats_below := d_repeats_below.cal (P := l.prog) (w := w) (base := base) (ok_rb B d_repeats_below c__is_had)
  have c_m_gap := m_gap.mt (P := l.prog) (w := w) (mg := mg) (base := base) (ok_gg T m_gap)
  have c_is_own := d_is_own.cal (P := l.prog) (w := w) (base := base) (ok_own T d_is_own c_check_ground c_check_window c_repeats_below c_m_gap)
  have c_own_windows := d_own_windows.cal (P := l.prog) (w := w) (base := base) (ok_ow d_own_windows c_windows c_is_own)
  have c_check_number := d_check_number.cal (P := l.prog) (w := w) (base := base) (ok_cnum d_check_number c_is_count)
  have c_many_words := d_many_words.cal (P := l.prog) (w := w) (base := base) (ok_mwords B d_many_words)
  have c_many_primitives := d_many_primitives.cal (P := l.prog) (w := w) (base := base) (ok_prims B d_many_primitives c_check_number c_many_words)
  have c_many_own := d_many_own.cal (P := l.prog) (w := w) (base := base) (ok_mo B T d_many_own c_check_ground c_many_primitives c_many_words c_m_signs c_m_gap c_m_width)
  have c__check_two := d__check_two.cal (P := l.prog) (w := w) (base := base) (ok_c2 d__check_two c_check_ground c_check_window)
  have c__distances_behind := d__distances_behind.cal (P := l.prog) (w := w) (base := base) (ok_db B d__distances_behind)
  have c_near_text := d_near_text.cal (P := l.prog) (w := w) (base := base) (ok_nt T d_near_text c__check_two c__distances_behind c_m_gap)
  have c_are_near := d_are_near.cal (P := l.prog) (w := w) (base := base) (ok_an d_are_near c_near_text)
  have c_near_ones := d_near_ones.cal (P := l.prog) (w := w) (base := base) (ok_no d_near_ones c_check_ground c_check_window c_own_windows c_are_near)
  have c__law_behind_at := d__law_behind_at.cal (P := l.prog) (w := w) (base := base) (ok_lb B d__law_behind_at)
  have c__law_near := d__law_near.cal (P := l.prog) (w := w) (base := base) (ok_ln d__law_near c__law_behind_at)
  have c__law_ground_right := d__law_ground_right.cal (P := l.prog) (w := w) (base := base) (ok_gr7 B d__law_ground_right c__law_made c__law_words_of c__law_own c_exact2 c_own_windows c_many_own c_is_own c_windows c_near_ones c__law_near)
  have c__law_great_window := d__law_great_window.cal (P := l.prog) (w := w) (base := base) (ok_gw2 B d__law_great_window c__law_draw c__law_one_of)
  have c__law_power := d__law_power.cal (P := l.prog) (w := w) (base := base) (ok_power B d__law_power)
  have c__law_primitives := d__law_primitives.cal (P := l.prog) (w := w) (base := base) (ok_lpm B d__law_primitives c__law_power)
  have c__law_great_right := d__law_great_right.cal (P := l.prog) (w := w) (base := base) (ok_grt B d__law_great_right c__law_draw c__law_letters c__law_power c__law_primitives c__law_made c_many_own c_exact2)
  have c__law_great_ground := d__law_great_ground.cal (P := l.prog) (w := w) (base := base) (ok_gg2 d__law_great_ground c__law_draw c__law_letters)
  have c_next_ones := d_next_ones.cal (P := l.prog) (w := w) (base := base) (ok_nx T d_next_ones c_check_ground c_check_window c_m_signs)
  have c__law_far_right := d__law_far_right.cal (P := l.prog) (w := w) (base := base) (ok_fr B d__law_far_right c__law_great_ground c__law_made c__law_great_window c_exact2 c_is_own c__law_repeats c_next_ones)
  exact ok_law B ⟨_, _, F1, b1, PySem.W.mg_of X G a1, ⟨_, _, _, _, _, _, rfl⟩⟩ c__law_dices c__law_draw c__law_ground c__law_many_ground c__law_ground_right c__law_letters c__law_great_window c_exact2 c_near_ones c__law_made c__law_own c__law_near c__law_great_right c__law_far_right c_many_own
end K4
open PySem PySem.W PyProof.Rows
set_option maxRecDepth 100000 in
set_option maxHeartbeats 0 in
theorem PySem.Challenge.cw_owncuts_k07_whole_windows_and_own_ones_holds : PySem.Challenge.rw_owncuts_k07_whole_windows_and_own_ones.Holds := by
  w_on; o_law; k_head; (case hw => w_witness2)
  k_fill
  refine L2.walk_of (l := PySem.Challenge.rw_owncuts_k07_whole_windows_and_own_ones) (n := 63) (k := 10) (x := "script") (CX := fun _ => L2.CX0) (sp := fun w => K4.spLaw _) rfl (by decide) rfl ⟨rfl, by decide, by decide⟩ (fun w h Y => PySem.W.kIn_of Y) ?F (fun _ _ a ns hl _ hS => ⟨a, ns, rfl, hS, hl, fun _ => rfl⟩) (fun _ _ _ _ _ h => h)
  case F =>
    intro w mg fa h KX G hmg
    have z_len : mg "len" = none := PySem.W.mg_none_of KX G (by k_is)
    have z_range : mg "range" = none := PySem.W.mg_none_of KX G (by k_is)
    have z_sum : mg "sum" = none := PySem.W.mg_none_of KX G (by k_is)
    have z_max : mg "max" = none := PySem.W.mg_none_of KX G (by k_is)
    have z_min : mg "min" = none := PySem.W.mg_none_of KX G (by k_is)
    have z_int : mg "int" = none := PySem.W.mg_none_of KX G (by k_is)
    have z_isinstance : mg "isinstance" = none := PySem.W.mg_none_of KX G (by k_is)
    have z_list : mg "list" = none := PySem.W.mg_none_of KX G (by k_is)
    have z_any : mg "any" = none := PySem.W.mg_none_of KX G (by k_is)
    have z_all : mg "all" = none := PySem.W.mg_none_of KX G (by k_is)
    have z_zip : mg "zip" = none := PySem.W.mg_none_of KX G (by k_is)
    have z_bool : mg "bool" = none := PySem.W.mg_none_of KX G (by k_is)
    have z_str : mg "str" = none := PySem.W.mg_none_of KX G (by k_is)
    have z_tuple : mg "tuple" = none := PySem.W.mg_none_of KX G (by k_is)
    have z_dict : mg "dict" = none := PySem.W.mg_none_of KX G (by k_is)
    have z_sorted : mg "sorted" = none := PySem.W.mg_none_of KX G (by k_is)
    have z_set : mg "set" = none := PySem.W.mg_none_of KX G (by k_is)
    have z_repr : mg "repr" = none := PySem.W.mg_none_of KX G (by k_is)
    have z_abs : mg "abs" = none := PySem.W.mg_none_of KX G (by k_is)
    have z_enumerate : mg "enumerate" = none := PySem.W.mg_none_of KX G (by k_is)
    have d__law_dice := K4.df_mk (x := "_law_dice") (st := K4.st__law_dice) (ps := ["script", "at"]) KX G (by k_is) (by k_is) (by k_is) (by k_is) (fun _ _ _ _ _ _ us hl => match us, hl with | [_, _], _ => rfl)
    have d__law_dices := K4.df_mk (x := "_law_dices") (st := K4.st__law_dices) (ps := ["script", "few"]) KX G (by k_is) (by k_is) (by k_is) (by k_is) (fun _ _ _ _ _ _ us hl => match us, hl with | [_, _], _ => rfl)
    have d__law_mixed := K4.df_mk (x := "_law_mixed") (st := K4.st__law_mixed) (ps := ["seed", "spin", "at"]) KX G (by k_is) (by k_is) (by k_is) (by k_is) (fun _ _ _ _ _ _ us hl => match us, hl with | [_, _, _], _ => rfl)
    have d__law_draw := K4.df_mk (x := "_law_draw") (st := K4.st__law_draw) (ps := ["dice", "many"]) KX G (by k_is) (by k_is) (by k_is) (by k_is) (fun _ _ _ _ _ _ us hl => match us, hl with | [_, _], _ => rfl)
    have d__law_one_of := K4.df_mk (x := "_law_one_of") (st := K4.st__law_one_of) (ps := ["dice", "some"]) KX G (by k_is) (by k_is) (by k_is) (by k_is) (fun _ _ _ _ _ _ us hl => match us, hl with | [_, _], _ => rfl)
    have d__law_letters := K4.df_mk (x := "_law_letters") (st := K4.st__law_letters) (ps := ["dice", "many"]) KX G (by k_is) (by k_is) (by k_is) (by k_is) (fun _ _ _ _ _ _ us hl => match us, hl with | [_, _], _ => rfl)
    have d__law_ground := K4.df_mk (x := "_law_ground") (st := K4.st__law_ground) (ps := ["dice", "most"]) KX G (by k_is) (by k_is) (by k_is) (by k_is) (fun _ _ _ _ _ _ us hl => match us, hl with | [_, _], _ => rfl)
    have d__law_many_ground := K4.df_mk (x := "_law_many_ground") (st := K4.st__law_many_ground) (ps := ["dice"]) KX G (by k_is) (by k_is) (by k_is) (by k_is) (fun _ _ _ _ _ _ us hl => match us, hl with | [_], _ => rfl)
    have d_is_made_of := K4.df_mk (x := "is_made_of") (st := K4.st_is_made_of) (ps := ["value", "signs"]) KX G (by k_is) (by k_is) (by k_is) (by k_is) (fun _ _ _ _ _ _ us hl => match us, hl with | [_, _], _ => rfl)
    have d__are_signs := K4.df_mk (x := "_are_signs") (st := K4.st__are_signs) (ps := ["value"]) KX G (by k_is) (by k_is) (by k_is) (by k_is) (fun _ _ _ _ _ _ us hl => match us, hl with | [_], _ => rfl)
    have d_is_whole_number := K4.df_mk (x := "is_whole_number") (st := K4.st_is_whole_number) (ps := ["value"]) KX G (by k_is) (by k_is) (by k_is) (by k_is) (fun _ _ _ _ _ _ us hl => match us, hl with | [_], _ => rfl)
    have d_is_count := K4.df_mk (x := "is_count") (st := K4.st_is_count) (ps := ["value"]) KX G (by k_is) (by k_is) (by k_is) (by k_is) (fun _ _ _ _ _ _ us hl => match us, hl with | [_], _ => rfl)
    have d__law_made := K4.df_mk (x := "_law_made") (st := K4.st__law_made) (ps := ["ground"]) KX G (by k_is) (by k_is) (by k_is) (by k_is) (fun _ _ _ _ _ _ us hl => match us, hl with | [_], _ => rfl)
    have d__law_words_of := K4.df_mk (x := "_law_words_of") (st := K4.st__law_words_of) (ps := ["signs", "size"]) KX G (by k_is) (by k_is) (by k_is) (by k_is) (fun _ _ _ _ _ _ us hl => match us, hl with | [_, _], _ => rfl)
    have d__law_repeats := K4.df_mk (x := "_law_repeats") (st := K4.st__law_repeats) (ps := ["word", "gap"]) KX G (by k_is) (by k_is) (by k_is) (by k_is) (fun _ _ _ _ _ _ us hl => match us, hl with | [_, _], _ => rfl)
    have d__law_own := K4.df_mk (x := "_law_own") (st := K4.st__law_own) (ps := ["ground"]) KX G (by k_is) (by k_is) (by k_is) (by k_is) (fun _ _ _ _ _ _ us hl => match us, hl with | [_], _ => rfl)
    have d_check_ground := K4.df_mk (x := "check_ground") (st := K4.st_check_ground) (ps := ["value"]) KX G (by k_is) (by k_is) (by k_is) (by k_is) (fun _ _ _ _ _ _ us hl => match us, hl with | [_], _ => rfl)
    have d_words_long := K4.df_mk (x := "words_long") (st := K4.st_words_long) (ps := ["ground", "length"]) KX G (by k_is) (by k_is) (by k_is) (by k_is) (fun _ _ _ _ _ _ us hl => match us, hl with | [_, _], _ => rfl)
    have d_windows := K4.df_mk (x := "windows") (st := K4.st_windows) (ps := ["ground"]) KX G (by k_is) (by k_is) (by k_is) (by k_is) (fun _ _ _ _ _ _ us hl => match us, hl with | [_], _ => rfl)
    have d_is_text_of := K4.df_mk (x := "is_text_of") (st := K4.st_is_text_of) (ps := ["ground", "value"]) KX G (by k_is) (by k_is) (by k_is) (by k_is) (fun _ _ _ _ _ _ us hl => match us, hl with | [_, _], _ => rfl)
    have d_is_window := K4.df_mk (x := "is_window") (st := K4.st_is_window) (ps := ["ground", "value"]) KX G (by k_is) (by k_is) (by k_is) (by k_is) (fun _ _ _ _ _ _ us hl => match us, hl with | [_, _], _ => rfl)
    have d_check_window := K4.df_mk (x := "check_window") (st := K4.st_check_window) (ps := ["ground", "value"]) KX G (by k_is) (by k_is) (by k_is) (by k_is) (fun _ _ _ _ _ _ us hl => match us, hl with | [_, _], _ => rfl)
    have d__is_had := K4.df_mk (x := "_is_had") (st := K4.st__is_had) (ps := ["text", "period"]) KX G (by k_is) (by k_is) (by k_is) (by k_is) (fun _ _ _ _ _ _ us hl => match us, hl with | [_, _], _ => rfl)
    have d_repeats_below := K4.df_mk (x := "repeats_below") (st := K4.st_repeats_below) (ps := ["text", "below"]) KX G (by k_is) (by k_is) (by k_is) (by k_is) (fun _ _ _ _ _ _ us hl => match us, hl with | [_, _], _ => rfl)
    have d_is_own := K4.df_mk (x := "is_own") (st := K4.st_is_own) (ps := ["ground", "window"]) KX G (by k_is) (by k_is) (by k_is) (by k_is) (fun _ _ _ _ _ _ us hl => match us, hl with | [_, _], _ => rfl)
    have d_own_windows := K4.df_mk (x := "own_windows") (st := K4.st_own_windows) (ps := ["ground"]) KX G (by k_is) (by k_is) (by k_is) (by k_is) (fun _ _ _ _ _ _ us hl => match us, hl with | [_], _ => rfl)
    have d_check_number := K4.df_mk (x := "check_number") (st := K4.st_check_number) (ps := ["value", "least"]) KX G (by k_is) (by k_is) (by k_is) (by k_is) (fun _ _ _ _ _ _ us hl => match us, hl with | [_, _], _ => rfl)
    have d_many_words := K4.df_mk (x := "many_words") (st := K4.st_many_words) (ps := ["signs", "length"]) KX G (by k_is) (by k_is) (by k_is) (by k_is) (fun _ _ _ _ _ _ us hl => match us, hl with | [_, _], _ => rfl)
    have d_many_primitives := K4.df_mk (x := "many_primitives") (st := K4.st_many_primitives) (ps := ["signs", "length"]) KX G (by k_is) (by k_is) (by k_is) (by k_is) (fun _ _ _ _ _ _ us hl => match us, hl with | [_, _], _ => rfl)
    have d_many_own := K4.df_mk (x := "many_own") (st := K4.st_many_own) (ps := ["ground"]) KX G (by k_is) (by k_is) (by k_is) (by k_is) (fun _ _ _ _ _ _ us hl => match us, hl with | [_], _ => rfl)
    have d__check_two := K4.df_mk (x := "_check_two") (st := K4.st__check_two) (ps := ["ground", "one", "other"]) KX G (by k_is) (by k_is) (by k_is) (by k_is) (fun _ _ _ _ _ _ us hl => match us, hl with | [_, _, _], _ => rfl)
    have d__distances_behind := K4.df_mk (x := "_distances_behind") (st := K4.st__distances_behind) (ps := ["gap", "one", "other"]) KX G (by k_is) (by k_is) (by k_is) (by k_is) (fun _ _ _ _ _ _ us hl => match us, hl with | [_, _, _], _ => rfl)
    have d_near_text := K4.df_mk (x := "near_text") (st := K4.st_near_text) (ps := ["ground", "one", "other"]) KX G (by k_is) (by k_is) (by k_is) (by k_is) (fun _ _ _ _ _ _ us hl => match us, hl with | [_, _, _], _ => rfl)
    have d_are_near := K4.df_mk (x := "are_near") (st := K4.st_are_near) (ps := ["ground", "one", "other"]) KX G (by k_is) (by k_is) (by k_is) (by k_is) (fun _ _ _ _ _ _ us hl => match us, hl with | [_, _, _], _ => rfl)
    have d_near_ones := K4.df_mk (x := "near_ones") (st := K4.st_near_ones) (ps := ["ground", "window"]) KX G (by k_is) (by k_is) (by k_is) (by k_is) (fun _ _ _ _ _ _ us hl => match us, hl with | [_, _], _ => rfl)
    have d__law_behind_at := K4.df_mk (x := "_law_behind_at") (st := K4.st__law_behind_at) (ps := ["one", "other", "gap"]) KX G (by k_is) (by k_is) (by k_is) (by k_is) (fun _ _ _ _ _ _ us hl => match us, hl with | [_, _, _], _ => rfl)
    have d__law_near := K4.df_mk (x := "_law_near") (st := K4.st__law_near) (ps := ["one", "other", "gap"]) KX G (by k_is) (by k_is) (by k_is) (by k_is) (fun _ _ _ _ _ _ us hl => match us, hl with | [_, _, _], _ => rfl)
    have d__law_ground_right := K4.df_mk (x := "_law_ground_right") (st := K4.st__law_ground_right) (ps := ["ground"]) KX G (by k_is) (by k_is) (by k_is) (by k_is) (fun _ _ _ _ _ _ us hl => match us, hl with | [_], _ => rfl)
    have d__law_great_window := K4.df_mk (x := "_law_great_window") (st := K4.st__law_great_window) (ps := ["dice", "ground"]) KX G (by k_is) (by k_is) (by k_is) (by k_is) (fun _ _ _ _ _ _ us hl => match us, hl with | [_, _], _ => rfl)
    have d__law_power := K4.df_mk (x := "_law_power") (st := K4.st__law_power) (ps := ["base", "many"]) KX G (by k_is) (by k_is) (by k_is) (by k_is) (fun _ _ _ _ _ _ us hl => match us, hl with | [_, _], _ => rfl)
    have d__law_primitives := K4.df_mk (x := "_law_primitives") (st := K4.st__law_primitives) (ps := ["signs", "most"]) KX G (by k_is) (by k_is) (by k_is) (by k_is) (fun _ _ _ _ _ _ us hl => match us, hl with | [_, _], _ => rfl)
    have d__law_great_right := K4.df_mk (x := "_law_great_right") (st := K4.st__law_great_right) (ps := ["dice"]) KX G (by k_is) (by k_is) (by k_is) (by k_is) (fun _ _ _ _ _ _ us hl => match us, hl with | [_], _ => rfl)
    have d__law_great_ground := K4.df_mk (x := "_law_great_ground") (st := K4.st__law_great_ground) (ps := ["dice", "most"]) KX G (by k_is) (by k_is) (by k_is) (by k_is) (fun _ _ _ _ _ _ us hl => match us, hl with | [_, _], _ => rfl)
    have d_next_ones := K4.df_mk (x := "next_ones") (st := K4.st_next_ones) (ps := ["ground", "window"]) KX G (by k_is) (by k_is) (by k_is) (by k_is) (fun _ _ _ _ _ _ us hl => match us, hl with | [_, _], _ => rfl)
    have d__law_far_right := K4.df_mk (x := "_law_far_right") (st := K4.st__law_far_right) (ps := ["dice"]) KX G (by k_is) (by k_is) (by k_is) (by k_is) (fun _ _ _ _ _ _ us hl => match us, hl with | [_], _ => rfl)
    have d__law_exact := K4.df_mk (x := "_law_exact") (st := K4.st__law_exact) (ps := ["mine", "theirs"]) KX G (by k_is) (by k_is) (by k_is) (by k_is) (fun _ _ _ _ _ _ us hl => match us, hl with | [_, _], _ => rfl)
    have T := K4.gr_mk KX G (by k_is) (by k_is) (by k_is) (by k_is) (by k_is) (by k_is) (by k_is) (by k_is) (by k_is) (by k_is) (by k_is)
    have m___init__ := K4.di_mk T (q := "Ground.__init__") (st := K4.st_Ground___init__) (ps := ["self", "signs", "gap"]) (by k_is) (by k_is) (by k_is) (by k_is) (by k_is) (by k_is) (by k_is) (fun _ _ _ _ _ _ us hl => match us, hl with | [_, _, _], _ => rfl)
    have m_gap := K4.dm_mk T (m := "gap") (q := "Ground.gap") (st := K4.st_Ground_gap) (ps := ["self"]) (by k_is) (by k_is) (by k_is) (by k_is) (by k_is) (fun _ _ _ _ _ _ us hl => match us, hl with | [_], _ => rfl)
    have m_signs := K4.dm_mk T (m := "signs") (q := "Ground.signs") (st := K4.st_Ground_signs) (ps := ["self"]) (by k_is) (by k_is) (by k_is) (by k_is) (by k_is) (fun _ _ _ _ _ _ us hl => match us, hl with | [_], _ => rfl)
    have m_width := K4.dm_mk T (m := "width") (q := "Ground.width") (st := K4.st_Ground_width) (ps := ["self"]) (by k_is) (by k_is) (by k_is) (by k_is) (by k_is) (fun _ _ _ _ _ _ us hl => match us, hl with | [_], _ => rfl)
    refine' K4.all_mk KX G hmg ?a1 ?l1 ?c1 ?k1 ⟨z_len, z_range, z_sum, z_max, z_min, z_int, z_isinstance, z_list, z_any, z_all, z_zip, z_bool, z_str, z_tuple, z_dict, z_sorted, z_set, z_repr, z_abs, z_enumerate⟩ ?lt T m___init__ m_gap m_signs m_width d__law_dice d__law_dices d__law_mixed d__law_draw d__law_one_of d__law_letters d__law_ground d__law_many_ground d_is_made_of d__are_signs d_is_whole_number d_is_count d__law_made d__law_words_of d__law_repeats d__law_own d_check_ground d_words_long d_windows d_is_text_of d_is_window d_check_window d__is_had d_repeats_below d_is_own d_own_windows d_check_number d_many_words d_many_primitives d_many_own d__check_two d__distances_behind d_near_text d_are_near d_near_ones d__law_behind_at d__law_near d__law_ground_right d__law_great_window d__law_power d__law_primitives d__law_great_right d__law_great_ground d_next_ones d__law_far_right d__law_exact
    (case a1 => k_is); (case l1 => k_is); (case c1 => k_is); (case k1 => k_is); (case lt => k_is)
