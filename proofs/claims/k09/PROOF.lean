import PyProof.Rows.All
import Wide.All
import OpenK.AllK
import Wide.FinOn
import HandS.ForMost
import HandS.Wide
import HandS.WideBits
import HandS.IsInst
import HandS.StrMore
import HandS.Zip
import HandS.Flow
import HandS.Conv
import HandS.Style
import HandS.Set
import HandS.Walk
import HandS.SetFor
import KE.DataMinMax
import PyProof.DictUpdate
import PySem.Challenge.RW_owncuts_k09_whole_lone_rings
set_option Elab.async false
set_option linter.all false
set_option maxRecDepth 100000
set_option maxHeartbeats 8000000
/-! sets of texts of one sign: made of a text, sorted -/
namespace K4S
open PySem PySem.Spec PyProof.Rows L2
/-- the set at a holds, in the order of its table, what is told by the values vs in some order; vs stand for unlike texts -/
def Holds (P : Program) (w : World) (h : Heap) (a : Addr) (vs : List Value) : Prop :=
  ∃ (o : Obj) (es : Array (Int × Value)) (ep : Nat) (t : SetTable), h.get? a = some o ∧ o.ExactSet ∧ o.data = .set es ep t ∧ ElemsOf (strKind P w) es.toList ∧ (es.toList.map (·.2)).Perm vs ∧
    es.size < scanBound ∧ t.fits es.size = true ∧ Ris t.place.toList ∧ (w.params.followText "set-order" = true ∨ t.led = true)
section
variable {P : Program} {w : World} {h h' : Heap} {a : Addr} {vs : List Value}
theorem Holds.keep (R : Holds P w h a vs) (k : ∀ o, h.get? a = some o → h'.get? a = some o) : Holds P w h' a vs := by
  obtain ⟨o, es, ep, t, ho, rest⟩ := R
  exact ⟨o, es, ep, t, k o ho, rest⟩
theorem Holds.count (R : Holds P w h a vs) : vs.length < scanBound := by
  obtain ⟨o, es, ep, t, _, _, _, _, pm, hb, _⟩ := R
  have := pm.length_eq
  rw [List.length_map, Array.length_toList] at this
  omega
theorem Holds.empty (w : World) (ho : h.get? a = some { cls := .type "set", dict := none, data := .set #[] 0 (.fresh 0 0 (!w.params.followText "set-order")) }) : Holds P w h a [] := by
  refine ⟨_, #[], 0, _, ho, ⟨rfl, rfl, rfl⟩, rfl, ?_, ?_, by decide, by rfl, List.Pairwise.nil, ?_⟩
  · intro e he
    simp at he
  · exact List.Perm.nil
  · show _ ∨ (!w.params.followText "set-order") = true
    cases w.params.followText "set-order" with
    | true => exact .inl rfl
    | false => exact .inr rfl
end
section
variable {P : Program} {w : World} {A : Around} {E : Value → Shared → Prop} {s : Shared} {a : Addr} {vs : List Value}
/-- the new entry is stored; where the table is full by then, all are laid anew -/
theorem stored {give : Bool → Sem Unit} (hg : ∀ (b : Bool) (s1 : Shared) (Q1 : Unit → Shared → Prop), Q1 () s1 → wpAny (model P w) A (give b) Q1 E s1)
    {o : Obj} {es es1 : Array (Int × Value)} {ep : Nat} {t t1 : SetTable} (ho : s.heap.get? a = some o) (hx : o.ExactSet) (hd : o.data = .set es ep t) (hel : ElemsOf (strKind P w) es1.toList) (pm : (es1.toList.map (·.2)).Perm vs)
    (hb : es1.size < scanBound) (hf : t1.fits es1.size = true) (hr : Ris t1.place.toList) (hl : w.params.followText "set-order" = true ∨ t1.led = true) {dm : Bool} {R : Option Bool → Shared → Prop}
    (hR : ∀ h2, Heap.SameBut a s.heap h2 → Holds P w h2 a vs → R (some true) { s with heap := h2 }) :
    wpAny (model P w) A (do
        storeSet a es1 t1
        if (!dm && t1.tooFull) = true then do
            give (relayAll t1 es1 (SetTable.grown es1.size)).2.2
            storeSet a (relayAll t1 es1 (SetTable.grown es1.size)).1 (relayAll t1 es1 (SetTable.grown es1.size)).2.1
            pure (some true)
          else pure (some true)) R E s := by
  have first := store_at (es' := es1) (t' := t1) ho hd
  have same1 := Heap.SameBut.update s.heap a (Obj.putSet es1 t1)
  refine wpAny_bind (wpAny_storeSet_of ho hd ?_ (fits_of_scanBound hb))
  split
  case isFalse => exact wpAny_pure (hR _ same1 ⟨_, es1, _, t1, first, hx, rfl, hel, pm, hb, hf, hr, hl⟩)
  case isTrue =>
    have q1 := relayAll_perm t1 es1 (SetTable.grown es1.size)
    have q2 := relayAll_fits t1 es1 (SetTable.grown es1.size)
    have q3 := relayAll_ris t1 es1 (SetTable.grown es1.size)
    have q4 := relayAll_led t1 es1 (SetTable.grown es1.size)
    generalize relayAll t1 es1 (SetTable.grown es1.size) = all at q1 q2 q3 q4 ⊢
    obtain ⟨es2, t2, gave⟩ := all
    dsimp only at q1 q2 q3 q4 ⊢
    have size2 : es2.size = es1.size := by
      have := q1.length_eq
      rw [Array.length_toList, Array.length_toList] at this
      exact this
    refine wpAny_bind (hg _ _ _ ?_)
    refine wpAny_bind (wpAny_storeSet_of first rfl ?_ (fits_of_scanBound (by rw [size2]; exact hb)))
    have second := store_at (es' := es2) (t' := t2) first rfl
    refine wpAny_pure (hR _ (same1.trans (Heap.SameBut.update _ a _)) ⟨_, es2, _, t2, second, hx, rfl, fun e he => hel e (q1.mem_iff.mp he), (q1.map _).trans pm, by rw [size2]; exact hb, q2, q3, ?_⟩)
    rcases hl with hl | hl
    · exact .inl hl
    · exact .inr (by rw [q4]; exact hl)
/-- a text that is not there is added -/
theorem added {x : Str} {tk : Tok} {Q : Bool → Shared → Prop} (R : Holds P w s.heap a vs) (new : ∀ v ∈ vs, (strKind P w).is x v = false) (room : vs.length + 1 < scanBound)
    (hQ : ∀ h2, Heap.SameBut a s.heap h2 → Holds P w h2 a (.str x tk :: vs) → Q true { s with heap := h2 }) :
    wpAny (model P w) A (setAddHashed a (.str x tk) ((strKind P w).hash x)) Q E s := by
  obtain ⟨o, es, ep, t, ho, hx, hd, hel, pm, hb, hf, hr, hl⟩ := R
  have isx : (strKind P w).is x (.str x tk) = true := strKind_is P w x tk
  have scan : (Value.str x tk).scannable = true := rfl
  have size1 : es.size = vs.length := by
    have := pm.length_eq
    rw [List.length_map, Array.length_toList] at this
    exact this
  have miss : List.findIdx? (fun e => (strKind P w).is x e.2) es.toList = none := by
    rw [List.findIdx?_eq_none_iff]
    intro e he
    exact new e.2 (pm.mem_iff.mp (List.mem_map.mpr ⟨e, he, rfl⟩))
  unfold setAddHashed setAddHashedIn
  refine wpAny_holding (wpAny_bind (wpAny_setState_of ho hd hf ?_))
  dsimp only
  rw [byScan_of scan hb hel]
  simp only [↓reduceIte]
  unfold setAddByScan
  refine wpAny_bind (wpAny_bind (wpAny_rule ?_))
  refine wpAny_bind (wpAny_setScan_of isx ho hd hf hel ?_)
  rw [miss]
  dsimp only
  have gaveWay : ∀ (b : Bool) {s1 : Shared} {Q1 : Unit → Shared → Prop}, Q1 () s1 → wpAny (model P w) A (match b with | true => rule "set.scan.the-table-gave-way" | false => pure ()) Q1 E s1 := fun b s1 Q1 q => by
    cases b
    · exact wpAny_pure q
    · exact wpAny_rule q
  have l1 := layNew_perm t es ((strKind P w).hash x) (.str x tk)
  have l2 := layNew_fits t es ((strKind P w).hash x) (.str x tk)
  have l3 := layNew_ris t es ((strKind P w).hash x) (.str x tk) hr
  have l4 := layNew_led t es ((strKind P w).hash x) (.str x tk)
  generalize layNew t es ((strKind P w).hash x) (.str x tk) = laid at l1 l2 l3 l4 ⊢
  obtain ⟨es1, t1, dm, gave⟩ := laid
  dsimp only at l1 l2 l3 l4 ⊢
  rw [Array.toList_push] at l1
  have p1 : es1.toList.Perm (((strKind P w).hash x, Value.str x tk) :: es.toList) := l1.trans (List.perm_append_singleton _ _)
  have p2 : (es1.toList.map (·.2)).Perm (.str x tk :: vs) := (p1.map _).trans (List.Perm.cons _ pm)
  have hel1 : ElemsOf (strKind P w) es1.toList := fun e he => by
    rcases List.mem_cons.mp (p1.mem_iff.mp he) with z | z
    · rw [z]
      exact ⟨⟨x, isx, rfl⟩, scan⟩
    · exact hel e z
  have size2 : es1.size = vs.length + 1 := by
    have := p1.length_eq
    rw [Array.length_toList, List.length_cons, Array.length_toList] at this
    omega
  have hb1 : es1.size < scanBound := by rw [size2]; exact room
  have hl1 : w.params.followText "set-order" = true ∨ t1.led = true := by
    rcases hl with hl | hl
    · exact .inl hl
    · exact .inr (by rw [l4]; exact hl)
  refine wpAny_bind (gaveWay _ ?_)
  split
  · refine wpAny_bind ?_
    rw [hashByValue_scannable 8 scan]
    refine wpAny_pure (stored ?_ ho hx hd hel1 p2 hb1 ?_ ?_ ?_ ?_)
    · intro b s1 Q1 q
      cases b
      · exact wpAny_pure q
      · exact wpAny_rule q
    · first
        | exact l2
        | (split <;> first | exact l2 | exact SetTable.fits_plain_off l2)
    · first
        | exact l3
        | (split <;> exact l3)
    · first
        | exact hl1
        | (split <;> exact hl1)
    · intro h2 sb r
      dsimp only
      exact wpAny_pure (hQ h2 sb r)
  · refine wpAny_bind (wpAny_pure ?_)
    simp only [↓reduceIte]
    refine stored ?_ ho hx hd hel1 p2 hb1 l2 l3 hl1 ?_
    · intro b s1 Q1 q
      cases b
      · exact wpAny_pure q
      · exact wpAny_rule q
    · intro h2 sb r
      dsimp only
      exact wpAny_pure (hQ h2 sb r)
end
end K4S
set_option Elab.async false
set_option linter.all false
set_option maxRecDepth 100000
set_option maxHeartbeats 8000000
namespace K4S
open PySem PySem.Spec PyProof.Rows L2
def textOf : Value → Str
  | .str x _ => x
  | _ => Str.empty
/-- the values are just these texts, in some order -/
def Tell (vs : List Value) (xs : List Str) : Prop := (∀ v ∈ vs, ∃ (x : Str) (t : Tok), v = .str x t) ∧ (vs.map textOf).Perm xs
theorem Tell.nil : Tell [] [] := ⟨(fun v h => by cases h), List.Perm.nil⟩
theorem Tell.add {vs : List Value} {xs : List Str} {x : Str} {t : Tok} (h : Tell vs xs) : Tell (.str x t :: vs) (xs ++ [x]) := by
  refine ⟨fun v hv => ?_, ?_⟩
  · rcases List.mem_cons.mp hv with rfl | hv
    · exact ⟨x, t, rfl⟩
    · exact h.1 v hv
  · show (x :: vs.map textOf).Perm (xs ++ [x])
    exact (List.Perm.cons x h.2).trans (List.perm_append_singleton x xs).symm
theorem Tell.new {P : Program} {w : World} {vs : List Value} {xs : List Str} {x : Str} (h : Tell vs xs) (hx : ¬ x ∈ xs) : ∀ v ∈ vs, (strKind P w).is x v = false := fun v hv => by
  obtain ⟨y, t, rfl⟩ := h.1 v hv
  cases e : (strKind P w).is x (.str y t) with
  | false => rfl
  | true =>
    exfalso
    have e2 : (strKind P w).is y (.str y t) = true := strKind_is P w y t
    have : x = y := (strKind P w).inj _ _ _ e e2
    subst this
    exact hx (h.2.mem_iff.mp (List.mem_map.mpr ⟨_, hv, rfl⟩))
section
variable {P : Program} {w : World} {A : Around} {E : Value → Shared → Prop} {s : Shared}
/-- the loop that fills a new set from unlike texts -/
theorem filled {I : Addr} {fp wr : List Addr} {G : Array GenState → Array GenState → Prop} {n : Nat} {Pv : Nat → Value → Prop} {St : Nat → Shared → Prop} {R : Result → Shared → Prop}
    (W : WalksS P w A.in1 I fp wr G n Pv St) (a : Addr) (ha : a ∉ fp) (xs : List Str) (hn : n = xs.length) (nd : xs.Nodup) (hb : xs.length + 1 < scanBound) (hval : ∀ i v, Pv i v → ∃ x t, xs[i]? = some x ∧ v = .str x t) :
    ∀ (k i : Nat) (s : Shared), n - i = k → i ≤ n → St i s → (∃ vs, Holds P w s.heap a vs ∧ Tell vs (xs.take i)) →
      (∀ s' vs, Moved (a :: wr) G s s' → Holds P w s'.heap a vs → Tell vs xs → R (.ok (.ret .none)) s') →
      codeAny (model P w) A (.builtin "set.update.loop" ⟨[.ref a, .ref I], []⟩) R s := by
  have haw : a ∉ wr := fun z => ha (W.sub _ z)
  have more : ∀ b ∈ wr, b ∈ a :: wr := fun b z => List.mem_cons_of_mem _ z
  intro k
  induction k with
  | zero =>
    rintro i s ek hi hst ⟨vs, hH, hT⟩ hR
    obtain rfl : i = n := by omega
    refine codeAny_builtin F.entry_set_update_loop ?_
    rw [Around.under_plainId F.plain_set_update_loop _]
    show wpAny _ A.in1 (pyNext (.ref I) >>= _) _ _ s
    refine wpAny_bind (W.done s _ _ hst fun s' hm => ?_)
    show wpAny _ A.in1 (ret Value.none) _ _ s'
    rw [List.take_of_length_le (by omega)] at hT
    exact wpAny_pure (hR s' vs (hm.mono more) (hH.keep fun o e => hm.heap a o haw e) hT)
  | succ k ih =>
    rintro i s ek hi hst ⟨vs, hH, hT⟩ hR
    have hlt : i < n := by omega
    refine codeAny_builtin F.entry_set_update_loop ?_
    rw [Around.under_plainId F.plain_set_update_loop _]
    show wpAny _ A.in1 (pyNext (.ref I) >>= _) _ _ s
    refine wpAny_bind (W.item i s _ _ hlt hst fun v s' hP hst' hm => ?_)
    obtain ⟨x, t, hx, rfl⟩ := hval i v hP
    have hH' : Holds P w s'.heap a vs := hH.keep fun o e => hm.heap a o haw e
    have hxn : ¬ x ∈ xs.take i := fun z => by
      obtain ⟨j, hj, e⟩ := List.mem_iff_getElem.mp z
      rw [List.length_take] at hj
      rw [List.getElem_take] at e
      have h1 : xs[j]? = xs[i]? := by rw [hx, List.getElem?_eq_getElem (by omega), e]
      have := (List.getElem?_inj (by omega) nd).mp h1
      omega
    have vl : vs.length ≤ i := by
      have := hT.2.length_eq
      rw [List.length_map, List.length_take] at this
      omega
    show wpAny _ A.in1 (holding [Value.str x t] (setAdd a (.str x t)) >>= _) _ _ s'
    refine wpAny_bind (wpAny_holding ?_)
    unfold setAdd
    refine wpAny_holding (wpAny_bind ((strKind P w).pyHash (k := x) (strKind_is _ _ _ _) ?_))
    refine added (s := { s' with toks := s'.toks + 1 }) hH' (hT.new hxn) (by omega) fun h2 sb hH2 => ?_
    have hT2 : Tell (.str x t :: vs) (xs.take (i + 1)) := by
      rw [List.take_add_one, hx]
      exact hT.add
    refine wpAny_pure ⟨plainId_quiet F.plain_set_update_loop _, ih (i + 1) _ (by omega) hlt (W.frame _ s' _ _ hst' (Nat.le_succ _) fun b hb o e => ?_) ⟨_, hH2, hT2⟩ fun s3 vs3 m3 hH3 hT3 => ?_⟩
    · rw [sb.2 b (fun z : b = a => ha (z ▸ hb))]
      exact e
    · refine hR s3 vs3 (Moved.trans W.gtrans ((hm.mono more).then_heap (Nat.le_succ _) fun b o hb e => ?_) m3) hH3 hT3
      rw [sb.2 b (fun z : b = a => hb (z ▸ List.mem_cons_self))]
      exact e
/-- set(text), of a text of unlike signs -/
theorem set_of_text {x : Str} {t : Tok} {Q : Value → Shared → Prop} (hh : A.handled = none) (nd : (x.cps.toList.map fun c => (⟨#[c]⟩ : Str)).Nodup) (hb : x.cps.size + 1 < scanBound)
    (hQ : ∀ (h2 : Heap) (tk : Nat) (vs : List Value), Holds P w h2 s.heap.objs.size vs → Tell vs (x.cps.toList.map fun c => (⟨#[c]⟩ : Str)) → (∀ b o, s.heap.get? b = some o → h2.get? b = some o) → Q (.ref s.heap.objs.size) { s with heap := h2, toks := tk }) :
    wpAny (model P w) A (call (.type "set") [.str x t]) Q E s := by
  obtain ⟨c, tl, hmro⟩ := F.called_set.mro
  have hmade := F.called_set.made
  have hsub := F.called_set.sub
  refine wpAny_call (codeAny_of_tree ?_)
  show wpAny _ _ (callAny (.type "set") _) _ _ _
  refine wpAny_pure ⟨Code.quiet_builtin _ (by decide +kernel), codeAny_builtin F.entry_type_call ?_⟩
  rw [Around.under_plain (weight_type_call_type "set" [.str x t] []) rfl]
  have n1 := F.called_set.notType
  have n2 := F.called_set.canCreate
  have n3 := F.typeCall_set_1 (.str x t)
  repeat (any_goals (first | assumption | wp_step))
  refine codeAny_mono (code_set_led1 (.str x t) (E := E) (Q₁ := fun obj s1 => obj = .ref s.heap.objs.size ∧ s1 = { s with heap := s.heap.push { cls := .type "set", dict := none, data := .set #[] 0 (.fresh 0 0 (!w.params.followText "set-order")) } }) ⟨rfl, rfl⟩) fun r s1 hr => ?_
  cases r with
  | error e => exact hr
  | ok fl =>
    cases fl with
    | ret obj =>
      obtain ⟨rfl, rfl⟩ := hr
      have hS : (s.heap.push { cls := .type "set", dict := none, data := .set #[] 0 (.fresh 0 0 (!w.params.followText "set-order")) }).get? s.heap.objs.size = some { cls := .type "set", dict := none, data := .set #[] 0 (.fresh 0 0 (!w.params.followText "set-order")) } := Heap.get?_push_size _ rfl
      have hT : Shared.TypeIs { s with heap := s.heap.push { cls := .type "set", dict := none, data := .set #[] 0 (.fresh 0 0 (!w.params.followText "set-order")) } } (.ref s.heap.objs.size) "set" := ⟨_, hS, rfl⟩
      have n4 := F.called_set.init.lookup
      have n5 := F.called_set.init.bind (.ref s.heap.objs.size)
      repeat (any_goals (first | assumption | wp_step))
      refine codeAny_mono (codeAny_call_builtin (R := wants (fun r s2 => r = .none ∧ ∃ h2 tk vs, s2 = { s with heap := h2, toks := tk } ∧ Holds P w h2 s.heap.objs.size vs ∧ Tell vs (x.cps.toList.map fun c => (⟨#[c]⟩ : Str)) ∧
          (∀ b o, s.heap.get? b = some o → h2.get? b = some o)) E) F.called_set.init.plain F.entry_set_init (check_set_init_1 hT ?_)) fun r2 s2 hr2 => ?_
      · have n6 := F.sub_str_set
        have n7 := F.sub_str_frozenset
        have n8 : (Value.type "str" == Value.type "dict") = false := by decide
        unfold Builtin.«set.__init__» noKeywords Builtin.Frozenset.updateFrom
        generalize hPI : pyIter = PI
        wp_walk
        subst hPI
        refine wpAny_pyIter_str fun oi St W st0 => ?_
        refine wpAny_bind (wpAny_runValue ?_)
        have hh3 : A.in1.in1.in1.handled = none := by simp [hh]
        have hsz : (s.heap.push { cls := .type "set", dict := none, data := .set #[] 0 (.fresh 0 0 (!w.params.followText "set-order")) }).objs.size = s.heap.objs.size + 1 := Heap.size_push ..
        have hfp : s.heap.objs.size ∉ [(s.heap.push { cls := .type "set", dict := none, data := .set #[] 0 (.fresh 0 0 (!w.params.followText "set-order")) }).objs.size] := by
          rw [hsz, List.mem_singleton]
          omega
        have ln : x.cps.size = (x.cps.toList.map fun c => (⟨#[c]⟩ : Str)).length := by rw [List.length_map, Array.length_toList]
        refine filled ((W _ hh3).toS) s.heap.objs.size hfp (x.cps.toList.map fun c => (⟨#[c]⟩ : Str)) ln nd (by rw [← ln]; exact hb) (fun i v hv => ?_) (x.cps.size - 0) 0 _ rfl (Nat.zero_le _) st0 ⟨[], Holds.empty w (Heap.get?_push_of_some _ hS), ?_⟩ fun s3 vs hm hH hT3 => ?_
        · obtain ⟨c, u, e, rfl⟩ := hv
          exact ⟨⟨#[c]⟩, u, by rw [List.getElem?_map, Array.getElem?_toList, e]; rfl, rfl⟩
        · rw [List.take_zero]
          exact Tell.nil
        · obtain ⟨h3, g3, d3, tk3, os3⟩ := s3
          have eg : g3 = s.gens := hm.gens
          have ed : d3 = s.drawn := hm.drawn
          have eo : os3 = s.os := hm.os
          subst eg ed eo
          show wpAny _ _ _ _ _ _
          refine wpAny_pure ?_
          show wpAny _ _ (ret Value.none) _ _ _
          refine wpAny_pure ⟨rfl, h3, tk3, vs, rfl, hH, hT3, fun b o e => ?_⟩
          have hb0 : b < s.heap.objs.size := Heap.lt_size e
          refine hm.heap b o ?_ (Heap.get?_push_of_some _ (Heap.get?_push_of_some _ e))
          intro z
          rcases List.mem_cons.mp z with z | z
          · exact Nat.lt_irrefl _ (show s.heap.objs.size < s.heap.objs.size from z ▸ hb0)
          · rw [List.mem_singleton, hsz] at z
            exact Nat.lt_irrefl _ (Nat.lt_trans (show s.heap.objs.size + 1 < s.heap.objs.size from z ▸ hb0) (Nat.lt_succ_self _))
      · cases r2 with
        | error e => exact hr2
        | ok fl2 =>
          cases fl2 with
          | ret r =>
            obtain ⟨rfl, h2, tk, vs, rfl, g1, g2, g3⟩ := hr2
            repeat (any_goals (first | assumption | wp_step))
            exact hQ _ _ _ g1 g2 g3
          | _ => exact hr2.elim
    | _ => exact hr.elim
end
end K4S
set_option Elab.async false
set_option linter.all false
set_option maxRecDepth 100000
set_option maxHeartbeats 8000000
namespace K4S
open PySem PySem.Spec PyProof.Rows L2
/-- the signs of a text, a text each -/
def signsOf (x : Str) : List Str := x.cps.toList.map fun c => (⟨#[c]⟩ : Str)
/-- the set of texts at a (a thing of one's own) -/
def SetT (P : Program) (w : World) (a : Addr) (xs : List Str) : HO := .ext fun h => ∃ vs, Holds P w h a vs ∧ Tell vs xs
theorem setT_new {P : Program} {w : World} {H : Hp} {h : Heap} {a : Addr} {xs : List Str} {vs : List Value} (R : Holds P w h a vs) (T : Tell vs xs) : ObjOk P w H h a (SetT P w a xs) := by
  have ⟨o, _, _, _, ho, _⟩ := R
  exact ⟨⟨vs, R, T⟩, ⟨o, ho⟩, fun h1 h2 ⟨us, r, t⟩ k => ⟨us, r.keep k, t⟩⟩
theorem Tell.strs : ∀ {vs : List Value} {xs : List Str}, Tell vs xs → StrsAre vs (vs.map textOf)
  | [], _, _ => .nil
  | v :: vs, _, h => by
    obtain ⟨x, t, rfl⟩ := h.1 v List.mem_cons_self
    exact .cons x t (Tell.strs (xs := vs.map textOf) ⟨fun u hu => h.1 u (List.mem_cons_of_mem _ hu), List.Perm.refl _⟩)
section
variable {X : Cx}
/-- set(x), a text of unlike signs -/
def rSetX (P : Program) (w : World) : List V → Hp → VK → Prop := fun vs H Q => ∃ x : Str, vs = [V.str x] ∧ (signsOf x).Nodup ∧ x.cps.size + 1 < scanBound ∧ ∀ p, H p = none → Q (.ref p) (upd H p (SetT P w p (signsOf x)))
theorem cr_setX (hc : X.calm = true) : CallR X (.type "set") (rSetX X.prog X.w) := by
  intro pins s σ H vs us Q I r h
  obtain ⟨x, rfl, nd, hb, q⟩ := h
  cases r with
  | cons r1 rt =>
    cases rt
    obtain ⟨t, rfl⟩ := r1
    refine set_of_text (I.ok.hd hc) nd hb fun h2 tk vs2 hH hT hk => ?_
    exact ⟨.ref _, upd H s.heap.objs.size (SetT X.prog X.w s.heap.objs.size (signsOf x)), I.laid (t' := tk) (fun b u e => hk b u e) (Nat.le_refl _) (setT_new hH hT), rfl, q _ (I.hok.fresh (Nat.le_refl _))⟩
/-- sorted(set of texts) -/
def rSortedT (P : Program) (w : World) : List V → Hp → VK → Prop := fun vs H Q => ∃ (a : Addr) (xs : List Str), vs = [V.ref a] ∧ H a = some (SetT P w a xs) ∧ xs.length < 64 ∧
  ∀ (ys : List Str) (p : Addr), ys.Perm xs → sortedS ys = true → H p = none → Q (.ref p) (upd H p (.lst (ys.map V.str)))
theorem cr_sortedT (hc : X.calm = true) : CallR X (.builtin "sorted") (rSortedT X.prog X.w) := by
  intro pins s σ H vs us Q I r h
  obtain ⟨a, xs, rfl, ha, h64, q⟩ := h
  obtain ⟨ms, R, T⟩ := (I.hok a _ ha).1
  rw [Vals.ref1 r]
  have lm : ms.length = xs.length := by
    have := T.2.length_eq
    rw [List.length_map] at this
    exact this
  obtain ⟨o, es, ep, t, ho, hex, hd, hel, pm, hb, hf, hr, hl⟩ := R
  refine Calls.call_function_entry kind_sorted plain_sorted entry_sorted (args_sorted1 _) ?_
  unfold Builtin.«sorted»
  refine wpAny_bind (m := checkCount "sorted" 1 1 _) (wpAny_pure ?_)
  refine wpAny_bind (collect_set (A := X.A.in1) (I.ok.hd hc) ⟨o, ho, hex.1, hd⟩ hf hb hr hl fun s1 ws k1 hz g1 o1 pm2 => ?_)
  have pw : ws.Perm ms := pm2.trans pm
  have T2 : Tell ws xs := ⟨fun v hv => T.1 v (pw.mem_iff.mp hv), (pw.map textOf).trans T.2⟩
  have hS : StrsAre ws (ws.map textOf) := T2.strs
  have lw : ws.length = xs.length := by rw [pw.length_eq]; exact lm
  refine wpAny_bind (wpAny_newList ?_ (by rw [lw, sizeLine_eq]; omega))
  have hoL : (s1.heap.push (seqObj "list" ws.toArray 0)).get? s1.heap.objs.size = some (seqObj "list" ws.toArray 0) := Heap.get?_push_size _ rfl
  refine wpAny_bind (wpAny_holding (wpAny_call_entry slot_list_sort ⟨_, hoL, rfl⟩ entry_list_sort (list_sort_treeK strKind_oneLt hoL hS.keysOf (fun v₁ v₂ rest e => keyKind_strs (by rw [← e]; exact hS)) (by rw [lw]; exact h64) fun st' hp hs => ⟨_, rfl, ?_⟩) (args_list_sort _)))
  obtain ⟨ys, a1, a2, a3⟩ := sorted_out_str hS hp hs
  generalize (arrOf st').map (·.2) = out at a1
  obtain ⟨c, hc2⟩ := sortedHeap_at (vs := ws) (out := out) hoL
  have py : ys.Perm xs := a2.trans T2.2
  have hpn : H s1.heap.objs.size = none := I.hok.fresh hz
  have hlen : (ys.map V.str).length ≤ sizeLine := by rw [List.length_map, py.length_eq, sizeLine_eq]; omega
  have kk : ∀ b u, s.heap.get? b = some u → (sortedHeap (s1.heap.push (seqObj "list" ws.toArray 0)) s1.heap.objs.size ws out).get? b = some u := fun b u e => by
    have q := k1 b u e
    have hlt := Heap.lt_size q
    rw [sortedHeap_old (Nat.ne_of_lt hlt) (by rw [size_push']; exact Nat.lt_succ_of_lt hlt)]
    exact Heap.get?_push_of_some _ q
  refine wpAny_pure ⟨_, rfl, ?_⟩
  have J : Inv X pins σ (upd H s1.heap.objs.size (.lst (ys.map V.str))) { s with heap := sortedHeap (s1.heap.push (seqObj "list" ws.toArray 0)) s1.heap.objs.size ws out, gens := s1.gens, drawn := s1.drawn, toks := s1.toks } :=
    I.call (ch := []) (Un.laid kk hz hpn) (I.hok.laid kk hz ⟨hlen, out.toList, c, vals_of_strs a1, hc2⟩) (by rw [g1]; exact I.bare) (fun _ z => nomatch z)
  obtain ⟨h3, g3, d3, tk3, os3⟩ := s1
  obtain ⟨h0, g0, d0, tk0, os0⟩ := s
  dsimp only at o1 g1
  subst o1
  exact ⟨.ref _, _, J, rfl, q ys _ py a3 hpn⟩
end
end K4S
set_option Elab.async false
set_option linter.all false
set_option maxRecDepth 100000
set_option maxHeartbeats 8000000
/-! a dict that takes another one's pairs; the least of a list of texts -/
namespace K4S
open PySem PySem.Spec PySem.W PyProof.Rows L2
section
variable {X : Cx}
def rUpd : V → List V → Hp → VK → Prop := fun x xs H Q => ∃ (a b : Addr) (kvs more : List (Key × V)), x = V.ref a ∧ xs = [V.ref b] ∧ a ≠ b ∧ H a = some (.dK kvs) ∧ H b = some (.dK more) ∧ kvs.length + more.length ≤ sizeLine ∧
  Q .non (upd H a (.dK (mergeK kvs more)))
theorem mt_upd : MtR X "dict.update" rUpd := by
  intro pins s σ H x xs v us Q I rx rxs h
  obtain ⟨a, b, kvs, more, rfl, rfl, hab, ha, hb, hz, q⟩ := h
  cases rx
  cases rxs with
  | cons ry rt =>
    cases rt
    cases ry
    obtain ⟨_, m1, vs, r1, d1⟩ := (show ObjOk X.prog X.w H s.heap a (.dK kvs) from I.hok a _ ha)
    obtain ⟨_, m2, ws, r2, d2⟩ := (show ObjOk X.prog X.w H s.heap b (.dK more) from I.hok b _ hb)
    refine call_meetsIn F.slot_dict_update d1.typeIs F.entry_dict_update (F.args_dict_update_2 _ _) (meets_dict_update (mixKind X.prog X.w) a b hab m2) ⟨vs, ws, d1, d2, by rw [← r1.length, ← r2.length]; exact hz, fun h' e1 e2 sb => ?_⟩
    have hlen : (mergeK kvs more).length ≤ sizeLine := Nat.le_trans (length_mergeK more kvs) hz
    have he : ∃ u, h'.get? a = some u := by
      obtain ⟨o, _, _, ho, _⟩ := e1
      exact ⟨o, ho⟩
    exact ⟨.non, upd H a (.dK (mergeK kvs more)), I.write (e := a) (t' := s.toks) (by rw [ha]; trivial) (.inl rfl) (fun b u hb hu => (sb.2 b hb).trans hu) he
      (show ObjOk X.prog X.w _ _ a (.dK (mergeK kvs more)) from ⟨hlen, m1, merged vs ws, KV.merge r2 r1, e1⟩), rfl, q⟩
end
theorem minS_spec : ∀ (xs : List Str) (x : Str), ∃ m : Str, minD (.str x) (xs.map .str) = .str m ∧ m ∈ x :: xs ∧ ∀ y ∈ x :: xs, ¬ y.cps.toList < m.cps.toList
  | [], x => ⟨x, rfl, List.mem_cons_self, fun y hy => by
      rw [List.mem_singleton.mp hy]
      exact List.lt_irrefl _⟩
  | y :: r, x => by
    have e : minD (.str x) ((y :: r).map .str) = minD (if dataLt (.str y) (.str x) then .str y else .str x) (r.map .str) := rfl
    rw [e, dataLt_str]
    by_cases h : y.cps.toList < x.cps.toList
    · rw [if_pos (by simpa using h)]
      obtain ⟨m, e1, e2, e3⟩ := minS_spec r y
      refine ⟨m, e1, List.mem_cons_of_mem _ e2, fun z hz => ?_⟩
      rcases List.mem_cons.mp hz with rfl | hz
      · exact fun q => e3 y List.mem_cons_self (List.lt_trans h q)
      · exact e3 z hz
    · rw [if_neg (by simpa using h)]
      obtain ⟨m, e1, e2, e3⟩ := minS_spec r x
      refine ⟨m, e1, ?_, fun z hz => ?_⟩
      · rcases List.mem_cons.mp e2 with rfl | z
        · exact List.mem_cons_self
        · exact List.mem_cons_of_mem _ (List.mem_cons_of_mem _ z)
      · rcases List.mem_cons.mp hz with rfl | hz
        · exact e3 _ List.mem_cons_self
        · rcases List.mem_cons.mp hz with rfl | hz
          · intro q
            have a1 : m.cps.toList ≤ x.cps.toList := e3 x List.mem_cons_self
            exact h (Std.lt_of_lt_of_le q a1)
          · exact e3 z (List.mem_cons_of_mem _ hz)
theorem depth_strs : ∀ xs : List Str, PyData.depthAll (xs.map .str) ≤ 1
  | [] => Nat.zero_le _
  | x :: r => by
    rw [List.map_cons]
    exact Nat.max_le.mpr ⟨Nat.zero_le _, depth_strs r⟩
section
variable {X : Cx}
def rMinS (K : PySem.W.Frag) : List V → Hp → VK → Prop := fun vs H Q => ∃ (a : Addr) (x : Str) (xs : List Str), vs = [V.ref a] ∧ SqL K H a ((x :: xs).map V.str) ∧ ∀ m : Str, m ∈ x :: xs → (∀ y ∈ x :: xs, ¬ y.cps.toList < m.cps.toList) → Q (.str m) H
theorem cr_minS (hc : X.calm = true) (hu : X.A.units + 64 < cLine) : CallR X (.builtin "min") (rMinS X.K) := by
  intro pins s σ H vs us Q I r h
  obtain ⟨a, x, xs, rfl, hs, q⟩ := h
  obtain ⟨its, rv, hl, _⟩ := I.list hs
  rw [Vals.ref1 r]
  have hS := rv.strs
  have hd := depth_strs (x :: xs)
  refine min_list_data (I.ok.hd hc) hl.isList (x := .str x) (xs := xs.map .str) (as := []) (by simpa using hS.reads s.heap) ⟨?_, ?_⟩ (by rw [← List.map_cons (f := PyData.str)]; omega) fun i v h' tk bs hi hR hk => ?_
  · intro p hp y hy
    rw [← List.map_cons (f := PyData.str)] at hp hy
    obtain ⟨p, _, rfl⟩ := List.mem_map.mp hp
    obtain ⟨y, _, rfl⟩ := List.mem_map.mp hy
    rfl
  · intro p hp
    rw [← List.map_cons (f := PyData.str)] at hp
    obtain ⟨p, _, rfl⟩ := List.mem_map.mp hp
    exact fun z => nomatch z
  · obtain ⟨m, e1, e2, e3⟩ := minS_spec xs x
    rw [e1] at hR
    cases hR with
    | str _ t => exact ⟨.str m, H, I.kept hk, ⟨t, rfl⟩, q m e2 e3⟩
end
end K4S
set_option Elab.async false
set_option maxRecDepth 100000
namespace K4M
/-! ### periods -/
def had (w : List Nat) (p : Nat) : Bool := (w.drop p).isPrefixOf w
def Per (w : List Nat) (p : Nat) : Prop := ∀ i, i + p < w.length → w[i]? = w[i + p]?
theorem prefix_get {u w : List Nat} : u.isPrefixOf w = true ↔ ∀ i, i < u.length → w[i]? = u[i]? := by
  rw [List.isPrefixOf_iff_prefix]
  constructor
  · rintro ⟨t, rfl⟩ i hi
    rw [List.getElem?_append_left hi]
  · intro h
    have hl : u.length ≤ w.length := by
      apply Nat.le_of_not_lt
      intro hlt
      have := h w.length hlt
      rw [List.getElem?_eq_none (Nat.le_refl _), List.getElem?_eq_getElem hlt] at this
      cases this
    have : w.take u.length = u := by
      apply List.ext_getElem?
      intro i
      by_cases hi : i < u.length
      · rw [List.getElem?_take_of_lt hi]
        exact h i hi
      · rw [List.getElem?_eq_none (by rw [List.length_take]; omega), List.getElem?_eq_none (by omega)]
    rw [← this]
    exact List.take_prefix _ _
theorem had_iff (w : List Nat) (p : Nat) : had w p = true ↔ Per w p := by
  unfold had
  rw [prefix_get]
  constructor
  · intro h i hi
    have := h i (by rw [List.length_drop]; omega)
    rw [List.getElem?_drop, Nat.add_comm p i] at this
    exact this
  · intro h i hi
    rw [List.length_drop] at hi
    rw [List.getElem?_drop, Nat.add_comm p i]
    exact h i (by omega)
/-- two periods, the greater less the lesser -/
theorem per_sub {w : List Nat} {p d : Nat} (hp : Per w p) (hd : Per w d) (hlt : p < d) (hn : p + d ≤ w.length) : Per w (d - p) := by
  intro i hi
  by_cases hip : p ≤ i
  · have h1 := hp (i - p) (by omega)
    have h2 := hd (i - p) (by omega)
    rw [show i - p + p = i by omega] at h1
    rw [show i - p + d = i + (d - p) by omega] at h2
    rw [← h1, h2]
  · have h1 := hd i (by omega)
    have h2 := hp (i + (d - p)) (by omega)
    rw [show i + (d - p) + p = i + d by omega] at h2
    rw [h1, h2]
theorem per_dvd {w : List Nat} {p : Nat} (h0 : 0 < p) (hp : Per w p) (hmin : ∀ q, 0 < q → q < p → ¬ Per w q) : ∀ (d : Nat), 0 < d → Per w d → p + d ≤ w.length → p ∣ d := by
  intro d
  induction d using Nat.strongRecOn with
  | _ d ih =>
    intro hd0 hd hn
    by_cases h1 : d < p
    · exact absurd hd (hmin d hd0 h1)
    by_cases h2 : d = p
    · subst h2
      exact Nat.dvd_refl _
    · have := ih (d - p) (by omega) (by omega) (per_sub hp hd (by omega) hn) (by omega)
      obtain ⟨k, hk⟩ := this
      exact ⟨k + 1, by rw [Nat.mul_add, Nat.mul_one]; omega⟩
/-! ### repeated words -/
def rep (u : List Nat) (k : Nat) : List Nat := (List.replicate k u).flatten
theorem rep_succ (u : List Nat) (k : Nat) : rep u (k + 1) = u ++ rep u k := by
  unfold rep
  rw [List.replicate_succ, List.flatten_cons]
theorem rep_len (u : List Nat) : ∀ k, (rep u k).length = k * u.length
  | 0 => by simp [rep]
  | k + 1 => by rw [rep_succ, List.length_append, rep_len u k, Nat.add_mul]; omega
theorem rep_per {u : List Nat} : ∀ k, Per (rep u k) u.length
  | 0 => fun i hi => by simp [rep] at hi
  | k + 1 => fun i hi => by
    rw [rep_succ] at hi ⊢
    rw [List.length_append] at hi
    by_cases h : i < u.length
    · rw [List.getElem?_append_left h, List.getElem?_append_right (by omega), show i + u.length - u.length = i by omega]
      cases k with
      | zero =>
        exfalso
        have : (rep u 0).length = 0 := by simp [rep]
        omega
      | succ k => rw [rep_succ, List.getElem?_append_left h]
    · rw [List.getElem?_append_right (by omega), List.getElem?_append_right (by omega)]
      have := rep_per (u := u) k (i - u.length) (by omega)
      rw [this, show i - u.length + u.length = i + u.length - u.length by omega]
theorem per_drop {w : List Nat} {s : Nat} (h : Per w s) (m : Nat) : Per (w.drop m) s := fun i hi => by
  rw [List.length_drop] at hi
  rw [List.getElem?_drop, List.getElem?_drop, show m + (i + s) = m + i + s by omega]
  exact h (m + i) (by omega)
theorem rep_of_per : ∀ (k : Nat) {w : List Nat} {s : Nat}, 0 < s → w.length = k * s → Per w s → rep (w.take s) k = w
  | 0, w, s, _, hl, _ => by
    have : w = [] := List.length_eq_zero_iff.mp (by omega)
    subst this
    simp [rep]
  | k + 1, w, s, h0, hl, hp => by
    rw [rep_succ]
    have hl' : w.length = k * s + s := by rw [hl, Nat.add_mul, Nat.one_mul]
    have hd : (w.drop s).length = k * s := by rw [List.length_drop]; omega
    have ih := rep_of_per k h0 hd (per_drop hp s)
    cases k with
    | zero =>
      have e : w.drop s = [] := List.length_eq_zero_iff.mp (by omega)
      rw [show rep (w.take s) 0 = [] by simp [rep], List.append_nil, List.take_of_length_le (by omega)]
    | succ k =>
      have e : (w.drop s).take s = w.take s := by
        apply List.ext_getElem?
        intro i
        by_cases hi : i < s
        · rw [List.getElem?_take_of_lt hi, List.getElem?_take_of_lt hi, List.getElem?_drop, Nat.add_comm s i]
          have : s ≤ (k + 1) * s := Nat.le_mul_of_pos_left s (by omega)
          exact (hp i (by omega)).symm
        · rw [List.getElem?_eq_none (by rw [List.length_take]; omega), List.getElem?_eq_none (by rw [List.length_take]; omega)]
      rw [e] at ih
      rw [ih, List.take_append_drop]
theorem rep_iff {w : List Nat} {s : Nat} (h0 : 0 < s) (hs : w.length % s = 0) (hle : s ≤ w.length) : rep (w.take s) (w.length / s) = w ↔ Per w s := by
  have hk : w.length = w.length / s * s := by
    have := Nat.div_add_mod w.length s
    rw [hs, Nat.add_zero, Nat.mul_comm] at this
    exact this.symm
  constructor
  · intro h
    have hl : (w.take s).length = s := by rw [List.length_take]; omega
    have := rep_per (u := w.take s) (w.length / s)
    rw [h, hl] at this
    exact this
  · exact rep_of_per _ h0 hk
/-! ### the least period, the root -/
def lpFrom (w : List Nat) (n i : Nat) : Nat → Nat
  | 0 => n
  | m + 1 => if had w i then i else lpFrom w n (i + 1) m
def lp (w : List Nat) : Nat := lpFrom w w.length 1 (w.length - 1)
theorem lpFrom_spec (w : List Nat) (n : Nat) : ∀ (m i : Nat), i + m = n → (∀ j, 0 < j → j < i → had w j = false) → (∀ j, 0 < j → j < lpFrom w n i m → had w j = false) ∧ i ≤ lpFrom w n i m ∧ lpFrom w n i m ≤ n ∧ (lpFrom w n i m < n → had w (lpFrom w n i m) = true)
  | 0, i, e, h => by
    unfold lpFrom
    have : i = n := by omega
    subst this
    exact ⟨h, Nat.le_refl _, Nat.le_refl _, fun z => absurd z (Nat.lt_irrefl _)⟩
  | m + 1, i, e, h => by
    unfold lpFrom
    by_cases hi : had w i = true
    · rw [if_pos hi]
      exact ⟨h, Nat.le_refl _, by omega, fun _ => hi⟩
    · rw [if_neg hi]
      have := lpFrom_spec w n m (i + 1) (by omega) fun j h0 hj => by
        by_cases e : j = i
        · subst e
          exact Bool.eq_false_iff.mpr hi
        · exact h j h0 (by omega)
      exact ⟨this.1, by omega, this.2.2⟩
theorem lp_spec (w : List Nat) (h : w ≠ []) : (∀ j, 0 < j → j < lp w → had w j = false) ∧ 1 ≤ lp w ∧ lp w ≤ w.length ∧ (lp w < w.length → had w (lp w) = true) := by
  have hl : 0 < w.length := List.length_pos_iff.mpr h
  exact lpFrom_spec w w.length (w.length - 1) 1 (by omega) fun j h0 hj => by omega
def rootP (w : List Nat) : List Nat × Nat := if w.length % lp w ≠ 0 then (w, 1) else (w.take (lp w), w.length / lp w)
def okSize (w : List Nat) (s : Nat) : Bool := w.length % s == 0 && rep (w.take s) (w.length / s) == w
def sizes (w : List Nat) : List Nat := (List.range' 1 w.length).filter (okSize w)
def rootL (w : List Nat) : List Nat × Nat := (w.take ((sizes w).headD 0), w.length / (sizes w).headD 0)
def isPrim (w : List Nat) : Bool := !(List.range' 1 (w.length - 1)).any (okSize w)
theorem headD_filter {f : Nat → Bool} {d : Nat} : ∀ (n a : Nat), a ≤ d → d < a + n → f d = true → (∀ j, a ≤ j → j < d → f j = false) → ((List.range' a n).filter f).headD 0 = d
  | 0, a, h1, h2, _, _ => by omega
  | n + 1, a, h1, h2, h3, h4 => by
    rw [List.range'_succ]
    by_cases e : a = d
    · subst e
      rw [List.filter_cons_of_pos h3]
      rfl
    · rw [List.filter_cons_of_neg (by rw [h4 a (Nat.le_refl _) (by omega)]; exact Bool.false_ne_true)]
      exact headD_filter n (a + 1) (by omega) (by omega) h3 fun j hj1 hj2 => h4 j (by omega) hj2
theorem okSize_iff {w : List Nat} {s : Nat} (h0 : 0 < s) (hle : s ≤ w.length) : okSize w s = true ↔ w.length % s = 0 ∧ Per w s := by
  unfold okSize
  rw [Bool.and_eq_true, beq_iff_eq, beq_iff_eq]
  constructor
  · rintro ⟨h1, h2⟩
    exact ⟨h1, (rep_iff h0 h1 hle).mp h2⟩
  · rintro ⟨h1, h2⟩
    exact ⟨h1, (rep_iff h0 h1 hle).mpr h2⟩
theorem per_all (w : List Nat) : Per w w.length := fun i hi => by omega
theorem sizes_head (w : List Nat) (h : w ≠ []) : (sizes w).headD 0 = if w.length % lp w ≠ 0 then w.length else lp w := by
  have hl : 0 < w.length := List.length_pos_iff.mpr h
  obtain ⟨a1, a2, a3, a4⟩ := lp_spec w h
  have hp : Per w (lp w) := by
    by_cases e : lp w < w.length
    · exact (had_iff _ _).mp (a4 e)
    · rw [show lp w = w.length by omega]
      exact per_all w
  have hmin : ∀ q, 0 < q → q < lp w → ¬ Per w q := fun q h0 hq hper => by
    have := a1 q h0 hq
    rw [(had_iff w q).mpr hper] at this
    cases this
  by_cases hm : w.length % lp w = 0
  · rw [if_neg (by omega)]
    refine headD_filter _ 1 a2 (by omega) ((okSize_iff a2 a3).mpr ⟨hm, hp⟩) fun j h1 h2 => ?_
    cases e : okSize w j with
    | false => rfl
    | true => exact absurd ((okSize_iff h1 (by omega)).mp e).2 (hmin j h1 h2)
  · rw [if_pos hm]
    refine headD_filter _ 1 hl (by omega) ((okSize_iff hl (Nat.le_refl _)).mpr ⟨Nat.mod_self _, per_all w⟩) fun j h1 h2 => ?_
    cases e : okSize w j with
    | false => rfl
    | true =>
      exfalso
      obtain ⟨e1, e2⟩ := (okSize_iff h1 (by omega)).mp e
      obtain ⟨k, hk⟩ := Nat.dvd_of_mod_eq_zero e1
      have hk2 : 2 ≤ k := by
        rcases k with _ | _ | k
        · omega
        · omega
        · omega
      have hj2 : j + j ≤ w.length := by
        have : j * 2 ≤ j * k := Nat.mul_le_mul_left j hk2
        omega
      have hpj : lp w ≤ j := by
        apply Nat.le_of_not_lt
        intro z
        exact hmin j h1 z e2
      have := per_dvd a2 hp hmin j h1 e2 (by omega)
      exact hm (Nat.mod_eq_zero_of_dvd (Nat.dvd_trans this ⟨k, hk⟩))
theorem root_eq (w : List Nat) (h : w ≠ []) : rootL w = rootP w := by
  have hl : 0 < w.length := List.length_pos_iff.mpr h
  unfold rootL rootP
  rw [sizes_head w h]
  by_cases hm : w.length % lp w ≠ 0
  · rw [if_pos hm, if_pos hm, List.take_length, Nat.div_self hl]
  · rw [if_neg hm, if_neg hm]
/-! ### how many primitive words -/
def divs (n i : Nat) : List Nat := (List.range' 1 i).filter (fun d => n % d == 0)
/-- the values at 1, 2, .. n -/
def allP (s : Int) : Nat → List Int
  | 0 => []
  | n + 1 => allP s n ++ [s ^ (n + 1) - ((divs (n + 1) n).map fun d => (allP s n).getD (d - 1) 0).sum]
def prims (s : Int) (n : Nat) : Int := (allP s n).getD (n - 1) 0
theorem allP_len (s : Int) : ∀ n, (allP s n).length = n
  | 0 => rfl
  | n + 1 => by
    show (allP s n ++ _).length = _
    rw [List.length_append, allP_len s n]
    rfl
theorem allP_get (s : Int) : ∀ (n d : Nat), 0 < d → d ≤ n → (allP s n).getD (d - 1) 0 = prims s d
  | 0, d, h1, h2 => by omega
  | n + 1, d, h1, h2 => by
    by_cases e : d = n + 1
    · subst e
      rfl
    · show (allP s n ++ _).getD (d - 1) 0 = _
      rw [List.getD_eq_getElem?_getD, List.getElem?_append_left (by rw [allP_len]; omega), ← List.getD_eq_getElem?_getD]
      exact allP_get s n d h1 (by omega)
theorem divs_mem {n i d : Nat} : d ∈ divs n i ↔ 0 < d ∧ d ≤ i ∧ n % d = 0 := by
  unfold divs
  rw [List.mem_filter, List.mem_range'_1, beq_iff_eq]
  constructor
  · rintro ⟨⟨h1, h2⟩, h3⟩
    exact ⟨h1, by omega, h3⟩
  · rintro ⟨h1, h2, h3⟩
    exact ⟨⟨h1, by omega⟩, h3⟩
theorem prims_eq (s : Int) (n : Nat) (h : 0 < n) : prims s n = s ^ n - ((divs n (n - 1)).map (prims s)).sum := by
  obtain ⟨m, rfl⟩ : ∃ m, n = m + 1 := ⟨n - 1, by omega⟩
  show (allP s m ++ [_]).getD m 0 = _
  rw [List.getD_eq_getElem?_getD, List.getElem?_append_right (by rw [allP_len]; omega), allP_len, Nat.sub_self]
  show s ^ (m + 1) - _ = s ^ (m + 1) - _
  congr 2
  apply List.map_congr_left
  intro d hd
  rw [divs_mem] at hd
  exact allP_get s m d hd.1 hd.2.1
theorem divs_succ_of {n i : Nat} (h : n % (i + 1) = 0) : divs n (i + 1) = divs n i ++ [i + 1] := by
  unfold divs
  rw [List.range'_1_concat, List.filter_append, Nat.add_comm 1 i, List.filter_cons_of_pos (by rw [h]; rfl)]
  rfl
theorem divs_succ_not {n i : Nat} (h : n % (i + 1) ≠ 0) : divs n (i + 1) = divs n i := by
  unfold divs
  rw [List.range'_1_concat, List.filter_append, Nat.add_comm 1 i, List.filter_cons_of_neg (by rw [beq_iff_eq]; exact h)]
  exact List.append_nil _
theorem divs_filter {n i : Nat} (h : n % (i + 1) = 0) : (divs n i).filter (fun d => (i + 1) % d == 0) = divs (i + 1) i := by
  unfold divs
  rw [List.filter_filter]
  apply List.filter_congr
  intro d hd
  rw [Bool.eq_iff_iff, Bool.and_eq_true, beq_iff_eq, beq_iff_eq]
  constructor
  · exact fun z => z.1
  · intro z
    exact ⟨z, Nat.mod_eq_zero_of_dvd (Nat.dvd_trans (Nat.dvd_of_mod_eq_zero z) (Nat.dvd_of_mod_eq_zero h))⟩
theorem prims_one (s : Int) : prims s 1 = s := by
  rw [prims_eq s 1 (by decide)]
  show s ^ 1 - (0 : Int) = s
  rw [Int.pow_succ, Int.pow_zero, Int.one_mul, Int.sub_zero]
theorem prims_prime (s : Int) {p : Nat} (h0 : 0 < p) (h : divs p (p - 1) = [1]) : prims s p = s ^ p - s := by
  rw [prims_eq s p h0, h]
  show s ^ p - (prims s 1 + 0) = _
  rw [prims_one, Int.add_zero]
theorem prims_square (s : Int) {p : Nat} (h0 : 0 < p) (h : divs p (p - 1) = [1]) (h2 : divs (p * p) (p * p - 1) = [1, p]) : prims s (p * p) = s ^ (p * p) - s ^ p := by
  rw [prims_eq s (p * p) (Nat.mul_pos h0 h0), h2]
  show s ^ (p * p) - (prims s 1 + (prims s p + 0)) = _
  rw [prims_one, prims_prime s h0 h, Int.add_zero]
  omega
/-! ### all words -/
def wordsOf (cs : List Nat) : Nat → List (List Nat)
  | 0 => [[]]
  | n + 1 => (wordsOf cs n).flatMap fun w => cs.map fun c => w ++ [c]
theorem wordsOf_mem {cs : List Nat} : ∀ {n : Nat} {w : List Nat}, w ∈ wordsOf cs n → w.length = n ∧ ∀ c ∈ w, c ∈ cs
  | 0, w, h => by
    have : w = [] := List.mem_singleton.mp h
    subst this
    exact ⟨rfl, fun _ h => nomatch h⟩
  | n + 1, w, h => by
    obtain ⟨u, hu, hw⟩ := List.mem_flatMap.mp h
    obtain ⟨c, hc, rfl⟩ := List.mem_map.mp hw
    obtain ⟨h1, h2⟩ := wordsOf_mem hu
    refine ⟨by rw [List.length_append, h1]; rfl, fun d hd => ?_⟩
    rcases List.mem_append.mp hd with hd | hd
    · exact h2 d hd
    · rw [List.mem_singleton.mp hd]
      exact hc
def countP (k n : Nat) : Nat := ((wordsOf ([97, 98, 99, 100].take k) n).filter isPrim).length
theorem count_small : (List.range' 1 3).all (fun k => (List.range' 1 6).all fun n => ((countP k n : Nat) : Int) == prims k n) = true := by decide +kernel
theorem count_four : (List.range' 1 4).all (fun n => ((countP 4 n : Nat) : Int) == prims 4 n) = true := by decide +kernel
theorem count_two : (List.range' 6 2).all (fun n => ((countP 2 n : Nat) : Int) == prims 2 n) = true := by decide +kernel
theorem prims_112 : prims 1 12 = 0 := by decide +kernel
theorem prims_24 : prims 2 4 = 12 := by decide +kernel
end K4M
set_option Elab.async false
set_option linter.all false
set_option maxRecDepth 100000
set_option maxHeartbeats 4000000
namespace K4
open PySem PySem.Spec PyProof.Rows L2 K4M
/-! ### texts as lists of signs -/
def S (w : List Nat) : Str := ⟨w.toArray⟩
theorem S_inj {u v : List Nat} (h : S u = S v) : u = v := by
  have := congrArg Str.cps h
  have := congrArg Array.toList this
  simpa [S] using this
theorem S_len (w : List Nat) : (S w).length = w.length := by
  show w.toArray.size = _
  rw [List.size_toArray]
theorem S_app (u v : List Nat) : S u ++ S v = S (u ++ v) := by
  show (⟨u.toArray ++ v.toArray⟩ : Str) = ⟨(u ++ v).toArray⟩
  rw [List.append_toArray]
theorem S_empty : (Str.empty) = S [] := rfl
theorem S_dec (u v : List Nat) : decide (S u = S v) = (u == v) := by
  by_cases h : u = v
  · subst h
    simp
  · rw [decide_eq_false fun z => h (S_inj z)]
    exact (beq_eq_false_iff_ne.mpr h).symm
theorem V_dec (u v : List Nat) : decide (V.str (S u) = V.str (S v)) = (u == v) := by
  by_cases h : u = v
  · subst h
    simp
  · rw [decide_eq_false fun z => h (S_inj (V.str.inj z))]
    exact (beq_eq_false_iff_ne.mpr h).symm
theorem cut_drop (w : List Nat) (p : Nat) : cutS (S w) (some (p : Int)) none = S (w.drop p) := by
  unfold cutS
  rw [HT.sIx_none, HT.sIx_nat, S_len]
  show (⟨((w.drop (min p w.length)).take (w.length - min p w.length)).toArray⟩ : Str) = ⟨(w.drop p).toArray⟩
  congr 2
  by_cases h : p ≤ w.length
  · rw [Nat.min_eq_left h, List.take_of_length_le (by rw [List.length_drop]; omega)]
  · rw [Nat.min_eq_right (by omega), Nat.sub_self, List.take_zero, List.drop_of_length_le (by omega)]
theorem cut_take (w : List Nat) (p : Nat) : cutS (S w) none (some (p : Int)) = S (w.take p) := by
  unfold cutS
  rw [HT.sIx_none, HT.sIx_nat, S_len]
  show (⟨((w.drop 0).take (min p w.length - 0)).toArray⟩ : Str) = ⟨(w.take p).toArray⟩
  rw [List.drop_zero, Nat.sub_zero]
  congr 2
  by_cases h : p ≤ w.length
  · rw [Nat.min_eq_left h]
  · rw [Nat.min_eq_right (by omega), List.take_length, List.take_of_length_le (by omega)]
theorem starts (w u : List Nat) : Txt.startswith (S w) (S u) = u.isPrefixOf w := by
  unfold Txt.startswith
  rw [PySem.StrLaws.subAt_eq, S_len, S_len, Nat.zero_add]
  show (decide (u.length ≤ w.length) && (((w.drop 0).take (S u).length) == u)) = _
  rw [List.drop_zero, S_len, Bool.eq_iff_iff, Bool.and_eq_true, decide_eq_true_eq, beq_iff_eq, List.isPrefixOf_iff_prefix]
  constructor
  · rintro ⟨_, h⟩
    rw [← h]
    exact List.take_prefix _ _
  · rintro ⟨t, rfl⟩
    exact ⟨by rw [List.length_append]; omega, by rw [List.take_left]⟩
theorem strip_all {w : List Nat} {y : Str} (h : ∀ c ∈ w, y.cps.contains c = true) : Txt.stripChars (S w) y = S [] := by
  have lo : (List.takeWhile y.cps.contains w) = w := by
    induction w with
    | nil => rfl
    | cons a r ih =>
      rw [List.takeWhile_cons, if_pos (h a (List.mem_cons_self ..)), ih fun c hc => h c (List.mem_cons_of_mem _ hc)]
  have e1 : stripLo y.cps.contains true (S w) = w.length := by
    show (List.takeWhile y.cps.contains w).length = _
    rw [lo]
  have e2 : stripHi y.cps.contains true (S w) w.length = w.length := by
    show (S w).length - ((w.drop w.length).reverse.takeWhile y.cps.contains).length = _
    rw [List.drop_length, S_len]
    rfl
  unfold Txt.stripChars Txt.stripBy
  by_cases h0 : w = []
  · subst h0
    split <;> rfl
  · have hl : 0 < w.length := List.length_pos_iff.mpr h0
    rw [if_neg]
    · unfold stripped
      rw [e1, e2]
      show (⟨w.toArray.extract w.length w.length⟩ : Str) = ⟨[].toArray⟩
      congr 1
      apply Array.toList_inj.mp
      simp
    · unfold stripSame
      rw [e1, Bool.and_eq_true, beq_iff_eq]
      omega
theorem foldl_rep (u : List Nat) : ∀ (k : Nat) (acc : List Nat), (List.replicate k u.toArray).foldl (· ++ ·) acc.toArray = (acc ++ rep u k).toArray
  | 0, acc => by simp [rep]
  | k + 1, acc => by
    rw [List.replicate_succ, List.foldl_cons, List.append_toArray, foldl_rep u k, rep_succ, List.append_assoc]
theorem S_mul (u : List Nat) (k : Nat) : Txt.mul (S u) (k : Int) = S (rep u k) := by
  unfold Txt.mul
  by_cases h1 : (k : Int) < 1
  · rw [if_pos h1]
    have : k = 0 := by omega
    subst this
    rfl
  · rw [if_neg h1]
    by_cases h2 : ((k : Int) == 1 || (S u).length == 0) = true
    · rw [if_pos h2]
      rw [Bool.or_eq_true, beq_iff_eq, beq_iff_eq, S_len] at h2
      rcases h2 with h2 | h2
      · have : k = 1 := by omega
        subst this
        congr 1
        simp [rep]
      · have : u = [] := List.length_eq_zero_iff.mp h2
        subst this
        congr 1
        simp [rep]
    · rw [if_neg h2, Int.toNat_natCast]
      have := foldl_rep u k []
      rw [List.nil_append] at this
      show (⟨(List.replicate k u.toArray).foldl (· ++ ·) (#[] : Array Nat)⟩ : Str) = _
      exact congrArg Str.mk this
/-! ### rules of my own -/
section
variable {X : Cx}
def CPowW (i j : Int) : Prop := 0 ≤ j ∧ (Builtin.Int.intBits i : Int) * j ≤ 2 ^ 27
theorem op_powW : OpR X (binaryOp .Pow) (rI CPowW fun i j => .int (i ^ j.toNat)) := opI fun _ _ _ _ _ _ _ hc q => pow_int hc.1 hc.2 q
/-- text * number -/
theorem op_mulS : OpR X (binaryOp .Mult) (fun x y H Q => ∃ (u : List Nat) (k : Nat), x = .str (S u) ∧ y = .int (k : Int) ∧ u.length * k ≤ 100000 ∧ k ≤ 100000 ∧ u.length ≤ 100000 ∧ Q (.str (S (rep u k))) H) := by
  intro pins s σ H x y v u Q I rx ry h
  obtain ⟨w, k, rfl, rfl, hz, hk, hw, q⟩ := h
  obtain ⟨t, rfl⟩ := rx
  obtain ⟨t', rfl⟩ := ry
  refine SB.mul ⟨?_, fun h1 h2 => ?_, fun h1 h2 => ?_⟩ fun t1 k1 => ?_
  · rw [Bool.or_eq_false_iff]
    exact ⟨decide_eq_false (by omega), decide_eq_false (by omega)⟩
  · rw [S_len]
    have h3 : (100000 : Int) ≤ (2 ^ 63 - 1) / (k : Int) := by
      apply Int.le_ediv_of_mul_le (by omega)
      omega
    omega
  · rw [S_len, Int.toNat_natCast]
    have e : sizeLine = 16777216 := by decide
    unfold Builtin.Str.tooLong
    exact decide_eq_false (by omega)
  · rw [S_mul]
    exact ⟨.str (S (rep w k)), H, I.tok _, ⟨_, rfl⟩, q⟩
def signsV (w : List Nat) : List V := w.map fun c => V.str (S [c])
theorem vals_signs {its : List Value} {w : List Nat} (hl : its.length = w.length) (h : ∀ (j : Nat) (v : Value), its[j]? = some v → ∃ c u, w[j]? = some c ∧ v = .str ⟨#[c]⟩ u) : Vals (signsV w) its := by
  induction w generalizing its with
  | nil =>
    have : its = [] := List.length_eq_zero_iff.mp hl
    subst this
    exact .nil
  | cons c r ih =>
    cases its with
    | nil => cases hl
    | cons v rest =>
      obtain ⟨c', u, e1, e2⟩ := h 0 v rfl
      cases e1
      refine .cons ⟨u, e2⟩ (ih (Nat.succ.inj hl) fun j v hv => h (j + 1) v hv)
/-- list(text) -/
theorem call_listS (hc : X.calm = true) : CallR X (.type "list") (fun xs H Q => ∃ w : List Nat, xs = [.str (S w)] ∧ w.length ≤ 1000 ∧ ∀ l, H l = none → Q (.ref l) (upd H l (.lst (signsV w)))) := by
  intro pins s σ H xs us Q I r h
  obtain ⟨w, rfl, hw, q⟩ := h
  obtain ⟨u, rfl, rx⟩ := vals1 r
  obtain ⟨t, rfl⟩ := rx
  have e : sizeLine = 16777216 := by decide
  have hn : (S w).cps.size ≤ sizeLine := by
    show w.toArray.size ≤ _
    rw [List.size_toArray]
    omega
  refine call_list_str (I.ok.hd hc) (S w) t (hn := hn) fun h' tk acc' c' kp e' hi => ?_
  have hv : Vals (signsV w) acc'.toList := by
    refine vals_signs ?_ fun j v hv => ?_
    · rw [Array.length_toList, hi.1]
      exact List.size_toArray ..
    · obtain ⟨c, u, h1, h2⟩ := hi.2 j v (by simpa using hv)
      exact ⟨c, u, by simpa [S] using h1, h2⟩
  refine ⟨.ref s.heap.objs.size, _, I.laid (t' := tk) kp (Nat.le_refl _) (show ObjOk X.prog X.w _ h' _ (.lst (signsV w)) from ⟨?_, acc'.toList, c', hv, e'⟩), rfl, q _ (I.hok.fresh (Nat.le_refl _))⟩
  unfold signsV
  rw [List.length_map]
  omega
end
theorem filter_take {α : Type} {f : α → Bool} {l : List α} {j : Nat} {x : α} (h : l[j]? = some x) : (l.take (j + 1)).filter f = (l.take j).filter f ++ (if f x = true then [x] else []) := by
  rw [List.take_add_one, h, List.filter_append]
  congr 1
  show List.filter f [x] = _
  cases e : f x with
  | true => rw [List.filter_cons_of_pos e]; rfl
  | false => rw [List.filter_cons_of_neg (by rw [e]; exact Bool.false_ne_true)]; rfl
theorem range_snoc' (i : Nat) : List.range' 1 (i + 1) = List.range' 1 i ++ [i + 1] := by
  rw [List.range'_1_concat, Nat.add_comm 1 i]
def natsV (l : List Nat) : List V := l.map fun (d : Nat) => V.int (d : Int)
theorem int_mod_beq (a b : Nat) : ((a : Int) % (b : Int) == 0) = (a % b == 0) := by
  rw [Bool.eq_iff_iff, beq_iff_eq, beq_iff_eq]
  omega
theorem take_mul_le (u : List Nat) (s : Nat) : (u.take s).length * (u.length / s) ≤ u.length := by
  have h1 : (u.take s).length ≤ s := by rw [List.length_take]; omega
  exact Nat.le_trans (Nat.mul_le_mul_right _ h1) (Nat.mul_div_le _ _)
theorem sizes_cons {u : List Nat} (h : u ≠ []) : ∃ r, sizes u = (sizes u).headD 0 :: r ∧ 0 < (sizes u).headD 0 ∧ (sizes u).headD 0 ≤ u.length := by
  have hl : 0 < u.length := List.length_pos_iff.mpr h
  obtain ⟨_, a2, a3, _⟩ := lp_spec u h
  have e := sizes_head u h
  have hb : 0 < (sizes u).headD 0 ∧ (sizes u).headD 0 ≤ u.length := by
    rw [e]
    split <;> omega
  cases hs : sizes u with
  | nil =>
    rw [hs] at hb
    exact absurd hb.1 (by decide)
  | cons a r =>
    rw [hs] at hb
    exact ⟨r, rfl, hb⟩
theorem same_upd {H : Hp} {p : Addr} {o : HO} (h : H p = none) : Same H (upd H p o) := fun b x e => by
  rw [upd_ne (ne_of_none e h)]
  exact e
end K4
set_option maxRecDepth 100000
namespace K4
open PySem L2
def topS (i : Nat) : Stmt := PySem.Challenge.pw_owncuts_k09_whole_lone_rings.main.body.getD i (.Pass ⟨0, 0, 0, 0⟩)
abbrev st_is_whole_number : Stmt := topS 9
abbrev st_is_count : Stmt := topS 10
abbrev st_is_made_of : Stmt := topS 11
abbrev st_is_text : Stmt := topS 12
abbrev st_is_word : Stmt := topS 13
abbrev st_check_word : Stmt := topS 14
abbrev st__is_had : Stmt := topS 16
abbrev st_repeats_below : Stmt := topS 17
abbrev st_least_period : Stmt := topS 18
abbrev st__are_signs : Stmt := topS 20
abbrev st_check_ground : Stmt := topS 22
abbrev st_is_text_of : Stmt := topS 23
abbrev st_is_window : Stmt := topS 24
abbrev st_check_window : Stmt := topS 25
abbrev st_words_long : Stmt := topS 26
abbrev st_windows : Stmt := topS 27
abbrev st_is_own : Stmt := topS 28
abbrev st_next_ones : Stmt := topS 29
abbrev st__ring_from : Stmt := topS 30
abbrev st_lone_rings : Stmt := topS 31
abbrev st__law_dice : Stmt := topS 33
abbrev st__law_mixed : Stmt := topS 34
abbrev st__law_draw : Stmt := topS 35
abbrev st__law_one_of : Stmt := topS 36
abbrev st__law_exact : Stmt := topS 37
abbrev st__law_dices : Stmt := topS 38
abbrev st__law_letters : Stmt := topS 39
abbrev st__law_ground : Stmt := topS 40
abbrev st__law_repeats : Stmt := topS 41
abbrev st__law_words_of : Stmt := topS 42
abbrev st__law_made : Stmt := topS 43
abbrev st__law_many_ground : Stmt := topS 44
abbrev st__law_period : Stmt := topS 45
abbrev st__law_ground_right : Stmt := topS 46
abbrev st_law : Stmt := topS 47
abbrev cl_CutError : Stmt := topS 1
abbrev st_CutError___init__ : Stmt := inClass (topS 1) 0
abbrev cl_InvalidWord : Stmt := topS 2
abbrev st_InvalidWord___init__ : Stmt := inClass (topS 2) 0
abbrev cl_InvalidSigns : Stmt := topS 3
abbrev st_InvalidSigns___init__ : Stmt := inClass (topS 3) 0
abbrev cl_InvalidGap : Stmt := topS 4
abbrev st_InvalidGap___init__ : Stmt := inClass (topS 4) 0
abbrev cl_InvalidGround : Stmt := topS 5
abbrev st_InvalidGround___init__ : Stmt := inClass (topS 5) 0
abbrev cl_InvalidWindow : Stmt := topS 6
abbrev st_InvalidWindow___init__ : Stmt := inClass (topS 6) 0
abbrev cl_Ground : Stmt := topS 21
abbrev st_Ground___init__ : Stmt := inClass (topS 21) 0
abbrev st_Ground___eq__ : Stmt := inClass (topS 21) 1
abbrev st_Ground_signs : Stmt := inClass (topS 21) 2
abbrev st_Ground_gap : Stmt := inClass (topS 21) 3
abbrev st_Ground_width : Stmt := inClass (topS 21) 4
end K4
set_option Elab.async false
set_option linter.all false
set_option maxRecDepth 100000
set_option maxHeartbeats 4000000
namespace K4
open PySem PySem.Spec PyProof.Rows L2 K4M
/-- a def of the top that may be called: where it stands, and its promise -/
structure Cal (P : Program) (w : World) (K : PySem.W.Frag) (mg : Str → Option Value) (base : Heap) (k : Nat) (x : Str) (ps : List Str) (sp : Sp) where
  f : Addr
  fd : FuncData
  ok : FnOk P w K mg base CX0 k f fd ps sp
  g : mg x = some (.ref f)
  kp : PySem.W.keepIn K (.ref f) = true
  b : Binds K fd ps []
structure Df (K : PySem.W.Frag) (mg : Str → Option Value) (x : Str) (st : Stmt) (ps : List Str) where
  f : Addr
  fd : FuncData
  F : Fun K x x st f fd
  b : Binds K fd ps []
  g : mg x = some (.ref f)
  sh : ∃ (kV dc pm cd ct : Value) (an : Option Addr), fd = PySem.W.fnOf x x (defArgs st) (defBody st) (defScope st) .none kV dc pm an cd ct
theorem pcall {X : Cx} {k : Nat} {x : Str} {ps : List Str} {sp : Sp} {e : Expr} {es : List Expr} {t : TA} {p pos : Pos} (C : Cal X.prog X.w X.K X.mg X.base k x ps sp) (hr : Room k X.A) (hg : Gl X x) (ha : PA X (e :: es) t)
    (hdb : (x == ("__debug__" : Str)) = false := by decide) (he : starEach (e :: es) X.env = (false, eval e X.env) :: starEach es X.env := by rfl) (hpl : (backTo pos (starEach es X.env)).any (·.1) = false := by rfl) :
    PE X (.Call (.Name x p) (e :: es) [] pos) (tCall sp [] E0 t) := pe_call C.ok hr hg C.g C.kp C.b .nil pass0 ha hdb he hpl
/-- the built-ins that the text leaves as they are -/
structure Bi (mg : Str → Option Value) : Prop where
  len : mg "len" = none
  range : mg "range" = none
  sum : mg "sum" = none
  max : mg "max" = none
  min : mg "min" = none
  int : mg "int" = none
  isi : mg "isinstance" = none
  list : mg "list" = none
  any : mg "any" = none
  all : mg "all" = none
  zip : mg "zip" = none
  bool : mg "bool" = none
  str : mg "str" = none
  tuple : mg "tuple" = none
  dict : mg "dict" = none
  sorted : mg "sorted" = none
  set : mg "set" = none
  repr : mg "repr" = none
  abs : mg "abs" = none
  enum : mg "enumerate" = none
section
variable {P : Program} {w : World} {K : PySem.W.Frag} {mg : Str → Option Value} {base : Heap}
def Df.cal {x : Str} {st : Stmt} {ps : List Str} {k : Nat} {sp : Sp} (D : Df K mg x st ps) (h : FnOk P w K mg base CX0 k D.f D.fd ps sp) : Cal P w K mg base k x ps sp := ⟨D.f, D.fd, h, D.g, D.F.kp, D.b⟩
/-! ### the draws -/
theorem sc_mixed : FnScope ["seed", "spin", "at", "mixed"] ["seed", "spin", "at"] (defScope st__law_mixed) := ⟨rfl, rfl, rfl, by decide +kernel, rfl, by decide +kernel, by decide +kernel⟩
def spMixed : Sp := fun vs H Q _ => ∃ a b c : Int, vs = [.int a, .int b, .int c] ∧ (-(2 ^ 60) < b ∧ b < 2 ^ 60) ∧ (-(2 ^ 60) < c ∧ c < 2 ^ 60) ∧ ∀ m : Int, 0 ≤ m → m < 2147483587 → Q (.int m) H
theorem ok_mixed (B : Bi mg) (D : Df K mg "_law_mixed" st__law_mixed ["seed", "spin", "at"]) : FnOk P w K mg base CX0 1 D.f D.fd ["seed", "spin", "at"] spMixed := by
  refine D.F.ok sc_mixed (fun vs H Q E h => ?_) (fun cdv A outer s H vs Q E hr h => ?_)
  · obtain ⟨a, b, c, rfl, _⟩ := h
    rfl
  · obtain ⟨a, b, c, rfl, hb, hc, q⟩ := h
    refine ⟨_, pss_cons (ps_set (i := 3) sc_mixed.nd rfl (.inl rfl) (pe_op op_add (pe_op op_mul (pv 0) pe_int) (pe_op op_mul (pe_op op_mul pe_int (pv 1)) (pv 1))))
      (pss_cons (ps_set (i := 3) sc_mixed.nd rfl (.inl rfl) (pe_op op_mod (pe_callTy call_int1 (by rfl) B.int (by decide +kernel) (pa_cons (pe_op op_add (pe_op op_add (pv 3) (pe_op op_mul pe_int (pv 2))) (pv 1)) pa_nil)) pe_int))
      (pss_cons (ps_set (i := 3) sc_mixed.nd rfl (.inl rfl) (pe_op op_mod (pe_callTy call_int1 (by rfl) B.int (by decide +kernel) (pa_cons (pe_op op_add (pe_op op_mul (pv 3) (pv 3)) pe_int) pa_nil)) pe_int))
      (pss_one (ps_ret (pe_op op_mod (pe_callTy call_int1 (by rfl) B.int (by decide +kernel) (pa_cons (pe_op op_mul (pv 3) pe_int) pa_nil)) pe_int))))), ?_⟩
    refine ⟨_, rfl, _, _, rfl, rfl, .inr ⟨by decide, by decide⟩, _, rfl, _, _, rfl, rfl, .inl ⟨by decide, by decide⟩, _, rfl, _, _, rfl, rfl, .inr ⟨by omega, by omega⟩, _, _, rfl, rfl, ?_⟩
    refine ⟨_, rfl, _, rfl, _, _, rfl, rfl, .inl ⟨by decide, by decide⟩, _, _, rfl, rfl, _, rfl, _, _, rfl, rfl, .inl ⟨_, rfl, _, _, rfl, rfl, (by show (0 : Int) < 2147483647; decide), ?_⟩⟩
    generalize (a * 69069 + 104729 * b * b + 7919 * c + b) = z
    have h1 : 0 ≤ z % 2147483647 := Int.emod_nonneg _ (by decide)
    have h2 : z % 2147483647 < 2147483647 := Int.emod_lt_of_pos _ (by decide)
    refine ⟨_, rfl, _, rfl, _, _, rfl, rfl, .inr ⟨by omega, by omega⟩, _, _, rfl, rfl, .inl ⟨_, rfl, _, _, rfl, rfl, (by show (0 : Int) < 2147483629; decide), ?_⟩⟩
    generalize (z % 2147483647 * (z % 2147483647) + 40503) = y
    refine ⟨_, rfl, _, _, rfl, rfl, .inr ⟨by decide, by decide⟩, .inl ⟨_, rfl, _, _, rfl, rfl, (by show (0 : Int) < 2147483587; decide), ?_⟩⟩
    exact q _ (Int.emod_nonneg _ (by decide)) (Int.emod_lt_of_pos _ (by decide))
/-- all but what stands at d is as it was -/
def Kept (H H' : Hp) (d : Addr) : Prop := ∀ b o, b ≠ d → H b = some o → H' b = some o
theorem Kept.trans {H H1 H2 : Hp} {d : Addr} (a : Kept H H1 d) (b : Kept H1 H2 d) : Kept H H2 d := fun c o hc e => b c o hc (a c o hc e)
theorem Kept.of {H H1 : Hp} {d : Addr} (a : Same H H1) : Kept H H1 d := fun c o _ e => a c o e
theorem Kept.upd {H : Hp} {d : Addr} {o : HO} : Kept H (upd H d o) d := fun c u hc e => by
  rw [upd_ne hc]
  exact e
/-- the dice at d; at most n were drawn of its second source -/
def Dice (H : Hp) (d : Addr) (n : Nat) : Prop := ∃ a b c e : Int, H d = some (.lst [.int a, .int b, .int c, .int e]) ∧ (0 ≤ c ∧ c ≤ n) ∧ (-(2 ^ 60) < e ∧ e < 2 ^ 60)
theorem bits_small {m : Int} (h1 : 1 ≤ m) (h2 : m < 134217728) : (1 + (Builtin.Int.intBits m : Int) / 28) = 1 := by
  have : Builtin.Int.intBits m ≤ 27 := by
    unfold Builtin.Int.intBits
    split
    · omega
    · have : m.natAbs.log2 < 27 := PySem.Flt.log2_lt_of (by decide) (by omega)
      omega
  omega
theorem sc_draw : FnScope ["dice", "many", "drawn", "found", "piece"] ["dice", "many"] (defScope st__law_draw) := ⟨rfl, rfl, rfl, by decide +kernel, rfl, by decide +kernel, by decide +kernel⟩
def spDraw : Sp := fun vs H Q _ => ∃ (d : Addr) (m : Int) (n : Nat), vs = [.ref d, .int m] ∧ Dice H d n ∧ n < 2 ^ 59 ∧ 1 ≤ m ∧ m < 134217728 ∧ ∀ (r : Int) (H' : Hp), 0 ≤ r → r < m → Dice H' d (n + 1) → Kept H H' d → Q (.int r) H'
theorem ok_draw (B : Bi mg) (D : Df K mg "_law_draw" st__law_draw ["dice", "many"]) (CM : Cal P w K mg base 1 "_law_mixed" ["seed", "spin", "at"] spMixed) : FnOk P w K mg base CX0 2 D.f D.fd ["dice", "many"] spDraw := by
  refine D.F.ok sc_draw (fun vs H Q E h => ?_) (fun cdv A outer s H vs Q E hr h => ?_)
  · obtain ⟨d, m, n, rfl, _⟩ := h
    rfl
  · obtain ⟨d, m, n, rfl, ⟨a, b, c, e, hd, hc, he⟩, hn, hm1, hm2, q⟩ := h
    refine ⟨_, pss_cons (ps_if (pt_cmpR op_gt (pe_ix ix_list (pv 0) pe_int (fun _ _ => rfl)) pe_int (nomark _))
        (pss_cons (ps_set (i := 2) sc_draw.nd rfl (.inl rfl) (pe_op op_mod (pe_callTy call_int1 (by rfl) B.int (by decide +kernel) (pa_cons (pe_ix ix_list (pv 0) pe_int (fun _ _ => rfl)) pa_nil)) (pv 1)))
        (pss_cons (ps_asg (pe_op op_fdiv (pe_ix ix_list (pv 0) pe_int (fun _ _ => rfl)) (pv 1)) (pg_sub (pv 0) pe_int set_list))
        (pss_one (ps_ret (pv 2))))) pss_nil)
      (pss_cons (ps_set (i := 3) sc_draw.nd rfl (.inl rfl) pe_int)
      (pss_cons (ps_for PassesOwn.never rfl (pi_range1 rfl B.range (pa_cons (pe_op op_add pe_int (pe_op op_fdiv (pe_bits (pv 1)) pe_int)) pa_nil)) (pg_name (i := 4) sc_draw.nd rfl (.inl rfl))
        (pss_cons (ps_asg (pe_op op_add (pe_ix ix_list (pv 0) pe_int (fun _ _ => rfl)) pe_int) (pg_sub (pv 0) pe_int set_list))
        (pss_one (ps_set (i := 3) sc_draw.nd rfl (.inl rfl) (pe_op op_add (pe_op op_mul (pv 3) pe_int) (pcall CM hr (by rfl) (pa_cons (pe_ix ix_list (pv 0) pe_int (fun _ _ => rfl)) (pa_cons (pe_ix ix_list (pv 0) pe_int (fun _ _ => rfl)) (pa_cons (pe_ix ix_list (pv 0) pe_int (fun _ _ => rfl)) pa_nil)))))))))
      (pss_one (ps_ret (pe_op op_mod (pe_callTy call_int1 (by rfl) B.int (by decide +kernel) (pa_cons (pv 3) pa_nil)) (pv 1)))))), ?_⟩
    have hS : SqL K H d [.int a, .int b, .int c, .int e] := .inl (.inl hd)
    refine ⟨_, rfl, d, _, 0, _, rfl, rfl, hS, atI_nat (j := 0) rfl, _, _, rfl, rfl, _, rfl, ite2 (fun _ => ?_) (fun _ => ?_)⟩
    · refine ⟨_, rfl, d, _, 0, _, rfl, rfl, hS, atI_nat (j := 0) rfl, .inl ⟨_, rfl, _, rfl, _, _, rfl, rfl, (by show 0 < m; omega), ?_⟩⟩
      refine ⟨_, rfl, d, _, 0, _, rfl, rfl, hS, atI_nat (j := 0) rfl, _, rfl, _, _, rfl, rfl, ⟨by omega, by omega⟩, _, rfl, d, _, 0, 0, rfl, rfl, hd, rfl, _, rfl, ?_⟩
      refine q _ _ (Int.emod_nonneg _ (by omega)) (Int.emod_lt_of_pos _ (by omega)) ⟨_, _, _, _, upd_same, ⟨hc.1, by omega⟩, he⟩ Kept.upd
    · refine ⟨_, rfl, _, rfl, _, _, rfl, rfl, ⟨by decide, by decide⟩, _, _, rfl, rfl, ?_⟩
      refine ⟨(1 : Int), congrArg (fun z => [V.int z]) (bits_small hm1 hm2), by decide, by decide, for_range (lo := 0) (n := 1) (fun i σ H2 => ∃ (f c' : Int) (y : Option V), σ = [some (.ref d), some (.int m), none, some (.int f), y] ∧ (0 ≤ c' ∧ c' ≤ n + i) ∧ H2 d = some (.lst [.int a, .int b, .int c', .int e]) ∧ Kept H H2 d)
        ⟨0, c, none, rfl, ⟨hc.1, by omega⟩, hd, fun _ _ _ z => z⟩ ?_ ?_⟩
      · rintro i σ H2 hi ⟨f, c', y, rfl, hc', hd2, hk⟩
        have hS2 : SqL K H2 d [.int a, .int b, .int c', .int e] := .inl (.inl hd2)
        refine ⟨_, rfl, d, _, 2, _, rfl, rfl, hS2, atI_nat (j := 2) rfl, _, _, rfl, rfl, _, rfl, d, _, 2, 2, rfl, rfl, hd2, rfl, ?_⟩
        have hS3 : SqL K (upd H2 d (.lst [.int a, .int b, .int (c' + 1), .int e])) d [.int a, .int b, .int (c' + 1), .int e] := .inl (.inl upd_same)
        refine ⟨_, rfl, _, _, rfl, rfl, .inr ⟨by decide, by decide⟩, _, rfl, d, _, 1, _, rfl, rfl, hS3, atI_nat (j := 1) rfl, _, rfl, d, _, 2, _, rfl, rfl, hS3, atI_nat (j := 2) rfl, _, rfl, d, _, 3, _, rfl, rfl, hS3, atI_nat (j := 3) rfl, ?_⟩
        refine ⟨_, _, _, rfl, ⟨by omega, by omega⟩, he, fun r h1 h2 => ⟨_, _, rfl, rfl, ?_⟩⟩
        exact ⟨_, _, _, rfl, ⟨by omega, by omega⟩, upd_same, hk.trans Kept.upd⟩
      · rintro σ H2 ⟨f, c', y, rfl, hc', hd2, hk⟩
        refine ⟨_, rfl, .inl ⟨_, rfl, _, rfl, _, _, rfl, rfl, (by show 0 < m; omega), ?_⟩⟩
        exact q _ _ (Int.emod_nonneg _ (by omega)) (Int.emod_lt_of_pos _ (by omega)) ⟨_, _, _, _, hd2, ⟨hc'.1, by omega⟩, he⟩ hk
end
end K4
set_option Elab.async false
set_option linter.all false
set_option maxRecDepth 100000
set_option maxHeartbeats 4000000
namespace K4
open PySem PySem.Spec PyProof.Rows L2 K4M
/-! ### values that are compared deeply -/
def Flat : V → Prop
  | .non => True
  | .bl _ => True
  | .int _ => True
  | .str _ => True
  | _ => False
def tn : V → String
  | .non => "NoneType"
  | .bl _ => "bool"
  | .int _ => "int"
  | _ => "str"
def isInt : V → Bool
  | .int _ => true
  | .bl _ => true
  | _ => false
def isBl : V → Bool
  | .bl _ => true
  | _ => false
def isStr : V → Bool
  | .str _ => true
  | _ => false
section
variable {K : PySem.W.Frag} {H : Hp} {x : V}
theorem Flat.ty (h : Flat x) : TyX K H x (.type (tn x)) := by
  cases x with
  | non => exact .base .non
  | bl b => exact .base (.bl b)
  | int i => exact .base (.int i)
  | str y => exact .base (.str y)
  | _ => exact h.elim
theorem Flat.no (h : Flat x) {c : String} (hc : c = "list" ∨ c = "tuple" ∨ c = "dict") : PySem.W.kitOne K (.type (tn x)) (.type c) = some false := by
  cases x with
  | non => rcases hc with rfl | rfl | rfl <;> exact kit_ty (a := "NoneType") (r := false) (by decide +kernel)
  | bl b => rcases hc with rfl | rfl | rfl <;> exact kit_ty (a := "bool") (r := false) (by decide +kernel)
  | int i => rcases hc with rfl | rfl | rfl <;> exact kit_ty (a := "int") (r := false) (by decide +kernel)
  | str y => rcases hc with rfl | rfl | rfl <;> exact kit_ty (a := "str") (r := false) (by decide +kernel)
  | _ => exact h.elim
theorem Flat.kInt (h : Flat x) : PySem.W.kitOne K (.type (tn x)) (.type "int") = some (isInt x) := by
  cases x with
  | non => exact kit_ty (a := "NoneType") (r := false) (by decide +kernel)
  | bl b => exact kit_ty (a := "bool") (r := true) (by decide +kernel)
  | int i => exact kit_ty (a := "int") (r := true) (by decide +kernel)
  | str y => exact kit_ty (a := "str") (r := false) (by decide +kernel)
  | _ => exact h.elim
theorem Flat.kStr (h : Flat x) : PySem.W.kitOne K (.type (tn x)) (.type "str") = some (isStr x) := by
  cases x with
  | non => exact kit_ty (a := "NoneType") (r := false) (by decide +kernel)
  | bl b => exact kit_ty (a := "bool") (r := false) (by decide +kernel)
  | int i => exact kit_ty (a := "int") (r := false) (by decide +kernel)
  | str y => exact kit_ty (a := "str") (r := true) (by decide +kernel)
  | _ => exact h.elim
theorem Flat.kBl (h : Flat x) : PySem.W.kitOne K (.type (tn x)) (.type "bool") = some (isBl x) := by
  cases x with
  | non => exact kit_ty (a := "NoneType") (r := false) (by decide +kernel)
  | bl b => exact kit_ty (a := "bool") (r := true) (by decide +kernel)
  | int i => exact kit_ty (a := "int") (r := false) (by decide +kernel)
  | str y => exact kit_ty (a := "str") (r := false) (by decide +kernel)
  | _ => exact h.elim
theorem Flat.scal (h : Flat x) : scal x x = true := by
  cases x with
  | non => rfl
  | bl b => rfl
  | int i => rfl
  | str y => rfl
  | _ => exact h.elim
theorem sql_ty {a : Addr} {xs : List V} (h : SqL K H a xs) : TyX K H (.ref a) (.type "list") := by
  rcases h with (h | ⟨o, h⟩) | ⟨o, its, n, h, hc, _⟩
  · exact .base (.lst h)
  · exact .base (.frz h)
  · exact .kList h hc
theorem sqt_ty {a : Addr} {xs : List V} (h : SqT K H a xs) : TyX K H (.ref a) (.type "tuple") := by
  rcases h with (h | ⟨o, h⟩) | ⟨o, its, n, h, hc, _⟩
  · exact .base (.tup h)
  · exact .fTuple h
  · exact .kTuple h hc
theorem Same.sqt {H' : Hp} {a : Addr} {xs : List V} (e : Same H H') (h : SqT K H a xs) : SqT K H' a xs := by
  rcases h with (h | ⟨o, h⟩) | h
  · exact .inl (.inl (e _ _ h))
  · exact .inl (.inr ⟨o, e _ _ h⟩)
  · exact .inr h
end
/-- x and y tell the same, n deep -/
def Eqv (K : PySem.W.Frag) (H : Hp) : Nat → V → V → Prop
  | 0, x, y => x = y ∧ Flat x
  | n + 1, x, y => (x = y ∧ Flat x) ∨ ∃ (a b : Addr) (xs ys : List V), x = .ref a ∧ y = .ref b ∧ xs.length ≤ 100000 ∧ xs.length = ys.length ∧ ((SqL K H a xs ∧ SqL K H b ys) ∨ (SqT K H a xs ∧ SqT K H b ys)) ∧
      ∀ (i : Nat) (u v : V), xs[i]? = some u → ys[i]? = some v → Eqv K H n u v
theorem Eqv.same {K : PySem.W.Frag} {H H' : Hp} (e : Same H H') : ∀ {n : Nat} {x y : V}, Eqv K H n x y → Eqv K H' n x y
  | 0, _, _, h => h
  | n + 1, x, y, h => by
    rcases h with h | ⟨a, b, xs, ys, rfl, rfl, h1, h2, h3, h4⟩
    · exact .inl h
    · refine .inr ⟨a, b, xs, ys, rfl, rfl, h1, h2, ?_, fun i u v hu hv => (h4 i u v hu hv).same e⟩
      rcases h3 with ⟨q1, q2⟩ | ⟨q1, q2⟩
      · exact .inl ⟨e.seq q1, e.seq q2⟩
      · exact .inr ⟨Same.sqt e q1, Same.sqt e q2⟩
theorem Eqv.flat {K : PySem.W.Frag} {H : Hp} {n : Nat} {x : V} (h : Flat x) : Eqv K H n x x := by
  cases n with
  | zero => exact ⟨rfl, h⟩
  | succ n => exact .inl ⟨rfl, h⟩
theorem Eqv.list {K : PySem.W.Frag} {H : Hp} {n : Nat} {a b : Addr} {xs : List V} (ha : SqL K H a xs) (hb : SqL K H b xs) (hl : xs.length ≤ 100000) (hf : ∀ x ∈ xs, Flat x) : Eqv K H (n + 1) (.ref a) (.ref b) :=
  .inr ⟨a, b, xs, xs, rfl, rfl, hl, rfl, .inl ⟨ha, hb⟩, fun i u v hu hv => by
    rw [hu] at hv
    cases hv
    exact Eqv.flat (hf u (List.mem_of_getElem? hu))⟩
theorem Eqv.tup {K : PySem.W.Frag} {H : Hp} {n : Nat} {a b : Addr} {xs : List V} (ha : SqT K H a xs) (hb : SqT K H b xs) (hl : xs.length ≤ 100000) (hf : ∀ x ∈ xs, Flat x) : Eqv K H (n + 1) (.ref a) (.ref b) :=
  .inr ⟨a, b, xs, xs, rfl, rfl, hl, rfl, .inr ⟨ha, hb⟩, fun i u v hu hv => by
    rw [hu] at hv
    cases hv
    exact Eqv.flat (hf u (List.mem_of_getElem? hu))⟩
theorem dec_self (x : V) : decide (x = x) = true := decide_eq_true rfl
/-! ### a comprehension over zip -/
theorem lc_zipL {K : PySem.W.Frag} {a b : Addr} {xs ys : List V} {g : TG} {tt : TT} {te : TE} {vs : List Nat} {σ : L2.St} {H1 : Hp} {D : Addr} {Qd : Hp → Prop} (hl : xs.length = ys.length) (Pv : Nat → Hp → Prop) (h0 : Pv 0 (upd H1 D (.lst []))) (hq : ∀ i H, Pv i H → SqL K H a xs ∧ SqL K H b ys)
    (hs : ∀ (i : Nat) (x y : V) (T : Addr) (H : Hp), xs[i]? = some x → ys[i]? = some y → Pv i H → H T = none → g (.ref T) (wipe σ vs) (upd H T (.tup [x, y])) fun σ2 H2 => wipe σ2 vs = wipe σ vs ∧ tt σ2 H2 fun c H3 =>
      if c = true then te σ2 H3 fun y H4 => ∃ acc, H4 D = some (.lst acc) ∧ acc.length < sizeLine ∧ Pv (i + 1) (upd H4 D (.lst (acc ++ [y]))) else Pv (i + 1) H3) (hd : ∀ H, Pv xs.length H → Qd H) :
    ∃ W : Nat → Nat → Hp → Prop, (∃ m, W 0 m (upd H1 D (.lst []))) ∧ ∀ i m H, W i m H →
      ((Itz K a b).stop i H ∧ Qd H) ∨ ((Itz K a b).go i H ∧ ∃ Nx : Hp → Prop, (∀ H', Nx H' → ∃ m', m' < m ∧ W (i + 1) m' H') ∧ ∀ x H', (Itz K a b).yld i H x H' → g x (wipe σ vs) H' fun σ2 H2 => wipe σ2 vs = wipe σ vs ∧ tt σ2 H2 fun c H3 =>
        if c = true then te σ2 H3 fun y H4 => ∃ acc, H4 D = some (.lst acc) ∧ acc.length < sizeLine ∧ Nx (upd H4 D (.lst (acc ++ [y]))) else Nx H3) := by
  refine ⟨fun i m H => m = xs.length - i ∧ i ≤ xs.length ∧ Pv i H, ⟨xs.length, rfl, Nat.zero_le _, h0⟩, ?_⟩
  rintro i m H ⟨rfl, hi, p⟩
  obtain ⟨qx, qy⟩ := hq i H p
  by_cases hlt : i < xs.length
  · have hx : xs[i]? = some xs[i] := List.getElem?_eq_getElem hlt
    have hlt2 : i < ys.length := by omega
    have hy : ys[i]? = some ys[i] := List.getElem?_eq_getElem hlt2
    refine .inr ⟨⟨xs, ys, _, _, qx, qy, hx, hy⟩, Pv (i + 1), fun H' p' => ⟨xs.length - (i + 1), by omega, rfl, hlt, p'⟩, fun v H' y => ?_⟩
    obtain ⟨T, x', y', rfl, hT, rfl, f1, f2⟩ := y
    exact hs i x' y' T H (f1 xs qx) (f2 ys qy) p hT
  · have e : i = xs.length := by omega
    subst e
    exact .inl ⟨⟨xs, ys, qx, qy, Or.inl (Nat.le_refl _)⟩, hd H p⟩
theorem lc_zipT {K : PySem.W.Frag} {a b : Addr} {xs ys : List V} {g : TG} {tt : TT} {te : TE} {vs : List Nat} {σ : L2.St} {H1 : Hp} {D : Addr} {Qd : Hp → Prop} (hl : xs.length = ys.length) (Pv : Nat → Hp → Prop) (h0 : Pv 0 (upd H1 D (.lst []))) (hq : ∀ i H, Pv i H → SqT K H a xs ∧ SqT K H b ys)
    (hs : ∀ (i : Nat) (x y : V) (T : Addr) (H : Hp), xs[i]? = some x → ys[i]? = some y → Pv i H → H T = none → g (.ref T) (wipe σ vs) (upd H T (.tup [x, y])) fun σ2 H2 => wipe σ2 vs = wipe σ vs ∧ tt σ2 H2 fun c H3 =>
      if c = true then te σ2 H3 fun y H4 => ∃ acc, H4 D = some (.lst acc) ∧ acc.length < sizeLine ∧ Pv (i + 1) (upd H4 D (.lst (acc ++ [y]))) else Pv (i + 1) H3) (hd : ∀ H, Pv xs.length H → Qd H) :
    ∃ W : Nat → Nat → Hp → Prop, (∃ m, W 0 m (upd H1 D (.lst []))) ∧ ∀ i m H, W i m H →
      ((RZ.ItzT K a b).stop i H ∧ Qd H) ∨ ((RZ.ItzT K a b).go i H ∧ ∃ Nx : Hp → Prop, (∀ H', Nx H' → ∃ m', m' < m ∧ W (i + 1) m' H') ∧ ∀ x H', (RZ.ItzT K a b).yld i H x H' → g x (wipe σ vs) H' fun σ2 H2 => wipe σ2 vs = wipe σ vs ∧ tt σ2 H2 fun c H3 =>
        if c = true then te σ2 H3 fun y H4 => ∃ acc, H4 D = some (.lst acc) ∧ acc.length < sizeLine ∧ Nx (upd H4 D (.lst (acc ++ [y]))) else Nx H3) := by
  refine ⟨fun i m H => m = xs.length - i ∧ i ≤ xs.length ∧ Pv i H, ⟨xs.length, rfl, Nat.zero_le _, h0⟩, ?_⟩
  rintro i m H ⟨rfl, hi, p⟩
  obtain ⟨qx, qy⟩ := hq i H p
  by_cases hlt : i < xs.length
  · have hx : xs[i]? = some xs[i] := List.getElem?_eq_getElem hlt
    have hlt2 : i < ys.length := by omega
    have hy : ys[i]? = some ys[i] := List.getElem?_eq_getElem hlt2
    refine .inr ⟨⟨xs, ys, _, _, qx, qy, hx, hy⟩, Pv (i + 1), fun H' p' => ⟨xs.length - (i + 1), by omega, rfl, hlt, p'⟩, fun v H' y => ?_⟩
    obtain ⟨T, x', y', rfl, hT, rfl, f1, f2⟩ := y
    exact hs i x' y' T H (f1 xs qx) (f2 ys qy) p hT
  · have e : i = xs.length := by omega
    subst e
    exact .inl ⟨⟨xs, ys, qx, qy, Or.inl (Nat.le_refl _)⟩, hd H p⟩
section
variable {P : Program} {w : World} {K : PySem.W.Frag} {mg : Str → Option Value} {base : Heap}
/-! ### exact -/
theorem sc_exact : FnScope ["mine", "theirs", "is_like", "a", "b", "key"] ["mine", "theirs"] (defScope st__law_exact) := ⟨rfl, rfl, rfl, by decide +kernel, rfl, by decide +kernel, by decide +kernel⟩
def spExact (K : PySem.W.Frag) (n : Nat) : Sp := fun vs H Q _ => ∃ x y : V, vs = [x, y] ∧ Eqv K H n x y ∧ ∀ H', Same H H' → Q (.bl true) H'
theorem lcls (a b : String) : Paired ClsV [.ty a, .ty b] [.type a, .type b] := .cons (.ty _) (.cons (.ty _) .nil)
theorem lcls3 (a b c : String) : Paired ClsV [.ty a, .ty b, .ty c] [.type a, .type b, .type c] := .cons (.ty _) (.cons (.ty _) (.cons (.ty _) .nil))
theorem exact_flat (B : Bi mg) (D : Df K mg "_law_exact" st__law_exact ["mine", "theirs"]) {k : Nat} {cdv : Value} {A : Around} {outer : List Env} {s : Shared} {H : Hp} {x : V} {Q : VK} {E : XK} (hf : Flat x) (q : ∀ H', Same H H' → Q (.bl true) H') :
    ∃ t, PSs (cxOf CX0 P w K mg base ["mine", "theirs", "is_like", "a", "b", "key"] "_law_exact" (defScope st__law_exact) D.f cdv A outer s H E).nox (defBody st__law_exact) t ∧ t { nx := fun _ H' => Q .non H', rt := Q } (start ["mine", "theirs", "is_like", "a", "b", "key"] [x, x]) H := by
  refine ⟨_, pss_cons (ps_if (pt_val (pe_callB call_isiT (by rfl) B.isi (by decide +kernel) (pa_cons (pv 0) (pa_cons (pe_tup (pa_cons (pe_bltn (v := .ty "list") (by rfl) B.list (by decide +kernel) rfl) (pa_cons (pe_bltn (v := .ty "tuple") (by rfl) B.tuple (by decide +kernel) rfl) pa_nil))) pa_nil)))) pss_never pss_nil)
    (pss_cons (ps_if (pt_val (pe_callB call_isi (by rfl) B.isi (by decide +kernel) (pa_cons (pv 0) (pa_cons (pe_bltn (v := .ty "dict") (by rfl) B.dict (by decide +kernel) rfl) pa_nil)))) pss_never pss_nil)
    (pss_cons (ps_if (PW.pt (pw_or (pt_val (pe_callB call_isiT (by rfl) B.isi (by decide +kernel) (pa_cons (pv 1) (pa_cons (pe_tup (pa_cons (pe_bltn (v := .ty "list") (by rfl) B.list (by decide +kernel) rfl) (pa_cons (pe_bltn (v := .ty "tuple") (by rfl) B.tuple (by decide +kernel) rfl) (pa_cons (pe_bltn (v := .ty "dict") (by rfl) B.dict (by decide +kernel) rfl) pa_nil)))) pa_nil))))
        (pw_or1 (pt_cmpR op_ne (pe_cmpR op_isN (pv 0) pe_non (nomark _)) (pe_cmpR op_isN (pv 1) pe_non (nomark _)) (nomark _))))) pss_never pss_nil)
    (pss_cons (ps_set (i := 2) sc_exact.nd rfl (.inl rfl) (pe_and (pe_cmpR op_eq (pe_callB call_isi (by rfl) B.isi (by decide +kernel) (pa_cons (pv 0) (pa_cons (pe_bltn (v := .ty "int") (by rfl) B.int (by decide +kernel) rfl) pa_nil))) (pe_callB call_isi (by rfl) B.isi (by decide +kernel) (pa_cons (pv 1) (pa_cons (pe_bltn (v := .ty "int") (by rfl) B.int (by decide +kernel) rfl) pa_nil))) (nomark _))
        (pe_one (pe_cmpR op_eq (pe_callB call_isi (by rfl) B.isi (by decide +kernel) (pa_cons (pv 0) (pa_cons (pe_bltn (v := .ty "str") (by rfl) B.str (by decide +kernel) rfl) pa_nil))) (pe_callB call_isi (by rfl) B.isi (by decide +kernel) (pa_cons (pv 1) (pa_cons (pe_bltn (v := .ty "str") (by rfl) B.str (by decide +kernel) rfl) pa_nil))) (nomark _)))))
    (pss_one (ps_ret (pe_and (pv 2) (pe_and (pe_cmpR op_eq (pe_callB call_isi (by rfl) B.isi (by decide +kernel) (pa_cons (pv 0) (pa_cons (pe_bltn (v := .ty "bool") (by rfl) B.bool (by decide +kernel) rfl) pa_nil))) (pe_callB call_isi (by rfl) B.isi (by decide +kernel) (pa_cons (pv 1) (pa_cons (pe_bltn (v := .ty "bool") (by rfl) B.bool (by decide +kernel) rfl) pa_nil))) (nomark _))
        (pe_one (pe_cmpR op_eq (pv 0) (pv 1) (nomark _)))))))))), ?_⟩
  refine ⟨x, rfl, (by decide), fun p hp => ?_⟩
  refine ⟨x, p, _, _, _, false, rfl, upd_same, lcls _ _, hf.ty, kitAny_cons (hf.no (.inl rfl)) (fun _ => kitAny_cons (hf.no (.inr (.inl rfl))) (fun _ => kitAny_nil) (fun z => nomatch z)) (fun z => nomatch z), _, rfl, iteF ?_⟩
  refine ⟨x, rfl, x, _, _, _, false, rfl, .ty _, hf.ty, hf.no (.inr (.inr rfl)), _, rfl, iteF ?_⟩
  refine ⟨x, rfl, (by decide), fun p2 hp2 => ?_⟩
  refine ⟨x, p2, _, _, _, false, rfl, upd_same, lcls3 _ _ _, hf.ty, kitAny_cons (hf.no (.inl rfl)) (fun _ => kitAny_cons (hf.no (.inr (.inl rfl))) (fun _ => kitAny_cons (hf.no (.inr (.inr rfl))) (fun _ => kitAny_nil) (fun z => nomatch z)) (fun z => nomatch z)) (fun z => nomatch z), _, rfl, iteF ?_⟩
  refine ⟨x, rfl, rfl, x, rfl, rfl, rfl, _, rfl, ?_⟩
  rw [dec_self]
  refine iteF ?_
  refine ⟨x, rfl, x, _, _, _, isInt x, rfl, .ty _, hf.ty, hf.kInt, x, rfl, x, _, _, _, isInt x, rfl, .ty _, hf.ty, hf.kInt, rfl, _, rfl, ?_⟩
  rw [dec_self]
  refine iteT ?_
  refine ⟨x, rfl, x, _, _, _, isStr x, rfl, .ty _, hf.ty, hf.kStr, x, rfl, x, _, _, _, isStr x, rfl, .ty _, hf.ty, hf.kStr, rfl, ?_⟩
  rw [dec_self]
  refine ⟨_, rfl, _, rfl, iteT ?_⟩
  refine ⟨x, rfl, x, _, _, _, isBl x, rfl, .ty _, hf.ty, hf.kBl, x, rfl, x, _, _, _, isBl x, rfl, .ty _, hf.ty, hf.kBl, rfl, _, rfl, ?_⟩
  rw [dec_self]
  refine iteT ?_
  refine ⟨x, rfl, x, rfl, hf.scal, ?_⟩
  rw [dec_self]
  exact q _ ((same_upd hp).trans (same_upd hp2))
end
end K4
set_option Elab.async false
set_option linter.all false
set_option maxRecDepth 100000
set_option maxHeartbeats 4000000
namespace K4
open PySem PySem.Spec PyProof.Rows L2 K4M
theorem kit_ll {K : PySem.W.Frag} {a : String} (h : kitB a a = some true) : PySem.W.kitOne K (.type a) (.type a) = some true := kit_ty h
theorem Kept.seq {K : PySem.W.Frag} {H H' : Hp} {d a : Addr} {xs : List V} (e : Kept H H' d) (hne : a ≠ d) (h : SqL K H a xs) : SqL K H' a xs := by
  rcases h with (h | ⟨o, h⟩) | h
  · exact .inl (.inl (e _ _ hne h))
  · exact .inl (.inr ⟨o, e _ _ hne h⟩)
  · exact .inr h
theorem Same.dice {H H' : Hp} {d : Addr} {n : Nat} (e : Same H H') (h : Dice H d n) : Dice H' d n := by
  obtain ⟨a, b, c, x, hd, r⟩ := h
  exact ⟨a, b, c, x, e _ _ hd, r⟩
theorem Dice.more {H : Hp} {d : Addr} {n m : Nat} (h : Dice H d n) (hm : n ≤ m) : Dice H d m := by
  obtain ⟨a, b, c, x, hd, r, z⟩ := h
  exact ⟨a, b, c, x, hd, ⟨r.1, by omega⟩, z⟩
theorem Dice.some {H : Hp} {d : Addr} {n : Nat} (h : Dice H d n) : ∃ o, H d = some o := by
  obtain ⟨a, b, c, x, hd, _⟩ := h
  exact ⟨_, hd⟩
theorem cutV_map {α : Type} (f : α → V) (ns : List α) (lo hi : Option Int) : ∃ ms : List α, cutV (ns.map f) lo hi = ms.map f := by
  unfold cutV
  rw [← List.map_drop, ← List.map_take]
  exact ⟨_, rfl⟩
section
variable {P : Program} {w : World} {K : PySem.W.Frag} {mg : Str → Option Value} {base : Heap}
theorem ok_exact (B : Bi mg) (D : Df K mg "_law_exact" st__law_exact ["mine", "theirs"]) : ∀ n : Nat, FnOk P w K mg base CX0 (n + 1) D.f D.fd ["mine", "theirs"] (spExact K n)
  | 0 => by
    refine D.F.ok sc_exact (fun vs H Q E h => ?_) (fun cdv A outer s H vs Q E hr h => ?_)
    · obtain ⟨x, y, rfl, _⟩ := h
      rfl
    · obtain ⟨x, y, rfl, ⟨rfl, hf⟩, q⟩ := h
      exact exact_flat B D (k := 0) hf q
  | n + 1 => by
    have C : Cal P w K mg base (n + 1) "_law_exact" ["mine", "theirs"] (spExact K n) := D.cal (ok_exact B D n)
    refine D.F.ok sc_exact (fun vs H Q E h => ?_) (fun cdv A outer s H vs Q E hr h => ?_)
    · obtain ⟨x, y, rfl, _⟩ := h
      rfl
    · obtain ⟨x, y, rfl, h, q⟩ := h
      rcases h with ⟨rfl, hf⟩ | ⟨a, b, xs, ys, rfl, rfl, h1, h2, h3, h4⟩
      · exact exact_flat B D (k := n + 1) hf q
      · refine ⟨_, pss_cons (ps_if (pt_val (pe_callB call_isiT (by rfl) B.isi (by decide +kernel) (pa_cons (pv 0) (pa_cons (pe_tup (pa_cons (pe_bltn (v := .ty "list") (by rfl) B.list (by decide +kernel) rfl) (pa_cons (pe_bltn (v := .ty "tuple") (by rfl) B.tuple (by decide +kernel) rfl) pa_nil))) pa_nil))))
            (pss_cons (ps_set (i := 2) sc_exact.nd rfl (.inl rfl) (pe_and (pe_cmpR op_eq (pe_callB call_isi (by rfl) B.isi (by decide +kernel) (pa_cons (pv 1) (pa_cons (pe_bltn (v := .ty "list") (by rfl) B.list (by decide +kernel) rfl) pa_nil))) (pe_callB call_isi (by rfl) B.isi (by decide +kernel) (pa_cons (pv 0) (pa_cons (pe_bltn (v := .ty "list") (by rfl) B.list (by decide +kernel) rfl) pa_nil))) (nomark _))
              (pe_one (pe_cmpR op_eq (pe_callB call_isi (by rfl) B.isi (by decide +kernel) (pa_cons (pv 1) (pa_cons (pe_bltn (v := .ty "tuple") (by rfl) B.tuple (by decide +kernel) rfl) pa_nil))) (pe_callB call_isi (by rfl) B.isi (by decide +kernel) (pa_cons (pv 0) (pa_cons (pe_bltn (v := .ty "tuple") (by rfl) B.tuple (by decide +kernel) rfl) pa_nil))) (nomark _)))))
            (pss_one (ps_ret (pe_and (pv 2) (pe_and (pe_cmpR op_eq (pe_callB call_len_seq (by rfl) B.len PySem.boot_len (pa_cons (pv 0) pa_nil)) (pe_callB call_len_seq (by rfl) B.len PySem.boot_len (pa_cons (pv 1) pa_nil)) (nomark _))
              (pe_one (pe_callB (cr_all rfl) (by rfl) B.all (by decide +kernel) (pa_cons (pe_lc (own := [("a", 3), ("b", 4)]) (g := gTup K 2 (gCons (gName 3) (gCons (gName 4) gNil))) (tt := tYes) (by rfl) sc_exact.nd
                (RZ.pi_zipA (by rfl) B.zip (pa_cons (pv 0) (pa_cons (pv 1) pa_nil))) (blkOk_by (N := ["mine", "theirs", "is_like", "a", "b", "key"]) (sc := defScope st__law_exact) (by decide +kernel))
                (fun _ _ _ _ _ => pg_tup rfl (pgs_cons (pg_name (i := 3) sc_exact.nd rfl (.inl rfl)) (pgs_cons (pg_name (i := 4) sc_exact.nd rfl (.inl rfl)) pgs_nil)))
                (fun _ _ _ _ _ => pts_nil)
                (fun _ _ _ _ _ => pcall C hr (by rfl) (pa_cons (pv 3) (pa_cons (pv 4) pa_nil)))) pa_nil)))))))) pss_nil)
          pss_never, ?_⟩
        have eb : ∃ bL bT : Bool, ∃ T : Value, ∀ H', Same H H' → TyX K H' (.ref a) T ∧ TyX K H' (.ref b) T ∧ PySem.W.kitOne K T (.type "list") = some bL ∧ PySem.W.kitOne K T (.type "tuple") = some bT ∧ PySem.W.kitAny K T [.type "list", .type "tuple"] = some true := by
          rcases h3 with ⟨q1, q2⟩ | ⟨q1, q2⟩
          · refine ⟨true, false, .type "list", fun H' sm => ⟨sql_ty (sm.seq q1), sql_ty (sm.seq q2), kit_ty (by decide +kernel), kit_ty (by decide +kernel), kitAny_cons (b := true) (kit_ty (by decide +kernel)) (fun z => nomatch z) (fun _ => rfl)⟩⟩
          · refine ⟨false, true, .type "tuple", fun H' sm => ⟨sqt_ty (Same.sqt sm q1), sqt_ty (Same.sqt sm q2), kit_ty (by decide +kernel), kit_ty (by decide +kernel), kitAny_cons (b := false) (kit_ty (by decide +kernel)) (fun _ => kitAny_cons (b := true) (kit_ty (by decide +kernel)) (fun z => nomatch z) (fun _ => rfl)) (fun z => nomatch z)⟩⟩
        obtain ⟨bL, bT, T, hT⟩ := eb
        refine ⟨.ref a, rfl, (by decide), fun p hp => ?_⟩
        have s1 : Same H (upd H p (.tup [.ty "list", .ty "tuple"])) := same_upd hp
        obtain ⟨ta, tb, kL, kT, kA⟩ := hT _ s1
        refine ⟨.ref a, p, _, T, _, true, rfl, upd_same, lcls _ _, ta, kA, _, rfl, iteT ?_⟩
        refine ⟨.ref b, rfl, .ref b, _, T, _, bL, rfl, .ty _, tb, kL, .ref a, rfl, .ref a, _, T, _, bL, rfl, .ty _, ta, kL, rfl, _, rfl, ?_⟩
        rw [dec_self]
        refine iteT ?_
        refine ⟨.ref b, rfl, .ref b, _, T, _, bT, rfl, .ty _, tb, kT, .ref a, rfl, .ref a, _, T, _, bT, rfl, .ty _, ta, kT, rfl, ?_⟩
        rw [dec_self]
        refine ⟨_, rfl, _, rfl, iteT ?_⟩
        have hq : ∀ H', Same H H' → (SqL K H' a xs ∨ SqT K H' a xs) ∧ (SqL K H' b ys ∨ SqT K H' b ys) := fun H' sm => by
          rcases h3 with ⟨q1, q2⟩ | ⟨q1, q2⟩
          · exact ⟨.inl (sm.seq q1), .inl (sm.seq q2)⟩
          · exact ⟨.inr (Same.sqt sm q1), .inr (Same.sqt sm q2)⟩
        refine ⟨.ref a, rfl, a, xs, rfl, (hq _ s1).1, .ref b, rfl, b, ys, rfl, (hq _ s1).2, rfl, _, rfl, ?_⟩
        rw [← h2, dec_self]
        refine iteT ?_
        have key : ∀ {H2 : Hp} {DD : Addr}, Same H H2 → H2 DD = some (.lst ((List.replicate xs.length true).map V.bl)) → rAll K [.ref DD] H2 fun v H3 => Q v H3 := fun {H2 DD} sm hD => by
          refine ⟨DD, _, rfl, .inl (.inl hD), ?_⟩
          rw [show (List.replicate xs.length true).all id = true by simp]
          exact q _ sm
        have turn : ∀ (DD : Addr) (i : Nat) (u v : V) (T : Addr) (H3 : Hp) , H DD = none → xs[i]? = some u → ys[i]? = some v → (Same H H3 ∧ H3 DD = some (.lst ((List.replicate i true).map V.bl))) → H3 T = none →
            spExact K n [u, v] (upd H3 T (.tup [u, v])) (fun y H4 => ∃ acc, H4 DD = some (.lst acc) ∧ acc.length < sizeLine ∧ (Same H (upd H4 DD (.lst (acc ++ [y]))) ∧ (upd H4 DD (.lst (acc ++ [y]))) DD = some (.lst ((List.replicate (i + 1) true).map V.bl)))) E0 := fun DD i u v T H3 hDn hu hv ⟨sm, hD⟩ hTn => by
          have sT : Same H3 (upd H3 T (.tup [u, v])) := same_upd hTn
          refine ⟨u, v, rfl, (h4 i u v hu hv).same (sm.trans sT), fun H4 s4 => ?_⟩
          have hi : i < xs.length := (List.getElem?_eq_some_iff.mp hu).1
          refine ⟨_, s4 _ _ (sT _ _ hD), ?_, fun c o e => ?_, ?_⟩
          · rw [List.length_map, List.length_replicate]
            have e : sizeLine = 16777216 := by decide
            omega
          · have hc : c ≠ DD := ne_of_none e hDn
            rw [upd_ne hc]
            exact s4 _ _ (sT _ _ (sm _ _ e))
          · rw [upd_same, List.replicate_succ', List.map_append]
            rfl
        refine ⟨.ref a, rfl, .ref b, rfl, a, b, xs, ys, rfl, ?_⟩
        rcases h3 with ⟨q1, q2⟩ | ⟨q1, q2⟩
        · refine .inl ⟨s1.seq q1, s1.seq q2, fun DD hD => ?_⟩
          have hDn : H DD = none := s1.free hD
          refine lc_zipL h2 (fun i H3 => Same H H3 ∧ H3 DD = some (.lst ((List.replicate i true).map V.bl))) ⟨s1.trans (same_upd hD), upd_same⟩ (fun i H3 z => ⟨z.1.seq q1, z.1.seq q2⟩) (fun i u v T H3 hu hv z hTn => ?_) (fun H3 z => key z.1 z.2)
          refine ⟨T, [u, v], rfl, .inl (.inl upd_same), rfl, u, [v], rfl, v, [], rfl, rfl, rfl, ?_⟩
          exact ⟨u, rfl, v, rfl, turn DD i u v T H3 hDn hu hv z hTn⟩
        · refine .inr ⟨Same.sqt s1 q1, Same.sqt s1 q2, fun DD hD => ?_⟩
          have hDn : H DD = none := s1.free hD
          refine lc_zipT h2 (fun i H3 => Same H H3 ∧ H3 DD = some (.lst ((List.replicate i true).map V.bl))) ⟨s1.trans (same_upd hD), upd_same⟩ (fun i H3 z => ⟨Same.sqt z.1 q1, Same.sqt z.1 q2⟩) (fun i u v T H3 hu hv z hTn => ?_) (fun H3 z => key z.1 z.2)
          refine ⟨T, [u, v], rfl, .inl (.inl upd_same), rfl, u, [v], rfl, v, [], rfl, rfl, rfl, ?_⟩
          exact ⟨u, rfl, v, rfl, turn DD i u v T H3 hDn hu hv z hTn⟩
/-! ### one of some -/
theorem sc_one_of : FnScope ["dice", "some"] ["dice", "some"] (defScope st__law_one_of) := ⟨rfl, rfl, rfl, by decide +kernel, rfl, by decide +kernel, by decide +kernel⟩
def spOne (K : PySem.W.Frag) : Sp := fun vs H Q _ => ∃ (d l : Addr) (n : Nat) (xs : List V), vs = [.ref d, .ref l] ∧ Dice H d n ∧ n < 2 ^ 59 ∧ l ≠ d ∧ SqL K H l xs ∧ 0 < xs.length ∧ xs.length < 100000 ∧ ∀ (i : Nat) (x : V) (H' : Hp), xs[i]? = some x → Dice H' d (n + 1) → Kept H H' d → Q x H'
theorem ok_one_of (B : Bi mg) (D : Df K mg "_law_one_of" st__law_one_of ["dice", "some"]) (CD : Cal P w K mg base 2 "_law_draw" ["dice", "many"] spDraw) : FnOk P w K mg base CX0 3 D.f D.fd ["dice", "some"] (spOne K) := by
  refine D.F.ok sc_one_of (fun vs H Q E h => ?_) (fun cdv A outer s H vs Q E hr h => ?_)
  · obtain ⟨d, l, n, xs, rfl, _⟩ := h
    rfl
  · obtain ⟨d, l, n, xs, rfl, hd, hn, hne, hl, h0, h1, q⟩ := h
    refine ⟨_, pss_one (ps_ret (pe_ix ix_list (pv 1) (pcall CD hr (by rfl) (pa_cons (pv 0) (pa_cons (pe_callB call_len_seq (by rfl) B.len PySem.boot_len (pa_cons (pv 1) pa_nil)) pa_nil))) (fun _ _ => rfl))), ?_⟩
    refine ⟨_, rfl, _, rfl, _, rfl, l, xs, rfl, .inl hl, d, _, n, rfl, hd, hn, by omega, by omega, fun r H' r0 r1 hD hk => ?_⟩
    have hi : r.toNat < xs.length := by omega
    have er : (r : Int) = ((r.toNat : Nat) : Int) := by omega
    refine ⟨l, xs, r, xs[r.toNat], rfl, rfl, hk.seq hne hl, ?_, ?_⟩
    · have z := atI_nat (List.getElem?_eq_getElem hi)
      rw [← er] at z
      exact z
    · exact q r.toNat _ _ (List.getElem?_eq_getElem hi) hD hk
/-! ### a dice -/
theorem sc_dice : FnScope ["script", "at", "seed"] ["script", "at"] (defScope st__law_dice) := ⟨rfl, rfl, rfl, by decide +kernel, rfl, by decide +kernel, by decide +kernel⟩
def spDice (K : PySem.W.Frag) : Sp := fun vs H Q _ => ∃ (a : Addr) (ns : List Int) (e : Int), vs = [.ref a, .int e] ∧ SqL K H a (ns.map V.int) ∧ 0 ≤ e ∧ e < 1000 ∧ ∀ (p : Addr) (H' : Hp), H p = none → Same H H' → Dice H' p 0 → Q (.ref p) H'
theorem ok_dice (B : Bi mg) (D : Df K mg "_law_dice" st__law_dice ["script", "at"]) : FnOk P w K mg base CX0 1 D.f D.fd ["script", "at"] (spDice K) := by
  refine D.F.ok sc_dice (fun vs H Q E h => ?_) (fun cdv A outer s H vs Q E hr h => ?_)
  · obtain ⟨a, ns, e, rfl, _⟩ := h
    rfl
  · obtain ⟨a, ns, e, rfl, hS, he0, he1, q⟩ := h
    refine ⟨_, pss_cons (ps_set (i := 2) sc_dice.nd rfl (.inl rfl) (pe_callB (cr_sum rfl) (by rfl) B.sum (by decide +kernel) (pa_cons (pe_slice sl_list (pv 0) (po_some (pv 1)) (po_some (pe_op op_add (pv 1) pe_int))) pa_nil)))
      (pss_one (ps_ret (pe_lst (pa_cons (pe_op op_mod (pe_callTy call_int1 (by rfl) B.int (by decide +kernel) (pa_cons (pe_callB (call_max2 rfl) (by rfl) B.max (by decide +kernel) (pa_cons (pe_op op_sub (pv 2) (pe_op op_pow pe_int pe_int)) (pa_cons pe_int pa_nil))) pa_nil)) (pe_op op_powW (pe_op op_pow pe_int pe_int) pe_int))
        (pa_cons (pe_op op_mod (pe_callTy call_int1 (by rfl) B.int (by decide +kernel) (pa_cons (pv 2) pa_nil)) pe_int) (pa_cons pe_int (pa_cons (pv 1) pa_nil))))))), ?_⟩
    refine ⟨_, rfl, _, rfl, _, rfl, _, rfl, _, _, rfl, rfl, _, rfl, a, _, rfl, hS, fun p hp => ?_⟩
    obtain ⟨ms, em⟩ := cutV_map V.int ns (some e) (some (e + 1))
    refine ⟨p, ms, rfl, .inl (.inl ?_), ?_⟩
    · rw [upd_same, ← em]
    refine ⟨_, rfl, _, _, rfl, rfl, ⟨by decide, by decide, by decide⟩, _, _, rfl, rfl, _, _, rfl, .inl ⟨_, rfl, _, _, rfl, rfl, ⟨by decide, by decide, by decide⟩, _, _, rfl, rfl, ⟨by decide, by decide +kernel⟩, _, _, rfl, rfl, (by show (0 : Int) < ((10 : Int) ^ (60 : Int).toNat) ^ (8 : Int).toNat; decide +kernel), ?_⟩⟩
    refine ⟨_, rfl, .inl ⟨_, rfl, _, _, rfl, rfl, (by show (0 : Int) < 2147483629; decide), _, rfl, (by show 4 ≤ sizeLine; decide), fun p2 hp2 => ?_⟩⟩
    have s1 : Same H (upd H p (.lst (cutV (ns.map V.int) (some e) (some (e + 1))))) := same_upd hp
    exact q p2 _ (s1.free hp2) (s1.trans (same_upd hp2)) ⟨_, _, _, _, upd_same, ⟨Int.le_refl _, Int.le_refl _⟩, by omega⟩
end
end K4
set_option Elab.async false
set_option linter.all false
set_option maxRecDepth 100000
set_option maxHeartbeats 4000000
namespace K4
open PySem PySem.Spec PyProof.Rows L2 K4M
section
variable {P : Program} {w : World} {K : PySem.W.Frag} {mg : Str → Option Value} {base : Heap}
theorem sc_dices : FnScope ["script", "few", "at"] ["script", "few"] (defScope st__law_dices) := ⟨rfl, rfl, rfl, by decide +kernel, rfl, by decide +kernel, by decide +kernel⟩
def spDices (K : PySem.W.Frag) : Sp := fun vs H Q _ => ∃ (a : Addr) (ns : List Int) (few : Int), vs = [.ref a, .int few] ∧ SqL K H a (ns.map V.int) ∧ few ≤ 10 ∧
  ∀ (L : Addr) (ds : List Addr) (H' : Hp), H L = none → Same H H' → H' L = some (.lst (ds.map V.ref)) → ds.length ≤ 10 → (∀ d ∈ ds, Dice H' d 0 ∧ H d = none) → ds.Nodup → Q (.ref L) H'
theorem ok_dices (B : Bi mg) (D : Df K mg "_law_dices" st__law_dices ["script", "few"]) (CD : Cal P w K mg base 1 "_law_dice" ["script", "at"] (spDice K)) : FnOk P w K mg base CX0 2 D.f D.fd ["script", "few"] (spDices K) := by
  refine D.F.ok sc_dices (fun vs H Q E h => ?_) (fun cdv A outer s H vs Q E hr h => ?_)
  · obtain ⟨a, ns, few, rfl, _⟩ := h
    rfl
  · obtain ⟨a, ns, few, rfl, hS, hf, q⟩ := h
    refine ⟨_, pss_one (ps_ret (pe_lc (own := [("at", 2)]) (g := gName 2) (tt := tYes) rfl sc_dices.nd
      (pi_range1 rfl B.range (pa_cons (pe_callB (call_max2 rfl) (by rfl) B.max (by decide +kernel) (pa_cons pe_int (pa_cons (pe_callB (call_min2 rfl) (by rfl) B.min (by decide +kernel) (pa_cons (pv 1) (pa_cons (pe_callB call_len_seq (by rfl) B.len PySem.boot_len (pa_cons (pv 0) pa_nil)) pa_nil))) pa_nil))) pa_nil))
      (blkOk_by (N := ["script", "few", "at"]) (sc := defScope st__law_dices) (by decide +kernel))
      (fun _ _ _ _ _ => pg_name (i := 2) sc_dices.nd rfl (.inl rfl))
      (fun _ _ _ _ _ => pts_nil)
      (fun _ _ _ _ _ => pcall CD hr (by rfl) (pa_cons (pv 0) (pa_cons (pv 2) pa_nil))))), ?_⟩
    refine ⟨_, rfl, .ref a, rfl, a, _, rfl, .inl hS, _, _, rfl, _, _, rfl, _, rfl, by split <;> (try split) <;> omega, by split <;> (try split) <;> omega, fun DD hD => ?_⟩
    have hc : ∀ c : Int, c ≤ 10 → c.toNat ≤ 10 := fun c h => by omega
    refine lc_range (lo := 0) (fun i H3 => ∃ ds : List Addr, ds.length = i ∧ Same H H3 ∧ H3 DD = some (.lst (ds.map V.ref)) ∧ (∀ d ∈ ds, Dice H3 d 0 ∧ H d = none) ∧ ds.Nodup)
      ⟨[], rfl, same_upd hD, upd_same, (fun _ h => by cases h), List.nodup_nil⟩ ?_ ?_
    · rintro i H3 hi ⟨ds, hl, sm, hDD, hds, nd⟩
      have hi10 : i < 10 := Nat.lt_of_lt_of_le hi (hc _ (by split <;> (try split) <;> omega))
      refine ⟨rfl, .ref a, rfl, .int (0 + i), rfl, a, ns, _, rfl, sm.seq hS, by omega, by omega, fun p H4 hp s4 hdi => ?_⟩
      have e16 : sizeLine = 16777216 := by decide
      have hpD : p ≠ DD := fun z => by
        rw [z, hDD] at hp
        cases hp
      refine ⟨ds.map V.ref, s4 _ _ hDD, by rw [List.length_map]; omega, ds ++ [p], by rw [List.length_append, hl]; rfl, fun c o e => ?_, ?_, fun d hd => ?_, ?_⟩
      · rw [upd_ne (ne_of_none e hD)]
        exact s4 _ _ (sm _ _ e)
      · rw [upd_same, List.map_append]
        rfl
      · rcases List.mem_append.mp hd with hd | hd
        · obtain ⟨x1, x2⟩ := hds d hd
          obtain ⟨a1, a2, a3, a4, e1, r⟩ := x1
          refine ⟨⟨a1, a2, a3, a4, ?_, r⟩, x2⟩
          rw [upd_ne]
          · exact s4 _ _ e1
          · intro z
            rw [z, hDD] at e1
            injection e1 with e1
            injection e1 with e1
            cases ds with
            | nil => cases hd
            | cons _ _ => simp at e1
        · rw [List.mem_singleton.mp hd]
          obtain ⟨a1, a2, a3, a4, e1, r⟩ := hdi
          refine ⟨⟨a1, a2, a3, a4, ?_, r⟩, sm.free hp⟩
          rw [upd_ne hpD]
          exact e1
      · rw [List.nodup_append]
        refine ⟨nd, List.nodup_cons.mpr ⟨List.not_mem_nil, List.nodup_nil⟩, fun x hx y hy => ?_⟩
        rw [List.mem_singleton.mp hy]
        intro z
        rw [z] at hx
        obtain ⟨o, ho⟩ := (hds p hx).1.some
        rw [hp] at ho
        cases ho
    · rintro H3 ⟨ds, hl, sm, hDD, hds, nd⟩
      refine q DD ds H3 hD sm hDD (by rw [hl]; exact hc _ (by split <;> (try split) <;> omega)) hds nd
/-! ### the checks -/
theorem sc_whole : FnScope ["value"] ["value"] (defScope st_is_whole_number) := ⟨rfl, rfl, rfl, by decide +kernel, rfl, by decide +kernel, by decide +kernel⟩
def spWhole : Sp := fun vs H Q _ => ∃ i : Int, vs = [.int i] ∧ Q (.bl true) H
theorem ok_whole (B : Bi mg) (D : Df K mg "is_whole_number" st_is_whole_number ["value"]) : FnOk P w K mg base CX0 1 D.f D.fd ["value"] spWhole := by
  refine D.F.ok sc_whole (fun vs H Q E h => ?_) (fun cdv A outer s H vs Q E hr h => ?_)
  · obtain ⟨i, rfl, _⟩ := h
    rfl
  · obtain ⟨i, rfl, q⟩ := h
    refine ⟨_, pss_one (ps_ret (pe_and (pe_callB call_isi (by rfl) B.isi (by decide +kernel) (pa_cons (pv 0) (pa_cons (pe_bltn (v := .ty "int") (by rfl) B.int (by decide +kernel) rfl) pa_nil)))
      (pe_one (pe_not (pe_callB call_isi (by rfl) B.isi (by decide +kernel) (pa_cons (pv 0) (pa_cons (pe_bltn (v := .ty "bool") (by rfl) B.bool (by decide +kernel) rfl) pa_nil))))))), ?_⟩
    have f : Flat (.int i) := True.intro
    refine ⟨_, rfl, .int i, _, _, _, true, rfl, .ty _, f.ty, f.kInt, _, rfl, iteT ?_⟩
    exact ⟨_, rfl, .int i, _, _, _, false, rfl, .ty _, f.ty, f.kBl, _, rfl, q⟩
theorem sc_count : FnScope ["value"] ["value"] (defScope st_is_count) := ⟨rfl, rfl, rfl, by decide +kernel, rfl, by decide +kernel, by decide +kernel⟩
def spCount : Sp := fun vs H Q _ => ∃ i : Int, vs = [.int i] ∧ 0 ≤ i ∧ Q (.bl true) H
theorem ok_count (B : Bi mg) (D : Df K mg "is_count" st_is_count ["value"]) (C : Cal P w K mg base 1 "is_whole_number" ["value"] spWhole) : FnOk P w K mg base CX0 2 D.f D.fd ["value"] spCount := by
  refine D.F.ok sc_count (fun vs H Q E h => ?_) (fun cdv A outer s H vs Q E hr h => ?_)
  · obtain ⟨i, rfl, _⟩ := h
    rfl
  · obtain ⟨i, rfl, h0, q⟩ := h
    refine ⟨_, pss_one (ps_ret (pe_and (pcall C hr (by rfl) (pa_cons (pv 0) pa_nil)) (pe_one (pe_cmpR op_ge (pv 0) pe_int (nomark _))))), ?_⟩
    refine ⟨_, rfl, i, rfl, _, rfl, iteT ?_⟩
    refine ⟨_, rfl, _, _, rfl, rfl, ?_⟩
    have e : decide ((0 : Int) ≤ i) = true := decide_eq_true h0
    exact (congrArg (fun b => Q (.bl b) H) e).mpr q
theorem sc_made : FnScope ["value", "signs"] ["value", "signs"] (defScope st_is_made_of) := ⟨rfl, rfl, rfl, by decide +kernel, rfl, by decide +kernel, by decide +kernel⟩
def spMade : Sp := fun vs H Q _ => ∃ (u : List Nat) (y : Str), vs = [.str (S u), .str y] ∧ u.length ≤ 100000 ∧ (∀ c ∈ u, y.cps.contains c = true) ∧ Q (.bl true) H
theorem ok_made (B : Bi mg) (D : Df K mg "is_made_of" st_is_made_of ["value", "signs"]) : FnOk P w K mg base CX0 1 D.f D.fd ["value", "signs"] spMade := by
  refine D.F.ok sc_made (fun vs H Q E h => ?_) (fun cdv A outer s H vs Q E hr h => ?_)
  · obtain ⟨u, y, rfl, _⟩ := h
    rfl
  · obtain ⟨u, y, rfl, hl, hc, q⟩ := h
    refine ⟨_, pss_one (ps_ret (pe_and (pe_callB call_isi (by rfl) B.isi (by decide +kernel) (pa_cons (pv 0) (pa_cons (pe_bltn (v := .ty "str") (by rfl) B.str (by decide +kernel) rfl) pa_nil)))
      (pe_one (pe_cmpR op_eq (pe_bm PySem.F.plainAttrs_str PySem.F.slot_str_strip PySem.F.type_str_strip mt_stripChars (pv 0) (pa_cons (pv 1) pa_nil)) pe_str (nomark _))))), ?_⟩
    have f : Flat (.str (S u)) := True.intro
    have e16 : sizeLine = 16777216 := by decide
    refine ⟨_, rfl, .str (S u), _, _, _, true, rfl, .ty _, f.ty, f.kStr, _, rfl, iteT ?_⟩
    refine ⟨_, rfl, rfl, _, rfl, S u, y, rfl, rfl, by rw [S_len]; omega, ?_⟩
    rw [strip_all hc]
    refine ⟨rfl, ?_⟩
    exact (congrArg (fun b => Q (.bl b) H) (decide_eq_true rfl)).mpr q
end
end K4
set_option Elab.async false
set_option linter.all false
set_option maxRecDepth 100000
set_option maxHeartbeats 4000000
namespace K4
open PySem PySem.Spec PyProof.Rows L2 K4M
abbrev LET : Str := Str.ofString "abcdefghijklmnopqrstuvwxyz"
def Low (u : List Nat) : Prop := ∀ c ∈ u, 97 ≤ c ∧ c ≤ 122
theorem low_has {c : Nat} (h1 : 97 ≤ c) (h2 : c ≤ 122) : LET.cps.contains c = true := by
  have all : ∀ k : Fin 26, LET.cps.contains (97 + k.val) = true := by decide +kernel
  have := all ⟨c - 97, by omega⟩
  rw [show 97 + (⟨c - 97, by omega⟩ : Fin 26).val = c by show 97 + (c - 97) = c; omega] at this
  exact this
theorem lp_unique {u : List Nat} (h : u ≠ []) {d : Nat} (h1 : 1 ≤ d) (h2 : d ≤ u.length) (h3 : ∀ j, 0 < j → j < d → had u j = false) (h4 : d < u.length → had u d = true) : lp u = d := by
  obtain ⟨a1, a2, a3, a4⟩ := lp_spec u h
  rcases Nat.lt_trichotomy (lp u) d with z | z | z
  · have x1 := a4 (by omega)
    rw [h3 _ (by omega) z] at x1
    cases x1
  · exact z
  · have x1 := h4 (by omega)
    rw [a1 _ (by omega) z] at x1
    cases x1
theorem bl_q {Q : VK} {H : Hp} {a b : Bool} (e : a = b) (q : Q (.bl b) H) : Q (.bl a) H := e ▸ q
theorem int_q {Q : VK} {H : Hp} {a b : Int} (e : a = b) (q : Q (.int b) H) : Q (.int a) H := e ▸ q
theorem pow_abs {s : Int} (h : s.natAbs < 2 ^ 100) : ∀ i : Nat, (s ^ i).natAbs < 2 ^ (100 * i + 1)
  | 0 => by simp
  | i + 1 => by
    rw [Int.pow_succ, Int.natAbs_mul, show 100 * (i + 1) + 1 = (100 * i + 1) + 100 by omega, Nat.pow_add]
    exact Nat.mul_lt_mul'' (pow_abs h i) h
section
variable {P : Program} {w : World} {K : PySem.W.Frag} {mg : Str → Option Value} {base : Heap}
theorem sc_text : FnScope ["value"] ["value"] (defScope st_is_text) := ⟨rfl, rfl, rfl, by decide +kernel, rfl, by decide +kernel, by decide +kernel⟩
def spText : Sp := fun vs H Q _ => ∃ u : List Nat, vs = [.str (S u)] ∧ u.length ≤ 100000 ∧ Low u ∧ Q (.bl true) H
theorem ok_text {t : Tok} (lt : mg "LETTERS" = some (.str LET t)) (D : Df K mg "is_text" st_is_text ["value"]) (C : Cal P w K mg base 1 "is_made_of" ["value", "signs"] spMade) : FnOk P w K mg base CX0 2 D.f D.fd ["value"] spText := by
  refine D.F.ok sc_text (fun vs H Q E h => ?_) (fun cdv A outer s H vs Q E hr h => ?_)
  · obtain ⟨u, rfl, _⟩ := h
    rfl
  · obtain ⟨u, rfl, hl, hw, q⟩ := h
    refine ⟨_, pss_one (ps_ret (pcall C hr (by rfl) (pa_cons (pv 0) (pa_cons (pe_glob (v := .str LET) rfl lt ⟨_, rfl⟩) pa_nil)))), ?_⟩
    exact ⟨_, rfl, u, LET, rfl, hl, fun c hc => low_has (hw c hc).1 (hw c hc).2, q⟩
theorem sc_word : FnScope ["value"] ["value"] (defScope st_is_word) := ⟨rfl, rfl, rfl, by decide +kernel, rfl, by decide +kernel, by decide +kernel⟩
def spWord : Sp := fun vs H Q _ => ∃ u : List Nat, vs = [.str (S u)] ∧ u.length ≤ 100000 ∧ Low u ∧ u ≠ [] ∧ Q (.bl true) H
theorem ok_word (D : Df K mg "is_word" st_is_word ["value"]) (C : Cal P w K mg base 2 "is_text" ["value"] spText) : FnOk P w K mg base CX0 3 D.f D.fd ["value"] spWord := by
  refine D.F.ok sc_word (fun vs H Q E h => ?_) (fun cdv A outer s H vs Q E hr h => ?_)
  · obtain ⟨u, rfl, _⟩ := h
    rfl
  · obtain ⟨u, rfl, hl, hw, h0, q⟩ := h
    refine ⟨_, pss_one (ps_ret (pe_and (pcall C hr (by rfl) (pa_cons (pv 0) pa_nil)) (pe_one (pe_cmpR op_ne (pv 0) pe_str (nomark _))))), ?_⟩
    refine ⟨_, rfl, u, rfl, hl, hw, _, rfl, iteT ?_⟩
    refine ⟨_, rfl, rfl, bl_q ?_ q⟩
    rw [show decide (V.str (S u) = V.str (Str.ofString "")) = (u == []) from V_dec u []]
    cases u with
    | nil => exact absurd rfl h0
    | cons _ _ => rfl
theorem sc_cword : FnScope ["value"] ["value"] (defScope st_check_word) := ⟨rfl, rfl, rfl, by decide +kernel, rfl, by decide +kernel, by decide +kernel⟩
def spCword : Sp := fun vs H Q _ => ∃ u : List Nat, vs = [.str (S u)] ∧ u.length ≤ 100000 ∧ Low u ∧ u ≠ [] ∧ Q .non H
theorem ok_cword (D : Df K mg "check_word" st_check_word ["value"]) (C : Cal P w K mg base 3 "is_word" ["value"] spWord) : FnOk P w K mg base CX0 4 D.f D.fd ["value"] spCword := by
  refine D.F.ok sc_cword (fun vs H Q E h => ?_) (fun cdv A outer s H vs Q E hr h => ?_)
  · obtain ⟨u, rfl, _⟩ := h
    rfl
  · obtain ⟨u, rfl, hl, hw, h0, q⟩ := h
    refine ⟨_, pss_one (ps_if (pt_not (pt_val (pcall C hr (by rfl) (pa_cons (pv 0) pa_nil)))) pss_never pss_nil), ?_⟩
    exact ⟨_, rfl, u, rfl, hl, hw, h0, _, rfl, iteF q⟩
def spCnum : Sp := fun vs H Q _ => ∃ i l : Int, vs = [.int i, .int l] ∧ 0 ≤ i ∧ l ≤ i ∧ Q .non H
/-! ### periods -/
theorem sc_had : FnScope ["text", "period"] ["text", "period"] (defScope st__is_had) := ⟨rfl, rfl, rfl, by decide +kernel, rfl, by decide +kernel, by decide +kernel⟩
def spHad : Sp := fun vs H Q _ => ∃ (u : List Nat) (p : Nat), vs = [.str (S u), .int (p : Int)] ∧ u.length ≤ 100000 ∧ Q (.bl (had u p)) H
theorem ok_had (D : Df K mg "_is_had" st__is_had ["text", "period"]) : FnOk P w K mg base CX0 1 D.f D.fd ["text", "period"] spHad := by
  refine D.F.ok sc_had (fun vs H Q E h => ?_) (fun cdv A outer s H vs Q E hr h => ?_)
  · obtain ⟨u, p, rfl, _⟩ := h
    rfl
  · obtain ⟨u, p, rfl, hl, q⟩ := h
    refine ⟨_, pss_one (ps_ret (pe_bm PySem.F.plainAttrs_str PySem.F.slot_str_startswith PySem.F.type_str_startswith mt_startswith (pv 0) (pa_cons (pe_slice sl_str (pv 0) (po_some (pv 1)) po_none) pa_nil))), ?_⟩
    have e16 : sizeLine = 16777216 := by decide
    refine ⟨_, rfl, rfl, _, rfl, _, rfl, p, rfl, S u, rfl, by rw [S_len]; omega, S u, _, rfl, rfl, ?_⟩
    rw [cut_drop, starts]
    exact q
theorem sc_lp : FnScope ["word", "period"] ["word"] (defScope st_least_period) := ⟨rfl, rfl, rfl, by decide +kernel, rfl, by decide +kernel, by decide +kernel⟩
def spLp : Sp := fun vs H Q _ => ∃ u : List Nat, vs = [.str (S u)] ∧ u.length ≤ 100000 ∧ Low u ∧ u ≠ [] ∧ Q (.int (lp u : Int)) H
theorem ok_lp (B : Bi mg) (D : Df K mg "least_period" st_least_period ["word"]) (C : Cal P w K mg base 4 "check_word" ["value"] spCword) (CH : Cal P w K mg base 1 "_is_had" ["text", "period"] spHad) : FnOk P w K mg base CX0 5 D.f D.fd ["word"] spLp := by
  refine D.F.ok sc_lp (fun vs H Q E h => ?_) (fun cdv A outer s H vs Q E hr h => ?_)
  · obtain ⟨u, rfl, _⟩ := h
    rfl
  · obtain ⟨u, rfl, hl, hw, h0, q⟩ := h
    have hr1 : Room 1 _ := hr.mono (by decide)
    refine ⟨_, pss_cons (ps_expr (pcall C hr (by rfl) (pa_cons (pv 0) pa_nil)))
      (pss_cons (ps_for PassesOwn.never rfl (pi_range2 (by rfl) B.range (pa_cons pe_int (pa_cons (pe_callB call_len_str (by rfl) B.len PySem.boot_len (pa_cons (pv 0) pa_nil)) pa_nil))) (pg_name (i := 1) sc_lp.nd rfl (.inl rfl))
        (pss_one (ps_if (pt_val (pcall CH hr1 (by rfl) (pa_cons (pv 0) (pa_cons (pv 1) pa_nil)))) (pss_one (ps_ret (pv 1))) pss_nil)))
      (pss_one (ps_ret (pe_callB call_len_str (by rfl) B.len PySem.boot_len (pa_cons (pv 0) pa_nil))))), ?_⟩
    have e16 : sizeLine = 16777216 := by decide
    have hs : (S u).length ≤ sizeLine := by rw [S_len]; omega
    have hl0 : 0 < u.length := List.length_pos_iff.mpr h0
    refine ⟨_, rfl, u, rfl, hl, hw, h0, ?_⟩
    refine ⟨_, rfl, S u, rfl, hs, 1, (u.length : Int), by rw [S_len], ⟨by decide, by decide, by omega, by omega⟩, ?_⟩
    refine for_range (lo := 1) (n := ((u.length : Int) - 1).toNat) (fun i σ H2 => H2 = H ∧ ∃ y : Option V, σ = [some (.str (S u)), y] ∧ ∀ j, 0 < j → j ≤ i → had u j = false) ⟨rfl, none, rfl, fun j h1 h2 => by omega⟩ ?_ ?_
    · rintro i σ H2 hi ⟨rfl, y, rfl, hj⟩
      have ei : (1 + (i : Int)) = ((1 + i : Nat) : Int) := by omega
      refine ⟨_, rfl, _, rfl, u, 1 + i, by rw [ei]; rfl, hl, _, rfl, ?_⟩
      cases hb : had u (1 + i) with
      | true =>
        refine iteT ⟨_, rfl, int_q ?_ q⟩
        rw [lp_unique h0 (d := 1 + i) (by omega) (by omega) (fun j h1 h2 => hj j h1 (by omega)) (fun _ => hb)]
        exact ei
      | false =>
        refine iteF ⟨rfl, _, rfl, fun j h1 h2 => ?_⟩
        by_cases e : j = 1 + i
        · rw [e]
          exact hb
        · exact hj j h1 (by omega)
    · rintro σ H2 ⟨rfl, y, rfl, hj⟩
      refine ⟨_, rfl, S u, rfl, hs, int_q ?_ q⟩
      rw [S_len, lp_unique h0 (d := u.length) hl0 (Nat.le_refl _) (fun j h1 h2 => hj j h1 (by omega)) (fun z => absurd z (Nat.lt_irrefl _))]
def rootV (r : List Nat × Nat) : List V := [.str (S r.1), .int (r.2 : Int)]
def spRoot : Sp := fun vs H Q _ => ∃ u : List Nat, vs = [.str (S u)] ∧ u.length ≤ 100000 ∧ Low u ∧ u ≠ [] ∧ ∀ (p : Addr) (H' : Hp), H p = none → Same H H' → H' p = some (.tup (rootV (rootP u))) → Q (.ref p) H'
/-! ### powers -/
def spPow : Sp := fun vs H Q _ => ∃ (s : Int) (n : Nat), vs = [.int s, .int (n : Int)] ∧ s.natAbs < 2 ^ 100 ∧ n ≤ 1000 ∧ Q (.int (s ^ n)) H
end
end K4
set_option Elab.async false
set_option linter.all false
set_option maxRecDepth 100000
set_option maxHeartbeats 4000000
namespace K4
open PySem PySem.Spec PyProof.Rows L2 K4M
/-! ### lists of letters -/
def letl : List Nat := List.range' 97 26
theorem letS : LET = S letl := by decide +kernel
theorem letl_at {r : Nat} (h : r < 26) : letl[r]? = some (97 + r) := by
  unfold letl
  rw [List.getElem?_range' h]
  congr 1
  omega
theorem letl_mem {c : Nat} : c ∈ letl ↔ 97 ≤ c ∧ c ≤ 122 := by
  unfold letl
  rw [List.mem_range'_1]
  omega
theorem letl_nodup : letl.Nodup := by unfold letl; exact List.nodup_range'
theorem sig_len (w : List Nat) : (signsV w).length = w.length := List.length_map _
theorem sig_at {w : List Nat} {i : Nat} {x : V} (h : (signsV w)[i]? = some x) : ∃ c, w[i]? = some c ∧ x = V.str (S [c]) := by
  unfold signsV at h
  rw [List.getElem?_map] at h
  cases e : w[i]? with
  | none => rw [e] at h; cases h
  | some c => rw [e] at h; exact ⟨c, rfl, (Option.some.inj h).symm⟩
theorem sig_app (u v : List Nat) : signsV (u ++ v) = signsV u ++ signsV v := List.map_append
theorem inV_sig (c : Nat) (w : List Nat) : inV (.str (S [c])) (signsV w) = w.contains c := by
  unfold inV signsV
  rw [List.any_map]
  rw [Bool.eq_iff_iff, List.any_eq_true, List.contains_iff_mem]
  constructor
  · rintro ⟨x, hx, h⟩
    have h2 : (S [x] == S [c]) = true := h
    have := S_inj (eq_of_beq h2)
    injection this with e1 _
    rw [← e1]
    exact hx
  · intro h
    exact ⟨c, h, beq_self_eq_true (S [c])⟩
theorem sig_flat (w : List Nat) : (signsV w).all flatV = true := by
  unfold signsV
  rw [List.all_map, List.all_eq_true]
  intro x _
  rfl
theorem filter_ne {found : List Nat} : ∀ (l : List Nat), l.Nodup → found.length < l.length → ∃ c r, l.filter (fun x => !found.contains x) = c :: r ∧ c ∈ l ∧ ¬ c ∈ found := by
  intro l nd hl
  cases e : l.filter (fun x => !found.contains x) with
  | cons c r =>
    have hm : c ∈ l.filter (fun x => !found.contains x) := by rw [e]; exact List.mem_cons_self ..
    rw [List.mem_filter] at hm
    refine ⟨c, r, rfl, hm.1, fun z => ?_⟩
    have := List.contains_iff_mem.mpr z
    rw [this] at hm
    exact absurd hm.2 Bool.false_ne_true
  | nil =>
    exfalso
    have all : ∀ x ∈ l, x ∈ found := fun x hx => by
      apply Classical.byContradiction
      intro hn
      have : x ∈ l.filter (fun x => !found.contains x) := by
        rw [List.mem_filter]
        refine ⟨hx, ?_⟩
        have : found.contains x = false := by
          rw [Bool.eq_false_iff]
          intro z
          exact hn (List.contains_iff_mem.mp z)
        rw [this]
        rfl
      rw [e] at this
      cases this
    have key : ∀ (l found : List Nat), l.Nodup → (∀ x ∈ l, x ∈ found) → l.length ≤ found.length := by
      intro l
      induction l with
      | nil => intro found _ _; exact Nat.zero_le _
      | cons x r ih =>
        intro found nd h
        rw [List.nodup_cons] at nd
        have hx := h x (List.mem_cons_self ..)
        have h1 := ih (found.erase x) nd.2 fun y hy => by
          have hyx : y ≠ x := fun z => nd.1 (z ▸ hy)
          exact (List.mem_erase_of_ne hyx).mpr (h y (List.mem_cons_of_mem _ hy))
        rw [List.length_erase_of_mem hx] at h1
        have hp : 0 < found.length := List.length_pos_of_mem hx
        rw [List.length_cons]
        omega
    have := key l found nd all
    omega
/-- texts of one sign each, in some order -/
theorem ones_of : ∀ {ys : List Str} {ls : List Nat}, (∀ y ∈ ys, ∃ c ∈ ls, y = S [c]) → ∃ ls' : List Nat, ys = ls'.map (fun c => S [c]) ∧ ∀ c ∈ ls', c ∈ ls
  | [], _, _ => ⟨[], rfl, fun _ h => nomatch h⟩
  | y :: r, ls, h => by
    obtain ⟨c, hc, e⟩ := h y (List.mem_cons_self ..)
    obtain ⟨ls', e', h'⟩ := ones_of (ys := r) (ls := ls) fun z hz => h z (List.mem_cons_of_mem _ hz)
    refine ⟨c :: ls', by rw [e, e']; rfl, fun d hd => ?_⟩
    rcases List.mem_cons.mp hd with rfl | hd
    · exact hc
    · exact h' d hd
theorem join_words (ws : List (List Nat)) : Txt.join Str.empty (ws.map S) = S ws.flatten := by
  show Builtin.Str.glued Str.empty (ws.map S) = _
  rw [StrLaws.glued_eq_join]
  have key : ∀ ws : List (List Nat), Str.join Str.empty (ws.map S) = S ws.flatten := fun ws => by
    induction ws with
    | nil => rfl
    | cons u r ih =>
      cases r with
      | nil =>
        show S u = S (u ++ [])
        rw [List.append_nil]
      | cons v r =>
        show (S u ++ Str.empty) ++ Str.join Str.empty ((v :: r).map S) = _
        rw [ih, S_empty, S_app, S_app, List.append_nil]
        rfl
  exact key ws
theorem flatten_ones (ls : List Nat) : (ls.map fun c => [c]).flatten = ls := by
  induction ls with
  | nil => rfl
  | cons c r ih => rw [List.map_cons, List.flatten_cons, ih]; rfl
theorem join_ones (ls : List Nat) : Txt.join Str.empty (ls.map fun c => S [c]) = S ls := by
  have := join_words (ls.map fun c => [c])
  rw [List.map_map, flatten_ones] at this
  exact this
theorem rising_le : ∀ (ls : List Nat) (p : Nat), risingS (S [p]) (ls.map fun c => S [c]) = true → (p :: ls).Pairwise (· ≤ ·)
  | [], p, _ => by simp
  | x :: r, p, h => by
    have h' : (!ltCps (S [x]).cps.toList (S [p]).cps.toList && risingS (S [x]) (r.map fun c => S [c])) = true := h
    rw [Bool.and_eq_true] at h'
    have ih := rising_le r x h'.2
    have hpx : p ≤ x := by
      have h1 : ltCps [x] [p] = false := by
        have := h'.1
        rw [Bool.not_eq_true'] at this
        exact this
      apply Nat.le_of_not_lt
      intro hlt
      have : ltCps [x] [p] = true := by
        simp [ltCps, hlt]
      rw [this] at h1
      cases h1
    rw [List.pairwise_cons]
    refine ⟨fun y hy => ?_, ih⟩
    rcases List.mem_cons.mp hy with rfl | hy
    · exact hpx
    · exact Nat.le_trans hpx ((List.pairwise_cons.mp ih).1 y hy)
theorem sorted_lt {ls : List Nat} (nd : ls.Nodup) (h : sortedS (ls.map fun c => S [c]) = true) : ls.Pairwise (· < ·) := by
  have hle : ls.Pairwise (· ≤ ·) := by
    cases ls with
    | nil => exact List.Pairwise.nil
    | cons x r => exact rising_le r x h
  have h2 : ls.Pairwise (fun a b => a ≠ b) := nd
  exact (List.Pairwise.and hle h2).imp fun {a b} z => by omega
end K4
set_option Elab.async false
set_option linter.all false
set_option maxRecDepth 100000
set_option maxHeartbeats 4000000
namespace K4
open PySem PySem.Spec PyProof.Rows L2 K4M
section
variable {P : Program} {w : World} {K : PySem.W.Frag} {mg : Str → Option Value} {base : Heap}
theorem Dice.ne {H : Hp} {d p : Addr} {n : Nat} (h : Dice H d n) (hp : H p = none) : p ≠ d := fun z => by
  obtain ⟨o, ho⟩ := h.some
  rw [← z, hp] at ho
  cases ho
/-! ### letters -/
theorem sc_letters : FnScope ["dice", "many", "found", "spin", "late", "sign"] ["dice", "many"] (defScope st__law_letters) := ⟨rfl, rfl, rfl, by decide +kernel, rfl, by decide +kernel, by decide +kernel⟩
def spLetters : Sp := fun vs H Q _ => ∃ (d : Addr) (m n : Nat), vs = [.ref d, .int (m : Int)] ∧ Dice H d n ∧ n < 2 ^ 58 ∧ m ≤ 26 ∧ ∀ (u : List Nat) (H' : Hp), u.length = m → Low u → u.Pairwise (· < ·) → Dice H' d (n + m) → Kept H H' d → Q (.str (S u)) H'
theorem ok_letters (B : Bi mg) (D : Df K mg "_law_letters" st__law_letters ["dice", "many"]) (CD : Cal P w K mg base 2 "_law_draw" ["dice", "many"] spDraw) : FnOk P w K mg base CX0 3 D.f D.fd ["dice", "many"] spLetters := by
  refine D.F.ok sc_letters (fun vs H Q E h => ?_) (fun cdv A outer s' H vs Q E hr h => ?_)
  · obtain ⟨d, m, n, rfl, _⟩ := h
    rfl
  · obtain ⟨d, m, n, rfl, hD, hn, hm, q⟩ := h
    refine ⟨_, pss_cons (ps_set (i := 2) sc_letters.nd rfl (.inr rfl) (pe_lst pa_nil))
      (pss_cons (ps_for PassesOwn.never rfl (pi_range1 (by rfl) B.range (pa_cons (pv 1) pa_nil)) (pg_name (i := 3) sc_letters.nd rfl (.inl rfl))
        (pss_cons (ps_set (i := 4) sc_letters.nd rfl (.inl rfl) (pe_ix ix_str pe_str (pcall CD hr (by rfl) (pa_cons (pv 0) (pa_cons pe_int pa_nil))) (fun _ _ => rfl)))
        (pss_one (ps_expr (pe_bm PySem.F.plainAttrs_list PySem.F.slot_list_append PySem.F.type_list_append mt_append (pv 2) (pa_cons (pe_ifExp (pt_cmpR op_notIn_seq (pv 4) (pv 2) rfl) (pv 4)
          (pe_ix ix_list (pe_lc (own := [("sign", 5)]) (g := gName 5) rfl sc_letters.nd (pi_list (pe_callTy (call_listS rfl) (by rfl) B.list (by decide +kernel) (pa_cons pe_str pa_nil)))
            (blkOk_by (N := ["dice", "many", "found", "spin", "late", "sign"]) (sc := defScope st__law_letters) (by decide +kernel))
            (fun _ _ _ _ _ => pg_name (i := 5) sc_letters.nd rfl (.inl rfl))
            (fun _ _ _ _ _ => pts_one (pt_cmpR (r := rIn K true) op_notIn_seq (pv 5) (pv 2) rfl))
            (fun _ _ _ _ _ => pv 5)) pe_int (fun _ _ => rfl))) pa_nil))))))
      (pss_one (ps_ret (pe_join pe_str (pe_callB cr_sortedS (by rfl) B.sorted (by decide +kernel) (pa_cons (pv 2) pa_nil)))))), ?_⟩
    have e16 : sizeLine = 16777216 := by decide
    refine ⟨Nat.zero_le _, fun F hF => ?_⟩
    have hFd : F ≠ d := hD.ne hF
    refine ⟨_, rfl, (m : Int), rfl, by omega, by omega, ?_⟩
    refine for_range (lo := 0) (n := (m : Int).toNat) (fun i σ H2 => ∃ (ls : List Nat) (y3 y4 : Option V), σ = [some (.ref d), some (.int m), some (.ref F), y3, y4, none] ∧ ls.length = i ∧ Low ls ∧ ls.Nodup ∧ H2 F = some (.lst (signsV ls)) ∧ Dice H2 d (n + i) ∧ ∀ b o, b ≠ d → b ≠ F → H b = some o → H2 b = some o)
      ⟨[], none, none, rfl, rfl, (fun _ h => by cases h), List.nodup_nil, upd_same, Same.dice (same_upd hF) hD, fun b o h1 h2 e => by rw [upd_ne h2]; exact e⟩ ?_ ?_
    · rintro i σ H2 hi ⟨ls, y3, y4, rfl, hl, hlow, hnd, hF2, hD2, kp⟩
      have hi26 : i < 26 := by omega
      refine ⟨_, rfl, d, 26, n + i, rfl, hD2, by omega, by decide, by decide, fun r H3 r0 r1 hD3 k3 => ?_⟩
      have er : r = ((r.toNat : Nat) : Int) := by omega
      have hr26 : r.toNat < 26 := by omega
      refine ⟨LET, r, 97 + r.toNat, rfl, rfl, by rw [letS, S_len]; show 26 ≤ sizeLine; decide, ?_, ?_⟩
      · have z := atI_nat (letl_at hr26)
        rw [← er] at z
        rw [letS]
        exact z
      have hF3 : H3 F = some (.lst (signsV ls)) := k3 _ _ hFd hF2
      have hSF : SqL K H3 F (signsV ls) := .inl (.inl hF3)
      have k3' : ∀ b o, b ≠ d → b ≠ F → H b = some o → H3 b = some o := fun b o h1 h2 e => k3 b o h1 (kp b o h1 h2 e)
      -- behind the choice of a letter c that is not there
      have put : ∀ (c : Nat) (H4 : Hp), 97 ≤ c → c ≤ 122 → ¬ c ∈ ls → Same H3 H4 → ∃ (ls' : List Nat) (y3 y4 : Option V), ([some (.ref d), some (.int m), some (.ref F), some (.int (0 + (i : Int))), some (.str (S [97 + r.toNat])), none] : L2.St) = [some (.ref d), some (.int m), some (.ref F), y3, y4, none] ∧ ls'.length = i + 1 ∧ Low ls' ∧ ls'.Nodup ∧ (upd H4 F (.lst (signsV ls ++ [.str (S [c])]))) F = some (.lst (signsV ls')) ∧ Dice (upd H4 F (.lst (signsV ls ++ [.str (S [c])]))) d (n + (i + 1)) ∧ ∀ b o, b ≠ d → b ≠ F → H b = some o → (upd H4 F (.lst (signsV ls ++ [.str (S [c])]))) b = some o := fun c H4 c1 c2 c3 s4 => by
        refine ⟨ls ++ [c], _, _, rfl, by rw [List.length_append, hl]; rfl, fun x hx => ?_, ?_, by rw [upd_same, sig_app]; rfl, ?_, fun b o h1 h2 e => ?_⟩
        · rcases List.mem_append.mp hx with hx | hx
          · exact hlow x hx
          · rw [List.mem_singleton.mp hx]
            exact ⟨c1, c2⟩
        · rw [List.nodup_append]
          refine ⟨hnd, List.nodup_cons.mpr ⟨List.not_mem_nil, List.nodup_nil⟩, fun x hx y hy => ?_⟩
          rw [List.mem_singleton.mp hy]
          intro z
          exact c3 (z ▸ hx)
        · obtain ⟨a1, a2, a3, a4, e1, r⟩ := Same.dice s4 hD3
          exact ⟨a1, a2, a3, a4, by rw [upd_ne hFd.symm]; exact e1, r⟩
        · rw [upd_ne h2]
          exact s4 _ _ (k3' b o h1 h2 e)
      refine ⟨_, rfl, .inl ⟨rfl, _, hSF⟩, ?_⟩
      refine ⟨_, rfl, _, rfl, F, _, rfl, .inl hSF, rfl, sig_flat _, _, rfl, ?_⟩
      rw [if_pos (show (true : Bool) = true from rfl)]
      show (if (!inV (.str (S [97 + r.toNat])) (signsV ls)) = true then _ else _)
      rw [inV_sig]
      cases hb : ls.contains (97 + r.toNat) with
      | false =>
        refine iteT ⟨_, rfl, F, _, _, rfl, rfl, hF3, by rw [sig_len]; omega, ?_⟩
        refine put _ H3 (by omega) (by omega) (fun z => ?_) (Same.refl _)
        rw [List.contains_iff_mem.mpr z] at hb
        cases hb
      | true =>
        refine iteF ?_
        refine ⟨letl, by rw [← letS], by show 26 ≤ 1000; decide, fun L hL => ?_⟩
        have s4 : Same H3 (upd H3 L (.lst (signsV letl))) := same_upd hL
        refine ⟨L, rfl, ⟨_, .inl (.inl upd_same)⟩, fun DD hD4 => ?_⟩
        have hD3' : H3 DD = none := s4.free hD4
        have hLD : L ≠ DD := fun z => by
          rw [← z, upd_same] at hD4
          cases hD4
        refine lc_list (K := K) (a := L) (xs := signsV letl) (fun j H5 => Same H3 H5 ∧ H5 L = some (.lst (signsV letl)) ∧ H5 DD = some (.lst (signsV ((letl.take j).filter fun x => !ls.contains x))))
          ⟨s4.trans (same_upd hD4), by rw [upd_ne hLD, upd_same], upd_same⟩ (fun j H5 _ z => .inl (.inl z.2.1)) ?_ ?_
        · rintro j x H5 hx ⟨t1, t2, t3⟩
          obtain ⟨c, hc, rfl⟩ := sig_at hx
          refine ⟨rfl, _, rfl, _, rfl, F, _, rfl, .inl (t1.seq hSF), rfl, sig_flat _, _, rfl, ?_⟩
          rw [if_pos (show (true : Bool) = true from rfl)]
          rw [inV_sig]
          refine ?_
          cases hb2 : ls.contains c with
          | false =>
            refine iteT ⟨_, rfl, _, t3, ?_, fun b o e => ?_, ?_, ?_⟩
            · rw [sig_len]
              have h1 := List.length_filter_le (fun x => !ls.contains x) (letl.take j)
              have h2 : (letl.take j).length ≤ 26 := by
                rw [List.length_take]
                show min j 26 ≤ 26
                omega
              omega
            · rw [upd_ne (ne_of_none e hD3')]
              exact t1 b o e
            · rw [upd_ne hLD]
              exact t2
            · rw [upd_same, filter_take hc, hb2]
              unfold signsV
              rw [List.map_append]
              rfl
          | true =>
            refine iteF ⟨t1, t2, ?_⟩
            rw [t3, filter_take hc, hb2]
            simp
        · rintro H5 ⟨t1, t2, t3⟩
          rw [sig_len, List.take_length] at t3
          obtain ⟨c, rr, ec, hcl, hcn⟩ := filter_ne (found := ls) letl letl_nodup (by show ls.length < 26; omega)
          rw [ec] at t3
          refine ⟨DD, _, 0, .str (S [c]), rfl, rfl, .inl (.inl t3), atI_nat (j := 0) rfl, F, _, _, rfl, rfl, t1 _ _ hF3, by rw [sig_len]; omega, ?_⟩
          have hcb := letl_mem.mp hcl
          exact put c H5 hcb.1 hcb.2 hcn t1
    · rintro σ H2 ⟨ls, y3, y4, rfl, hl, hlow, hnd, hF2, hD2, kp⟩
      have em : (m : Int).toNat = m := by omega
      rw [em] at hl hD2
      have e1 : signsV ls = (ls.map fun c => S [c]).map V.str := by
        unfold signsV
        rw [List.map_map]
        rfl
      refine ⟨⟨_, rfl⟩, _, rfl, F, ls.map (fun c => S [c]), rfl, .inl (.inl (by rw [hF2, e1])), by rw [List.length_map]; omega, fun ys p hperm hsort hp => ?_⟩
      obtain ⟨ls', e2, hsub⟩ := ones_of (ys := ys) (ls := ls) fun y hy => by
        obtain ⟨c, hc, e⟩ := List.mem_map.mp (hperm.mem_iff.mp hy)
        exact ⟨c, hc, e.symm⟩
      have hlen : ls'.length = ls.length := by
        have := hperm.length_eq
        rw [e2, List.length_map, List.length_map] at this
        exact this
      have hnd' : ls'.Nodup := by
        have h1 : (ls.map fun c => S [c]).Nodup := by
          rw [List.nodup_iff_pairwise_ne, List.pairwise_map]
          exact hnd.imp fun {a b} h z => h (by have := S_inj z; injection this)
        have h2 : ys.Nodup := hperm.nodup_iff.mpr h1
        rw [e2] at h2
        rw [List.nodup_iff_pairwise_ne, List.pairwise_map] at h2
        exact h2.imp fun {a b} h z => h (by rw [z])
      rw [e2] at hsort
      refine ⟨Str.empty, p, ys, rfl, rfl, .inl (.inl (.inl upd_same)), ?_, ?_⟩
      · rw [e2, List.map_map, List.length_map]
        have : (ls'.map ((fun x => x.length) ∘ fun c => S [c])).sum = ls'.length := by
          clear e2 hlen hnd' hsort hsub
          induction ls' with
          | nil => rfl
          | cons a r ih => rw [List.map_cons, List.sum_cons, ih, List.length_cons]; show 1 + _ = _; omega
        rw [this]
        show ls'.length + ls'.length * 0 ≤ 16777216
        omega
      · rw [e2, join_ones]
        refine q ls' _ (by omega) (fun c hc => hlow c (hsub c hc)) (sorted_lt hnd' hsort) (Same.dice (same_upd hp) hD2) fun b o hb e => ?_
        have hbF : b ≠ F := ne_of_none e hF
        rw [upd_ne (ne_of_none (kp b o hb hbF e) hp)]
        exact kp b o hb hbF e
end
end K4
set_option Elab.async false
set_option linter.all false
set_option maxRecDepth 100000
set_option maxHeartbeats 4000000
namespace K4
open PySem PySem.Spec PyProof.Rows L2 K4M
/-! ### grounds -/
def tabG : List (Nat × Nat) := [(2, 2), (3, 2), (2, 3), (4, 2), (5, 2), (2, 4), (3, 3)]
def tabM : List Nat := [2, 6, 12, 12, 20, 54, 72]
/-- what a ground of the law's may be, of so many own windows at most -/
def Good (most : Int) (g : Nat × Nat) : Prop := ∃ (j : Nat) (m : Nat), tabG[j]? = some g ∧ tabM[j]? = some m ∧ (m : Int) ≤ most
theorem Good.mem {most : Int} {g : Nat × Nat} (h : Good most g) : g ∈ tabG := by
  obtain ⟨j, m, h1, _⟩ := h
  exact List.mem_of_getElem? h1
theorem abcdefgh : Str.ofString "abcdefgh" = S (List.range' 97 8) := by decide +kernel
theorem pair_lt {k : Nat} (hk : k ≤ 8) : ((List.range' 97 8).take k).length = k ∧ Low ((List.range' 97 8).take k) ∧ ((List.range' 97 8).take k).Pairwise (· < ·) := by
  refine ⟨by rw [List.length_take, List.length_range']; omega, fun c hc => ?_, ?_⟩
  · have := List.mem_of_mem_take hc
    rw [List.mem_range'_1] at this
    omega
  · exact List.Pairwise.take (List.pairwise_lt_range')
section
variable {P : Program} {w : World} {K : PySem.W.Frag} {mg : Str → Option Value} {base : Heap}
theorem sc_ground : FnScope ["dice", "most", "some", "many", "signs", "gap", "at"] ["dice", "most"] (defScope st__law_ground) := ⟨rfl, rfl, rfl, by decide +kernel, rfl, by decide +kernel, by decide +kernel⟩
def spGround : Sp := fun vs H Q _ => ∃ (d : Addr) (most : Int) (n : Nat), vs = [.ref d, .int most] ∧ Dice H d n ∧ n < 2 ^ 57 ∧ 2 ≤ most ∧ ∀ (p : Addr) (H' : Hp) (u : List Nat) (g : Nat), H p = none → Kept H H' d → H' p = some (.tup [.str (S u), .int (g : Int)]) → Low u → u.Pairwise (· < ·) → Good most (u.length, g) → Dice H' d (n + 10) → Q (.ref p) H'
theorem ok_ground (B : Bi mg) (D : Df K mg "_law_ground" st__law_ground ["dice", "most"]) (CD : Cal P w K mg base 2 "_law_draw" ["dice", "many"] spDraw) (CO : Cal P w K mg base 3 "_law_one_of" ["dice", "some"] (spOne K)) (CL : Cal P w K mg base 3 "_law_letters" ["dice", "many"] spLetters) :
    FnOk P w K mg base CX0 4 D.f D.fd ["dice", "most"] spGround := by
  refine D.F.ok sc_ground (fun vs H Q E h => ?_) (fun cdv A outer s' H vs Q E hr h => ?_)
  · obtain ⟨d, m, n, rfl, _⟩ := h
    rfl
  · obtain ⟨d, most, n, rfl, hD, hn, hm, q⟩ := h
    have r2 : Room 2 _ := hr.mono (by decide)
    refine ⟨_, pss_cons (ps_set (i := 2) sc_ground.nd rfl (.inr rfl) (pe_lst (pa_cons (pe_tup (pa_cons pe_int (pa_cons pe_int pa_nil))) (pa_cons (pe_tup (pa_cons pe_int (pa_cons pe_int pa_nil))) (pa_cons (pe_tup (pa_cons pe_int (pa_cons pe_int pa_nil))) (pa_cons (pe_tup (pa_cons pe_int (pa_cons pe_int pa_nil))) (pa_cons (pe_tup (pa_cons pe_int (pa_cons pe_int pa_nil))) (pa_cons (pe_tup (pa_cons pe_int (pa_cons pe_int pa_nil))) (pa_cons (pe_tup (pa_cons pe_int (pa_cons pe_int pa_nil))) pa_nil)))))))))
      (pss_cons (ps_set (i := 3) sc_ground.nd rfl (.inr rfl) (pe_lst (pa_cons pe_int (pa_cons pe_int (pa_cons pe_int (pa_cons pe_int (pa_cons pe_int (pa_cons pe_int (pa_cons pe_int pa_nil)))))))))
      (pss_cons (ps_asg (pcall CO hr (by rfl) (pa_cons (pv 0) (pa_cons (pe_lc (own := [("at", 6)]) (g := gName 6) rfl sc_ground.nd (pi_range1 rfl B.range (pa_cons pe_int pa_nil))
          (blkOk_by (N := ["dice", "most", "some", "many", "signs", "gap", "at"]) (sc := defScope st__law_ground) (by decide +kernel))
          (fun _ _ _ _ _ => pg_name (i := 6) sc_ground.nd rfl (.inl rfl))
          (fun _ _ _ _ _ => pts_one (pt_cmpR op_le (pe_ix (r := rIxL K) ix_list (pv 3) (pv 6) (fun _ _ => rfl)) (pv 1) (nomark _)))
          (fun _ _ _ _ _ => pe_ix (r := rIxL K) ix_list (pv 2) (pv 6) (fun _ _ => rfl))) pa_nil)))
        (pg_tup rfl (pgs_cons (pg_name (i := 4) sc_ground.nd rfl (.inl rfl)) (pgs_cons (pg_name (i := 5) sc_ground.nd rfl (.inl rfl)) pgs_nil))))
      (pss_one (ps_ret (pe_tup (pa_cons (pe_ifExp (pt_cmpR op_eq (pcall CD r2 (by rfl) (pa_cons (pv 0) (pa_cons pe_int pa_nil))) pe_int (nomark _)) (pcall CL hr (by rfl) (pa_cons (pv 0) (pa_cons (pv 4) pa_nil))) (pe_slice sl_str pe_str po_none (po_some (pv 4)))) (pa_cons (pv 5) pa_nil))))))), ?_⟩
    have e16 : sizeLine = 16777216 := by decide
    have two : 2 ≤ sizeLine := by show 2 ≤ sizeLine; decide
    refine ⟨two, fun p0 h0 => ⟨two, fun p1 h1 => ⟨two, fun p2 h2 => ⟨two, fun p3 h3 => ⟨two, fun p4 h4 => ⟨two, fun p5 h5 => ⟨two, fun p6 h6 => ⟨by show 7 ≤ sizeLine; decide, fun L hL => ?_⟩⟩⟩⟩⟩⟩⟩⟩
    have s0 := same_upd (o := .tup [V.int 2, V.int 2]) h0
    have s1 := same_upd (o := .tup [V.int 3, V.int 2]) h1
    have s2 := same_upd (o := .tup [V.int 2, V.int 3]) h2
    have s3 := same_upd (o := .tup [V.int 4, V.int 2]) h3
    have s4 := same_upd (o := .tup [V.int 5, V.int 2]) h4
    have s5 := same_upd (o := .tup [V.int 2, V.int 4]) h5
    have s6 := same_upd (o := .tup [V.int 3, V.int 3]) h6
    have s7 := same_upd (o := .lst [V.ref p0, V.ref p1, V.ref p2, V.ref p3, V.ref p4, V.ref p5, V.ref p6]) hL
    refine ⟨by show 7 ≤ sizeLine; decide, fun M hM => ?_⟩
    have s8 := same_upd (o := .lst [V.int 2, V.int 6, V.int 12, V.int 12, V.int 20, V.int 54, V.int 72]) hM
    have t0 := s1.trans (s2.trans (s3.trans (s4.trans (s5.trans (s6.trans (s7.trans s8)))))) _ _ (upd_same (H := H) (a := p0) (o := .tup [V.int 2, V.int 2]))
    have t1 := (s2.trans (s3.trans (s4.trans (s5.trans (s6.trans (s7.trans s8)))))) p1 _ upd_same
    have t2 := (s3.trans (s4.trans (s5.trans (s6.trans (s7.trans s8))))) p2 _ upd_same
    have t3 := (s4.trans (s5.trans (s6.trans (s7.trans s8)))) p3 _ upd_same
    have t4 := (s5.trans (s6.trans (s7.trans s8))) p4 _ upd_same
    have t5 := (s6.trans (s7.trans s8)) p5 _ upd_same
    have t6 := (s7.trans s8) p6 _ upd_same
    have tL := s8 L _ upd_same
    have sA := s0.trans (s1.trans (s2.trans (s3.trans (s4.trans (s5.trans (s6.trans (s7.trans s8)))))))
    have tM : (upd (upd (upd (upd (upd (upd (upd (upd (upd H p0 (.tup [V.int 2, V.int 2])) p1 (.tup [V.int 3, V.int 2])) p2 (.tup [V.int 2, V.int 3])) p3 (.tup [V.int 4, V.int 2])) p4 (.tup [V.int 5, V.int 2])) p5 (.tup [V.int 2, V.int 4])) p6 (.tup [V.int 3, V.int 3])) L (.lst [V.ref p0, V.ref p1, V.ref p2, V.ref p3, V.ref p4, V.ref p5, V.ref p6])) M (.lst [V.int 2, V.int 6, V.int 12, V.int 12, V.int 20, V.int 54, V.int 72])) M = some (.lst [V.int 2, V.int 6, V.int 12, V.int 12, V.int 20, V.int 54, V.int 72]) := upd_same
    revert t0 t1 t2 t3 t4 t5 t6 tL tM sA
    generalize (upd (upd (upd (upd (upd (upd (upd (upd (upd H p0 (.tup [V.int 2, V.int 2])) p1 (.tup [V.int 3, V.int 2])) p2 (.tup [V.int 2, V.int 3])) p3 (.tup [V.int 4, V.int 2])) p4 (.tup [V.int 5, V.int 2])) p5 (.tup [V.int 2, V.int 4])) p6 (.tup [V.int 3, V.int 3])) L (.lst [V.ref p0, V.ref p1, V.ref p2, V.ref p3, V.ref p4, V.ref p5, V.ref p6])) M (.lst [V.int 2, V.int 6, V.int 12, V.int 12, V.int 20, V.int 54, V.int 72])) = H1
    intro t0 t1 t2 t3 t4 t5 t6 tL sA tM
    clear s0 s1 s2 s3 s4 s5 s6 s7 s8
    have hps : ∀ (j : Nat) (x : V), [V.ref p0, V.ref p1, V.ref p2, V.ref p3, V.ref p4, V.ref p5, V.ref p6][j]? = some x → ∃ (p : Addr) (g : Nat × Nat), x = .ref p ∧ tabG[j]? = some g ∧ H1 p = some (.tup [.int (g.1 : Int), .int (g.2 : Int)]) := fun j x hj => by
      match j, hj with
      | 0, hj => cases hj; exact ⟨p0, _, rfl, rfl, t0⟩
      | 1, hj => cases hj; exact ⟨p1, _, rfl, rfl, t1⟩
      | 2, hj => cases hj; exact ⟨p2, _, rfl, rfl, t2⟩
      | 3, hj => cases hj; exact ⟨p3, _, rfl, rfl, t3⟩
      | 4, hj => cases hj; exact ⟨p4, _, rfl, rfl, t4⟩
      | 5, hj => cases hj; exact ⟨p5, _, rfl, rfl, t5⟩
      | 6, hj => cases hj; exact ⟨p6, _, rfl, rfl, t6⟩
      | j + 7, hj => cases hj
    have hms : ∀ (j : Nat), j < 7 → ∃ m : Nat, [V.int 2, V.int 6, V.int 12, V.int 12, V.int 20, V.int 54, V.int 72][j]? = some (.int (m : Int)) ∧ tabM[j]? = some m ∧ (j = 0 → m = 2) := fun j hj => by
      match j, hj with
      | 0, _ => exact ⟨2, rfl, rfl, fun _ => rfl⟩
      | 1, _ => exact ⟨6, rfl, rfl, fun z => nomatch z⟩
      | 2, _ => exact ⟨12, rfl, rfl, fun z => nomatch z⟩
      | 3, _ => exact ⟨12, rfl, rfl, fun z => nomatch z⟩
      | 4, _ => exact ⟨20, rfl, rfl, fun z => nomatch z⟩
      | 5, _ => exact ⟨54, rfl, rfl, fun z => nomatch z⟩
      | 6, _ => exact ⟨72, rfl, rfl, fun z => nomatch z⟩
    generalize hpl : [V.ref p0, V.ref p1, V.ref p2, V.ref p3, V.ref p4, V.ref p5, V.ref p6] = pl at tL hps
    have hpl7 : pl.length = 7 := by rw [← hpl]; rfl
    generalize [V.int 2, V.int 6, V.int 12, V.int 12, V.int 20, V.int 54, V.int 72] = ml at tM hms
    refine ⟨_, rfl, 7, rfl, by decide, by decide, fun DD hD4 => ?_⟩
    have hDh : H DD = none := sA.free hD4
    refine lc_range (lo := 0) (n := (7 : Int).toNat) (fun i H3 => ∃ xs : List V, Same H1 H3 ∧ H3 DD = some (.lst xs) ∧ xs.length ≤ i ∧ (0 < i → 0 < xs.length) ∧ ∀ x ∈ xs, ∃ (p : Addr) (g : Nat × Nat), x = .ref p ∧ Good most g ∧ H1 p = some (.tup [.int (g.1 : Int), .int (g.2 : Int)]))
      ⟨[], same_upd hD4, upd_same, Nat.le_refl _, (fun h => absurd h (Nat.lt_irrefl _)), (fun _ h => by cases h)⟩ ?_ ?_
    · rintro i H3 hi ⟨xs, u1, u2, u3, u4, u5⟩
      have hi7 : i < 7 := hi
      obtain ⟨m, em, em2, em3⟩ := hms i hi7
      have hpi : i < pl.length := by omega
      obtain ⟨p, g, ep, eg, hp⟩ := hps i _ (List.getElem?_eq_getElem hpi)
      have ei : (0 + (i : Int)) = (i : Int) := by omega
      have ea : atI ml (0 + (i : Int)) = some (.int (m : Int)) := by rw [ei]; exact atI_nat em
      have eb : atI pl (0 + (i : Int)) = some (.ref p) := by rw [ei, ← ep]; exact atI_nat (List.getElem?_eq_getElem hpi)
      refine ⟨rfl, _, rfl, _, rfl, M, ml, _, _, rfl, rfl, .inl (.inl (u1 _ _ tM)), ea, _, rfl, _, _, rfl, rfl, _, rfl, ?_⟩
      by_cases hle : (m : Int) ≤ most
      · rw [decide_eq_true hle]
        refine iteT ⟨_, rfl, _, rfl, L, pl, _, _, rfl, rfl, .inl (.inl (u1 _ _ tL)), eb, xs, u2, by omega, xs ++ [.ref p], fun b o e => ?_, upd_same, by rw [List.length_append]; show xs.length + 1 ≤ i + 1; omega, fun _ => by rw [List.length_append]; show 0 < xs.length + 1; omega, fun x hx => ?_⟩
        · rw [upd_ne (ne_of_none e hD4)]
          exact u1 b o e
        · rcases List.mem_append.mp hx with hx | hx
          · exact u5 x hx
          · rw [List.mem_singleton.mp hx]
            exact ⟨p, g, rfl, ⟨i, m, eg, em2, hle⟩, hp⟩
      · rw [decide_eq_false hle]
        refine iteF ⟨xs, u1, u2, by omega, fun _ => u4 ?_, u5⟩
        rcases Nat.eq_zero_or_pos i with z | z
        · have := em3 z
          omega
        · exact z
    · rintro H3 ⟨xs, u1, u2, u3, u4, u5⟩
      have hD3 : Dice H3 d n := Same.dice (sA.trans u1) hD
      have hDd : DD ≠ d := hD.ne hDh
      have l7 : xs.length ≤ 7 := u3
      refine ⟨d, DD, n, xs, rfl, hD3, by omega, hDd, .inl (.inl u2), u4 (by decide), by omega, fun m x H4 hx hD4' k4 => ?_⟩
      obtain ⟨p, g, rfl, hg, hp⟩ := u5 x (List.mem_of_getElem? hx)
      have hgm := hg.mem
      have hg5 : 2 ≤ g.1 ∧ g.1 ≤ 5 := by
        have all : ∀ g ∈ tabG, 2 ≤ g.1 ∧ g.1 ≤ 5 := by decide
        exact all g hgm
      have kA : Kept H H4 d := (Kept.of (sA.trans u1)).trans k4
      have hpd : p ≠ d := fun z => by
        obtain ⟨a1, a2, a3, a4, e, _⟩ := Same.dice sA hD
        rw [← z, hp] at e
        cases e
      have hp4 : H4 p = some (.tup [.int (g.1 : Int), .int (g.2 : Int)]) := k4 _ _ hpd (u1 _ _ hp)
      refine ⟨p, _, rfl, .inl (.inl hp4), rfl, _, _, rfl, _, _, rfl, rfl, ?_⟩
      refine ⟨_, rfl, d, 2, n + 1, rfl, hD4', by omega, by decide, by decide, fun r H5 r0 r1 hD5 k5 => ⟨rfl, _, rfl, ?_⟩⟩
      refine ite2 (fun _ => ?_) (fun _ => ?_)
      · refine ⟨_, rfl, _, rfl, d, g.1, n + 2, rfl, hD5, by omega, by omega, fun u H6 hu1 hu2 hu3 hD6 k6 => ?_⟩
        refine ⟨_, rfl, two, fun p7 hp7 => ?_⟩
        have hk : Kept H (upd H6 p7 (.tup [.str (S u), .int (g.2 : Int)])) d := kA.trans (k5.trans (k6.trans (Kept.of (same_upd hp7))))
        have hp7n : H p7 = none := by
          cases e : H p7 with
          | none => rfl
          | some o =>
            have := (kA.trans (k5.trans k6)) p7 o (hD6.ne hp7) e
            rw [hp7] at this
            cases this
        refine q p7 _ u g.2 hp7n hk upd_same hu2 hu3 (by rw [hu1]; exact hg) ((Same.dice (same_upd hp7) hD6).more (by omega))
      · refine ⟨_, rfl, (g.1 : Int), rfl, Str.ofString "abcdefgh", rfl, by rw [abcdefgh, S_len]; show 8 ≤ sizeLine; decide, _, rfl, two, fun p7 hp7 => ?_⟩
        obtain ⟨v1, v2, v3⟩ := pair_lt (k := g.1) (by omega)
        have hp7n : H p7 = none := by
          cases e : H p7 with
          | none => rfl
          | some o =>
            have := (kA.trans k5) p7 o (hD5.ne hp7) e
            rw [hp7] at this
            cases this
        refine q p7 _ ((List.range' 97 8).take g.1) g.2 hp7n (kA.trans (k5.trans (Kept.of (same_upd hp7)))) ?_ v2 v3 (by rw [v1]; exact hg) ((Same.dice (same_upd hp7) hD5).more (by omega))
        rw [upd_same, abcdefgh, cut_take]
end
end K4
set_option Elab.async false
set_option linter.all false
set_option maxRecDepth 100000
set_option maxHeartbeats 4000000
/-! windows that repeat, in rings -/
namespace K4M
def cy (w : List Nat) (p k n : Nat) : List Nat := (List.range n).map fun i => w.getD ((i + k) % p) 0
theorem cy_len (w : List Nat) (p k n : Nat) : (cy w p k n).length = n := by unfold cy; rw [List.length_map, List.length_range]
theorem cy_get {w : List Nat} {p k n i : Nat} (h : i < n) : (cy w p k n)[i]? = some (w.getD ((i + k) % p) 0) := by
  unfold cy
  rw [List.getElem?_map, List.getElem?_range h]
  rfl
theorem cy_getD {w : List Nat} {p k n i : Nat} (h : i < n) : (cy w p k n).getD i 0 = w.getD ((i + k) % p) 0 := by
  rw [List.getD_eq_getElem?_getD, cy_get h]
  rfl
theorem ext_getD {u v : List Nat} (hl : u.length = v.length) (h : ∀ i, i < u.length → u.getD i 0 = v.getD i 0) : u = v := by
  apply List.ext_getElem hl
  intro i h1 h2
  have := h i h1
  rw [List.getD_eq_getElem?_getD, List.getD_eq_getElem?_getD, List.getElem?_eq_getElem h1, List.getElem?_eq_getElem h2] at this
  exact this
theorem per_getD {w : List Nat} {p : Nat} : Per w p ↔ ∀ i, i + p < w.length → w.getD i 0 = w.getD (i + p) 0 := by
  constructor
  · intro h i hi
    rw [List.getD_eq_getElem?_getD, List.getD_eq_getElem?_getD, h i hi]
  · intro h i hi
    have := h i hi
    rw [List.getD_eq_getElem?_getD, List.getD_eq_getElem?_getD, List.getElem?_eq_getElem (by omega), List.getElem?_eq_getElem hi] at this
    rw [List.getElem?_eq_getElem (by omega), List.getElem?_eq_getElem hi]
    exact congrArg some this
theorem per_mod {w : List Nat} {p : Nat} (h0 : 0 < p) (hp : Per w p) : ∀ i, i < w.length → w.getD i 0 = w.getD (i % p) 0 := by
  intro i
  induction i using Nat.strongRecOn with
  | ind i ih =>
    intro hi
    by_cases h : i < p
    · rw [Nat.mod_eq_of_lt h]
    · have e := ih (i - p) (by omega) (by omega)
      have e2 := per_getD.mp hp (i - p) (by omega)
      rw [show i - p + p = i by omega] at e2
      rw [← e2, e, Nat.mod_eq_sub_mod (a := i) (by omega)]
theorem cy_zero {w : List Nat} {p : Nat} (h0 : 0 < p) (hp : Per w p) : cy w p 0 w.length = w := by
  refine ext_getD (cy_len ..) fun i hi => ?_
  rw [cy_len] at hi
  rw [cy_getD hi, Nat.add_zero, ← per_mod h0 hp i hi]
theorem cy_cy {w : List Nat} {p k j n : Nat} (h0 : 0 < p) (hn : p ≤ n) : cy (cy w p k n) p j n = cy w p (k + j) n := by
  refine ext_getD (by rw [cy_len, cy_len]) fun i hi => ?_
  rw [cy_len] at hi
  have hm := Nat.mod_lt (i + j) h0
  rw [cy_getD hi, cy_getD hi, cy_getD (by omega)]
  congr 1
  rw [Nat.mod_add_mod]
  congr 1
  omega
theorem cy_mod {w : List Nat} {p k n : Nat} : cy w p (k % p) n = cy w p k n := by
  refine ext_getD (by rw [cy_len, cy_len]) fun i hi => ?_
  rw [cy_len] at hi
  rw [cy_getD hi, cy_getD hi, Nat.add_mod_mod]
theorem cy_per {w : List Nat} {p k n : Nat} : Per (cy w p k n) p := by
  refine per_getD.mpr fun i hi => ?_
  rw [cy_len] at hi
  rw [cy_getD (by omega), cy_getD hi]
  congr 1
  rw [show i + p + k = i + k + p by omega, Nat.add_mod_right]
theorem cy_sub {w : List Nat} {p q k n : Nat} (h0 : 0 < p) (h1 : 0 < q) (hd : q ∣ p) (hq : Per w q) (hn : p ≤ w.length) : cy w p k n = cy w q k n := by
  refine ext_getD (by rw [cy_len, cy_len]) fun i hi => ?_
  rw [cy_len] at hi
  have hm := Nat.mod_lt (i + k) h0
  rw [cy_getD hi, cy_getD hi, per_mod h1 hq _ (by omega), Nat.mod_mod_of_dvd _ hd]
theorem lp_per {w : List Nat} (h : w ≠ []) : Per w (lp w) := by
  obtain ⟨_, a2, a3, a4⟩ := lp_spec w h
  rcases Nat.lt_or_eq_of_le a3 with z | z
  · exact (had_iff w _).mp (a4 z)
  · rw [z]
    exact per_all w
theorem lp_le {w : List Nat} (h : w ≠ []) {d : Nat} (h0 : 0 < d) (hd : Per w d) : lp w ≤ d := by
  obtain ⟨a1, a2, a3, a4⟩ := lp_spec w h
  rcases Nat.lt_or_ge d (lp w) with z | z
  · have := a1 d h0 z
    rw [(had_iff w d).mpr hd] at this
    cases this
  · exact z
theorem lp_pos {w : List Nat} (h : w ≠ []) : 0 < lp w := (lp_spec w h).2.1
theorem lp_dvd {w : List Nat} (h : w ≠ []) {d : Nat} (h0 : 0 < d) (hd : Per w d) (hl : lp w + d ≤ w.length) : lp w ∣ d :=
  per_dvd (lp_pos h) (lp_per h) (fun q q0 q1 hq => absurd (lp_le h q0 hq) (by omega)) d h0 hd hl
/-- w repeats at least twice -/
def Half (w : List Nat) : Prop := w ≠ [] ∧ 2 * lp w ≤ w.length
theorem ne_of_len {u v : List Nat} (h : u.length = v.length) (hv : v ≠ []) : u ≠ [] := fun z => hv (List.eq_nil_of_length_eq_zero (by rw [← h, z]; rfl))
theorem back {p k : Nat} (h : 0 < p) : (k + (p - k % p)) % p = 0 := by
  have := Nat.mod_lt k h
  have e := Nat.div_add_mod k p
  rw [show k + (p - k % p) = p * (k / p) + p by omega, Nat.add_mod_right, Nat.mul_mod_right]
theorem lp_cy {w : List Nat} {k : Nat} (H : Half w) : lp (cy w (lp w) k w.length) = lp w := by
  obtain ⟨h, h2⟩ := H
  have p0 := lp_pos h
  have hv := ne_of_len (cy_len w (lp w) k w.length) h
  have le := lp_le hv p0 cy_per
  have q0 := lp_pos hv
  have dv := lp_dvd hv p0 cy_per (by rw [cy_len]; omega)
  have e : cy (cy w (lp w) k w.length) (lp w) (lp w - k % lp w) w.length = w := by
    rw [cy_cy p0 (by omega), ← cy_mod, back p0]
    exact cy_zero p0 (lp_per h)
  have e2 := cy_sub (k := lp w - k % lp w) (n := w.length) p0 q0 dv (lp_per hv) (by rw [cy_len]; omega)
  rw [e2] at e
  have : Per w (lp (cy w (lp w) k w.length)) := by
    have z := @cy_per (cy w (lp w) k w.length) (lp (cy w (lp w) k w.length)) (lp w - k % lp w) w.length
    rw [e] at z
    exact z
  have := lp_le h q0 this
  omega
def ringL (w : List Nat) : List (List Nat) := (List.range (lp w)).map fun k => cy w (lp w) k w.length
theorem ring_mem {w v : List Nat} (h : w ≠ []) : v ∈ ringL w ↔ ∃ k, v = cy w (lp w) k w.length := by
  unfold ringL
  rw [List.mem_map]
  constructor
  · rintro ⟨k, _, rfl⟩
    exact ⟨k, rfl⟩
  · rintro ⟨k, rfl⟩
    exact ⟨k % lp w, List.mem_range.mpr (Nat.mod_lt _ (lp_pos h)), cy_mod⟩
theorem ring_self {w : List Nat} (h : w ≠ []) : w ∈ ringL w := (ring_mem h).mpr ⟨0, (cy_zero (lp_pos h) (lp_per h)).symm⟩
theorem ring_half {w v : List Nat} (H : Half w) (hv : v ∈ ringL w) : Half v ∧ lp v = lp w ∧ v.length = w.length := by
  obtain ⟨k, rfl⟩ := (ring_mem H.1).mp hv
  have e := lp_cy (k := k) H
  refine ⟨⟨ne_of_len (cy_len ..) H.1, ?_⟩, e, cy_len ..⟩
  rw [e, cy_len]
  exact H.2
theorem ring_trans {w v u : List Nat} (H : Half w) (hv : v ∈ ringL w) (hu : u ∈ ringL v) : u ∈ ringL w := by
  obtain ⟨Hv, e1, e2⟩ := ring_half H hv
  obtain ⟨k, rfl⟩ := (ring_mem H.1).mp hv
  obtain ⟨j, rfl⟩ := (ring_mem Hv.1).mp hu
  rw [e1, e2, cy_cy (lp_pos H.1) (by have := H.2; omega)]
  exact (ring_mem H.1).mpr ⟨_, rfl⟩
theorem ring_symm {w v : List Nat} (H : Half w) (hv : v ∈ ringL w) : w ∈ ringL v := by
  obtain ⟨Hv, e1, e2⟩ := ring_half H hv
  obtain ⟨k, rfl⟩ := (ring_mem H.1).mp hv
  refine (ring_mem Hv.1).mpr ⟨lp w - k % lp w, ?_⟩
  rw [e1, e2, cy_cy (lp_pos H.1) (by have := H.2; omega), ← cy_mod, back (lp_pos H.1)]
  exact (cy_zero (lp_pos H.1) (lp_per H.1)).symm
theorem cy_sign {w : List Nat} {p k n c : Nat} (h : c ∈ cy w p k n) (h0 : 0 < p) (hp : p ≤ w.length) : c ∈ w := by
  obtain ⟨i, _, rfl⟩ := List.mem_map.mp h
  have hm := Nat.mod_lt (i + k) h0
  rw [List.getD_eq_getElem?_getD, List.getElem?_eq_getElem (by omega)]
  exact List.getElem_mem _
/-- the words of a length, ascending -/
def wl (cs : List Nat) : Nat → List (List Nat)
  | 0 => [[]]
  | n + 1 => (wl cs n).flatMap fun w => cs.map fun c => w ++ [c]
theorem wl_mem {cs : List Nat} : ∀ {n : Nat} {w : List Nat}, w ∈ wl cs n ↔ w.length = n ∧ ∀ c ∈ w, c ∈ cs
  | 0, w => by
    constructor
    · intro h
      rw [List.mem_singleton.mp h]
      exact ⟨rfl, fun c hc => by cases hc⟩
    · intro h
      exact List.mem_singleton.mpr (List.eq_nil_of_length_eq_zero h.1)
  | n + 1, w => by
    unfold wl
    rw [List.mem_flatMap]
    constructor
    · rintro ⟨v, hv, hw⟩
      obtain ⟨c, hc, rfl⟩ := List.mem_map.mp hw
      obtain ⟨a, b⟩ := wl_mem.mp hv
      refine ⟨by rw [List.length_append, a]; rfl, fun d hd => ?_⟩
      rcases List.mem_append.mp hd with z | z
      · exact b d z
      · rw [List.mem_singleton.mp z]
        exact hc
    · rintro ⟨a, b⟩
      have hne : w ≠ [] := fun z => by rw [z] at a; cases a
      refine ⟨w.dropLast, wl_mem.mpr ⟨by rw [List.length_dropLast, a]; rfl, fun c hc => b c (List.dropLast_subset w hc)⟩, List.mem_map.mpr ⟨w.getLast hne, b _ (List.getLast_mem hne), List.dropLast_concat_getLast hne⟩⟩
theorem lt_snoc {u v : List Nat} (hl : u.length = v.length) (h : u < v) (x y : Nat) : u ++ [x] < v ++ [y] := by
  induction u generalizing v with
  | nil =>
    cases v with
    | nil => exact absurd h (List.lt_irrefl _)
    | cons b v => cases hl
  | cons a u ih =>
    cases v with
    | nil => cases hl
    | cons b v =>
      rw [List.cons_append, List.cons_append]
      rw [List.cons_lt_cons_iff] at h ⊢
      rcases h with z | ⟨z1, z2⟩
      · exact .inl z
      · exact .inr ⟨z1, ih (by simpa using hl) z2⟩
theorem snoc_lt (u : List Nat) {x y : Nat} (h : x < y) : u ++ [x] < u ++ [y] := by
  induction u with
  | nil => exact List.cons_lt_cons_iff.mpr (.inl h)
  | cons a u ih => exact List.cons_lt_cons_iff.mpr (.inr ⟨rfl, ih⟩)
theorem wl_sorted {cs : List Nat} (hc : cs.Pairwise (· < ·)) : ∀ n, (wl cs n).Pairwise (· < ·)
  | 0 => List.pairwise_singleton _ _
  | n + 1 => by
    unfold wl
    rw [List.flatMap_def, List.pairwise_flatten]
    refine ⟨fun l hl => ?_, ?_⟩
    · obtain ⟨w, _, rfl⟩ := List.mem_map.mp hl
      rw [List.pairwise_map]
      exact hc.imp fun h => snoc_lt w h
    · rw [List.pairwise_map]
      refine (wl_sorted hc n).imp_of_mem fun {u v} hu hv h => ?_
      intro a ha b hb
      obtain ⟨x, _, rfl⟩ := List.mem_map.mp ha
      obtain ⟨y, _, rfl⟩ := List.mem_map.mp hb
      exact lt_snoc (by rw [(wl_mem.mp hu).1, (wl_mem.mp hv).1]) h x y
end K4M
set_option Elab.async false
set_option linter.all false
set_option maxRecDepth 100000
set_option maxHeartbeats 4000000
namespace K4M
/-- the windows that repeat -/
def bad (cs : List Nat) (g : Nat) : List (List Nat) := (wl cs (2 * g - 2)).filter fun w => decide (lp w < g)
theorem bad_mem {cs : List Nat} {g : Nat} {w : List Nat} : w ∈ bad cs g ↔ (w.length = 2 * g - 2 ∧ ∀ c ∈ w, c ∈ cs) ∧ lp w < g := by
  unfold bad
  rw [List.mem_filter, wl_mem, decide_eq_true_eq]
theorem bad_half {cs : List Nat} {g : Nat} (hg : 2 ≤ g) {w : List Nat} (h : w ∈ bad cs g) : Half w := by
  obtain ⟨⟨h1, _⟩, h3⟩ := bad_mem.mp h
  exact ⟨fun z => by rw [z] at h1; simp at h1; omega, by omega⟩
theorem bad_sorted {cs : List Nat} {g : Nat} (hc : cs.Pairwise (· < ·)) : (bad cs g).Pairwise (· < ·) := (wl_sorted hc _).filter _
theorem ring_bad {cs : List Nat} {g : Nat} (hg : 2 ≤ g) {w v : List Nat} (h : w ∈ bad cs g) (hv : v ∈ ringL w) : v ∈ bad cs g := by
  have H := bad_half hg h
  obtain ⟨⟨h1, h2⟩, h3⟩ := bad_mem.mp h
  obtain ⟨_, e1, e2⟩ := ring_half H hv
  obtain ⟨k, rfl⟩ := (ring_mem H.1).mp hv
  refine bad_mem.mpr ⟨⟨by omega, fun c hc => h2 c (cy_sign hc (lp_pos H.1) (by have := H.2; omega))⟩, by omega⟩
/-- the least of its ring -/
def least (w : List Nat) : Bool := (ringL w).all fun v => !decide (v < w)
def rings (cs : List Nat) (g : Nat) : List (List (List Nat)) := ((bad cs g).filter least).map ringL
theorem least_false {w : List Nat} : least w = false ↔ ∃ v ∈ ringL w, v < w := by
  unfold least
  rw [List.all_eq_false]
  constructor
  · rintro ⟨v, h1, h2⟩
    exact ⟨v, h1, by simpa using h2⟩
  · rintro ⟨v, h1, h2⟩
    exact ⟨v, h1, by simpa using h2⟩
theorem least_eq {w m : List Nat} (h : w ≠ []) (hm : m ∈ ringL w) (hl : ∀ v ∈ ringL w, ¬ v < m) : (w == m) = least w := by
  cases e : least w with
  | false =>
    obtain ⟨v, h1, h2⟩ := least_false.mp e
    refine beq_eq_false_iff_ne.mpr fun z => hl v h1 (z ▸ h2)
  | true =>
    have h1 := List.all_eq_true.mp e m hm
    have h2 : ¬ m < w := by simpa using h1
    have h3 : ¬ w < m := hl w (ring_self h)
    exact beq_iff_eq.mpr (List.le_antisymm h2 h3)
theorem take_snoc {α : Type} {l : List α} {i : Nat} {x : α} (h : l[i]? = some x) : l.take (i + 1) = l.take i ++ [x] := by
  rw [List.take_add_one, h]
  rfl
theorem seen_step {cs : List Nat} {g i : Nat} {w : List Nat} (hc : cs.Pairwise (· < ·)) (hg : 2 ≤ g) (hw : (bad cs g)[i]? = some w) : (∃ u ∈ (bad cs g).take i, w ∈ ringL u) ↔ least w = false := by
  obtain ⟨hi, ew⟩ := List.getElem?_eq_some_iff.mp hw
  have wm : w ∈ bad cs g := List.mem_of_getElem? hw
  have srt := List.pairwise_iff_getElem.mp (bad_sorted (g := g) hc)
  rw [least_false]
  constructor
  · rintro ⟨u, hu, hwu⟩
    obtain ⟨j, hj, e⟩ := List.mem_iff_getElem.mp hu
    rw [List.length_take] at hj
    rw [List.getElem_take] at e
    have um : u ∈ bad cs g := e ▸ List.getElem_mem _
    refine ⟨u, ring_symm (bad_half hg um) hwu, ?_⟩
    rw [← e, ← ew]
    exact srt j i (by omega) hi (by omega)
  · rintro ⟨v, hv, hlt⟩
    have vm := ring_bad hg wm hv
    obtain ⟨j, hj, e⟩ := List.mem_iff_getElem.mp vm
    have hji : j < i := by
      rcases Nat.lt_trichotomy j i with z | z | z
      · exact z
      · subst z
        rw [← e, ← ew] at hlt
        exact absurd hlt (List.lt_irrefl _)
      · have := srt i j hi hj z
        rw [ew, e] at this
        exact absurd (List.lt_trans this hlt) (List.lt_irrefl _)
    refine ⟨v, List.mem_iff_getElem.mpr ⟨j, by rw [List.length_take]; omega, by rw [List.getElem_take]; exact e⟩, ring_symm (bad_half hg wm) hv⟩
theorem seen_more {cs : List Nat} {g i : Nat} {w k : List Nat} (hw : (bad cs g)[i]? = some w) : (∃ u ∈ (bad cs g).take (i + 1), k ∈ ringL u) ↔ (∃ u ∈ (bad cs g).take i, k ∈ ringL u) ∨ k ∈ ringL w := by
  rw [take_snoc hw]
  constructor
  · rintro ⟨u, hu, hk⟩
    rcases List.mem_append.mp hu with z | z
    · exact .inl ⟨u, z, hk⟩
    · exact .inr (List.mem_singleton.mp z ▸ hk)
  · rintro (⟨u, hu, hk⟩ | hk)
    · exact ⟨u, List.mem_append_left _ hu, hk⟩
    · exact ⟨w, List.mem_append_right _ (List.mem_singleton.mpr rfl), hk⟩
theorem seen_skip {cs : List Nat} {g i : Nat} {w k : List Nat} (hg : 2 ≤ g) (hs : ∃ u ∈ (bad cs g).take i, w ∈ ringL u) (hk : k ∈ ringL w) : ∃ u ∈ (bad cs g).take i, k ∈ ringL u := by
  obtain ⟨u, hu, hw⟩ := hs
  exact ⟨u, hu, ring_trans (bad_half hg (List.mem_of_mem_take hu)) hw hk⟩
theorem cy_next {w : List Nat} {p k n : Nat} (h0 : 0 < p) (hp : p ≤ n) : cy w p (k + 1) n = (cy w p k n).drop 1 ++ [(cy w p k n).getD (n - p) 0] := by
  refine ext_getD (by rw [List.length_append, List.length_drop, cy_len, cy_len, List.length_singleton]; omega) fun i hi => ?_
  rw [cy_len] at hi
  rw [cy_getD hi]
  by_cases h : i < n - 1
  · rw [List.getD_eq_getElem?_getD, List.getD_eq_getElem?_getD, List.getElem?_append_left (by rw [List.length_drop, cy_len]; omega), List.getElem?_drop, cy_get (by omega), show i + (k + 1) = 1 + i + k by omega, List.getD_eq_getElem?_getD]
    rfl
  · rw [List.getD_eq_getElem?_getD (l := _ ++ _), List.getElem?_append_right (by rw [List.length_drop, cy_len]; omega), List.length_drop, cy_len, show i - (n - 1) = 0 by omega]
    show _ = (cy w p k n).getD (n - p) 0
    rw [cy_getD (by omega)]
    congr 1
    rw [show i + (k + 1) = n - p + k + p by omega, Nat.add_mod_right]
theorem next_one {cs : List Nat} {g : Nat} (hg : 2 ≤ g) {w : List Nat} (hw : w ∈ bad cs g) {c : Nat} : w.drop 1 ++ [c] ∈ bad cs g ↔ c = w.getD (w.length - lp w) 0 := by
  have H := bad_half hg hw
  have p0 := lp_pos H.1
  obtain ⟨⟨h1, h2⟩, h3⟩ := bad_mem.mp hw
  constructor
  · intro hv
    have Hv := bad_half hg hv
    have q0 := lp_pos Hv.1
    obtain ⟨⟨g1, g2⟩, g3⟩ := bad_mem.mp hv
    have pv := per_getD.mp (lp_per Hv.1)
    generalize lp (w.drop 1 ++ [c]) = q at *
    have e1 := pv (w.length - 1 - q) (by rw [g1]; omega)
    rw [List.getD_eq_getElem?_getD, List.getD_eq_getElem?_getD, List.getElem?_append_left (by rw [List.length_drop]; omega), List.getElem?_append_right (by rw [List.length_drop]; omega), List.length_drop, show w.length - 1 - q + q - (w.length - 1) = 0 by omega] at e1
    have e2 : ((w.drop 1)[w.length - 1 - q]?).getD 0 = c := e1
    rw [← e2]
    by_cases hpq : lp w = q
    · rw [List.getElem?_drop, List.getD_eq_getElem?_getD, hpq, show 1 + (w.length - 1 - q) = w.length - q by omega]
    · have hu : w.drop 1 ≠ [] := fun z => by
        have := congrArg List.length z
        rw [List.length_drop] at this
        simp at this
        omega
      have lu : (w.drop 1).length = w.length - 1 := List.length_drop
      have hp : Per (w.drop 1) (lp w) := per_drop (lp_per H.1) 1
      have hq : Per (w.drop 1) q := per_getD.mpr fun i hi => by
        have := pv i (by rw [g1]; omega)
        rw [List.getD_eq_getElem?_getD, List.getD_eq_getElem?_getD, List.getElem?_append_left (by omega), List.getElem?_append_left (by omega)] at this
        rw [List.getD_eq_getElem?_getD, List.getD_eq_getElem?_getD]
        exact this
      have d0 := lp_pos hu
      have lep := lp_le hu p0 hp
      have leq := lp_le hu q0 hq
      have dp := lp_dvd hu p0 hp (by omega)
      have dq := lp_dvd hu q0 hq (by omega)
      have a1 := per_mod d0 (lp_per hu) (w.length - 1 - q) (by omega)
      have a2 := per_mod d0 (lp_per hu) (w.length - 1 - lp w) (by omega)
      have b1 : (w.length - 1 - q) % lp (w.drop 1) = (w.length - 1) % lp (w.drop 1) := by
        obtain ⟨m, em⟩ := dq
        rw [show w.length - 1 = w.length - 1 - q + lp (w.drop 1) * m by omega, Nat.add_mul_mod_self_left]
        congr 1
        omega
      have b2 : (w.length - 1 - lp w) % lp (w.drop 1) = (w.length - 1) % lp (w.drop 1) := by
        obtain ⟨m, em⟩ := dp
        rw [show w.length - 1 = w.length - 1 - lp w + lp (w.drop 1) * m by omega, Nat.add_mul_mod_self_left]
        congr 1
        omega
      rw [b1] at a1
      rw [b2, ← a1, List.getD_eq_getElem?_getD, List.getD_eq_getElem?_getD, List.getElem?_drop, show 1 + (w.length - 1 - lp w) = w.length - lp w by omega] at a2
      rw [← a2, List.getD_eq_getElem?_getD]
  · intro e
    have e1 := @cy_next w (lp w) 0 w.length p0 (by have := H.2; omega)
    rw [cy_zero p0 (lp_per H.1), ← e] at e1
    rw [← e1]
    exact ring_bad hg hw ((ring_mem H.1).mpr ⟨_, rfl⟩)
theorem filter_eq_one {cs : List Nat} (hn : cs.Nodup) {c : Nat} (hc : c ∈ cs) {f : Nat → Bool} (hf : ∀ x ∈ cs, f x = true ↔ x = c) : (cs.filter f).length = 1 := by
  induction cs with
  | nil => cases hc
  | cons a r ih =>
    obtain ⟨h1, h2⟩ := List.nodup_cons.mp hn
    rw [List.filter_cons]
    by_cases h : a = c
    · rw [if_pos ((hf a List.mem_cons_self).mpr h)]
      have : r.filter f = [] := by
        rw [List.filter_eq_nil_iff]
        intro x hx hfx
        have := (hf x (List.mem_cons_of_mem _ hx)).mp hfx
        exact h1 (h ▸ this ▸ hx)
      rw [this]
      rfl
    · rw [if_neg fun z => h ((hf a List.mem_cons_self).mp z)]
      exact ih h2 ((List.mem_cons.mp hc).resolve_left fun z => h z.symm) fun x hx => hf x (List.mem_cons_of_mem _ hx)
theorem one_next {cs : List Nat} {g : Nat} (hn : cs.Nodup) (hg : 2 ≤ g) {w : List Nat} (hw : w ∈ bad cs g) : ((cs.map fun c => w.drop 1 ++ [c]).filter fun v => (bad cs g).contains v).length = 1 := by
  rw [List.filter_map, List.length_map]
  have H := bad_half hg hw
  have := lp_pos H.1
  refine filter_eq_one hn (c := w.getD (w.length - lp w) 0) ?_ fun x _ => ?_
  · rw [List.getD_eq_getElem?_getD, List.getElem?_eq_getElem (by have := H.2; omega)]
    exact (bad_mem.mp hw).1.2 _ (List.getElem_mem _)
  · show (bad cs g).contains (w.drop 1 ++ [x]) = true ↔ _
    rw [List.contains_iff_mem]
    exact next_one hg hw
theorem ring_row {w : List Nat} {p at' : Nat} (h0 : 0 < p) (hp : p ≤ w.length) (ha : at' < p) : ((rep (w.take p) (w.length / p + 2)).drop at').take w.length = cy w p at' w.length := by
  have lt : (w.take p).length = p := by rw [List.length_take]; omega
  have lr : (rep (w.take p) (w.length / p + 2)).length = (w.length / p + 2) * p := by rw [rep_len, lt]
  have big : w.length + p ≤ (w.length / p + 2) * p := by
    have e := Nat.div_add_mod w.length p
    have := Nat.mod_lt w.length h0
    rw [Nat.add_mul, Nat.mul_comm (w.length / p) p]
    omega
  refine ext_getD (by rw [cy_len, List.length_take, List.length_drop, lr]; omega) fun i hi => ?_
  rw [List.length_take, List.length_drop, lr] at hi
  have hm := Nat.mod_lt (at' + i) h0
  rw [cy_getD (by omega), List.getD_eq_getElem?_getD, List.getElem?_take_of_lt (by omega), List.getElem?_drop, ← List.getD_eq_getElem?_getD]
  have e1 := per_mod h0 (lt ▸ rep_per (u := w.take p) (w.length / p + 2)) (at' + i) (by rw [lr]; omega)
  rw [e1, rep_succ, List.getD_eq_getElem?_getD, List.getElem?_append_left (by omega), List.getElem?_take_of_lt hm, Nat.add_comm at' i, List.getD_eq_getElem?_getD]
theorem dt_had {w : List Nat} {p : Nat} : (w.drop p == w.take (w.length - p)) = had w p := by
  unfold had
  rw [Bool.eq_iff_iff, beq_iff_eq, List.isPrefixOf_iff_prefix, List.prefix_iff_eq_take, List.length_drop]
theorem law_lp {w : List Nat} (h : w ≠ []) : ((List.range' 1 w.length).filter (fun p => w.drop p == w.take (w.length - p))).headD 0 = lp w := by
  obtain ⟨a1, a2, a3, a4⟩ := lp_spec w h
  refine headD_filter w.length 1 a2 (by omega) ?_ fun j h1 h2 => ?_
  · show (w.drop (lp w) == w.take (w.length - lp w)) = true
    rw [dt_had, had_iff]
    exact lp_per h
  · show (w.drop j == w.take (w.length - j)) = false
    rw [dt_had]
    exact a1 j h1 h2
theorem law_rep {w : List Nat} {g : Nat} (hw : w ≠ []) (hg : g ≤ w.length) : ((List.range' 1 (g - 1)).any fun p => w.drop p == w.take (w.length - p)) = decide (lp w < g) := by
  have p0 := lp_pos hw
  by_cases h : lp w < g
  · rw [decide_eq_true h, List.any_eq_true]
    refine ⟨lp w, List.mem_range'_1.mpr (by omega), ?_⟩
    rw [dt_had, had_iff]
    exact lp_per hw
  · rw [decide_eq_false h, List.any_eq_false]
    intro j hj
    have := List.mem_range'_1.mp hj
    rw [dt_had, (lp_spec w hw).1 j (by omega) (by omega)]
    exact Bool.false_ne_true
end K4M
set_option Elab.async false
set_option linter.all false
set_option maxRecDepth 100000
set_option maxHeartbeats 4000000
namespace K4
open PySem PySem.Spec PyProof.Rows L2 K4M
section
variable {P : Program} {w : World} {K : PySem.W.Frag} {mg : Str → Option Value} {base : Heap}
/-! ### all words -/
/-- texts -/
def strsV (ws : List (List Nat)) : List V := ws.map fun u => V.str (S u)
def blsV (l : List Bool) : List V := l.map V.bl
theorem wl_eq (cs : List Nat) : ∀ n, wl cs n = wordsOf cs n
  | 0 => rfl
  | n + 1 => by
    show (wl cs n).flatMap _ = (wordsOf cs n).flatMap _
    rw [wl_eq cs n]
theorem words_len (cs : List Nat) : ∀ n, (wordsOf cs n).length = cs.length ^ n
  | 0 => rfl
  | n + 1 => by
    have : ∀ l : List (List Nat), (l.flatMap fun u => cs.map fun c => u ++ [c]).length = l.length * cs.length := fun l => by
      induction l with
      | nil => simp
      | cons a r ih => rw [List.flatMap_cons, List.length_append, ih, List.length_map, List.length_cons, Nat.add_mul, Nat.one_mul]; omega
    show ((wordsOf cs n).flatMap _).length = _
    rw [this, words_len cs n, Nat.pow_succ]
theorem flat_take {l : List (List Nat)} {cs : List Nat} {j : Nat} {u : List Nat} (h : l[j]? = some u) : (l.take (j + 1)).flatMap (fun u => cs.map fun c => u ++ [c]) = (l.take j).flatMap (fun u => cs.map fun c => u ++ [c]) ++ cs.map fun c => u ++ [c] := by
  rw [List.take_add_one, h, List.flatMap_append]
  congr 1
  simp
theorem flat_len (cs : List Nat) (l : List (List Nat)) : (l.flatMap fun u => cs.map fun c => u ++ [c]).length = l.length * cs.length := by
  induction l with
  | nil => simp
  | cons a r ih => rw [List.flatMap_cons, List.length_append, ih, List.length_map, List.length_cons, Nat.add_mul, Nat.one_mul]; omega
theorem sc_words : FnScope ["signs", "size", "found", "spin", "longer", "word", "sign"] ["signs", "size"] (defScope st__law_words_of) := ⟨rfl, rfl, rfl, by decide +kernel, rfl, by decide +kernel, by decide +kernel⟩
def spWords : Sp := fun vs H Q _ => ∃ (cs : List Nat) (n : Nat), vs = [.str (S cs), .int (n : Int)] ∧ 1 ≤ cs.length ∧ cs.length ≤ 26 ∧ n ≤ 1000 ∧ cs.length ^ n ≤ 5000 ∧ ∀ (L : Addr) (H' : Hp), H L = none → Same H H' → H' L = some (.lst (strsV (wl cs n))) → Q (.ref L) H'
theorem ok_words (B : Bi mg) (D : Df K mg "_law_words_of" st__law_words_of ["signs", "size"]) : FnOk P w K mg base CX0 1 D.f D.fd ["signs", "size"] spWords := by
  refine D.F.ok sc_words (fun vs H Q E h => ?_) (fun cdv A outer s' H vs Q E hr h => ?_)
  · obtain ⟨cs, n, rfl, _⟩ := h
    rfl
  · obtain ⟨cs, n, rfl, hc1, hc, hn, hp5, q⟩ := h
    refine ⟨_, pss_cons (ps_set (i := 2) sc_words.nd rfl (.inl rfl) (pe_lst (pa_cons pe_str pa_nil)))
      (pss_cons (ps_for PassesOwn.never rfl (pi_range1 (by rfl) B.range (pa_cons (pv 1) pa_nil)) (pg_name (i := 3) sc_words.nd rfl (.inl rfl))
        (pss_cons (ps_set (i := 4) sc_words.nd rfl (.inl rfl) (pe_lst pa_nil))
        (pss_cons (ps_for PassesOwn.never rfl (pi_list (pv 2)) (pg_name (i := 5) sc_words.nd rfl (.inr rfl))
          (pss_one (ps_set (i := 4) sc_words.nd rfl (.inl rfl) (pe_op op_cat (pv 4) (pe_lc (own := [("sign", 6)]) (g := gName 6) (tt := tYes) rfl sc_words.nd
            (pi_list (pe_callTy (call_listS rfl) (by rfl) B.list (by decide +kernel) (pa_cons (pv 0) pa_nil)))
            (blkOk_by (N := ["signs", "size", "found", "spin", "longer", "word", "sign"]) (sc := defScope st__law_words_of) (by decide +kernel))
            (fun _ _ _ _ _ => pg_name (i := 6) sc_words.nd rfl (.inl rfl))
            (fun _ _ _ _ _ => pts_nil)
            (fun _ _ _ _ _ => pe_op op_add_str (pv 5) (pv 6)))))))
        (pss_one (ps_set (i := 2) sc_words.nd rfl (.inl rfl) (pv 4))))))
      (pss_one (ps_ret (pv 2)))), ?_⟩
    have e16 : sizeLine = 16777216 := by decide
    refine ⟨(by show 1 ≤ sizeLine; decide), fun L0 hL0 => ?_⟩
    refine ⟨_, rfl, n, rfl, by omega, by omega, ?_⟩
    refine for_range (lo := 0) (n := (n : Int).toNat) (fun i σ H2 => ∃ (L : Addr) (y3 y4 y5 : Option V), σ = [some (.str (S cs)), some (.int n), some (.ref L), y3, y4, y5, none] ∧ H L = none ∧ Same H H2 ∧ H2 L = some (.lst (strsV (wordsOf cs i))))
      ⟨L0, none, none, none, rfl, hL0, same_upd hL0, upd_same⟩ ?_ ?_
    · rintro i σ H2 hi ⟨L, y3, y4, y5, rfl, hL, sm, hLs⟩
      refine ⟨Nat.zero_le _, fun L1 hL1 => ?_⟩
      have sm1 : Same H2 (upd H2 L1 (.lst [])) := same_upd hL1
      refine ⟨_, rfl, L, rfl, ⟨_, .inl (.inl (sm1 _ _ hLs))⟩, ?_⟩
      have hwl := words_len cs i
      have hpow : cs.length ^ i ≤ 5000 := Nat.le_trans (Nat.pow_le_pow_right hc1 (by omega)) hp5
      refine for_list (K := K) (a := L) (xs := strsV (wordsOf cs i)) (fun j σ H3 => ∃ (L' : Addr) (y5 : Option V), σ = [some (.str (S cs)), some (.int n), some (.ref L), some (.int (0 + (i : Int))), some (.ref L'), y5, none] ∧ H2 L' = none ∧ Same H2 H3 ∧ H3 L' = some (.lst (strsV (((wordsOf cs i).take j).flatMap fun u => cs.map fun c => u ++ [c]))))
        ⟨L1, y5, rfl, hL1, sm1, upd_same⟩ (fun j σ H3 _ ⟨_, _, _, _, s3, _⟩ => .inl (.inl (s3 _ _ hLs))) ?_ ?_
      · rintro j x σ H3 hj ⟨L', y5', rfl, hL', s3, hL's⟩
        unfold strsV at hj
        rw [List.getElem?_map] at hj
        obtain ⟨u, hu, rfl⟩ : ∃ u, (wordsOf cs i)[j]? = some u ∧ x = V.str (S u) := by
          cases e : (wordsOf cs i)[j]? with
          | none => rw [e] at hj; cases hj
          | some u => rw [e] at hj; exact ⟨u, rfl, (Option.some.inj hj).symm⟩
        obtain ⟨hul, huc⟩ := wordsOf_mem (List.mem_of_getElem? hu)
        have hjl : j < cs.length ^ i := by
          rw [← hwl]
          exact (List.getElem?_eq_some_iff.mp hu).1
        have jbound : ((((wordsOf cs i).take j).flatMap fun u => cs.map fun c => u ++ [c])).length ≤ 130000 := by
          rw [flat_len, List.length_take]
          have : min j (wordsOf cs i).length * cs.length ≤ 5000 * 26 := Nat.mul_le_mul (by omega) hc
          omega
        refine ⟨_, rfl, _, rfl, cs, rfl, by omega, fun Ls hLs' => ?_⟩
        have s4 : Same H3 (upd H3 Ls (.lst (signsV cs))) := same_upd hLs'
        refine ⟨Ls, rfl, ⟨_, .inl (.inl upd_same)⟩, fun DD hD => ?_⟩
        have hD3 : H3 DD = none := s4.free hD
        have hDL : DD ≠ Ls := fun z => by
          rw [z, upd_same] at hD
          cases hD
        have hLsD : Ls ≠ DD := hDL.symm
        refine lc_list (K := K) (a := Ls) (xs := signsV cs) (fun m H5 => Same H3 H5 ∧ H5 Ls = some (.lst (signsV cs)) ∧ H5 DD = some (.lst (strsV ((cs.take m).map fun c => u ++ [c]))))
          ⟨s4.trans (same_upd hD), by rw [upd_ne hLsD, upd_same], upd_same⟩ (fun m H5 _ z => .inl (.inl z.2.1)) ?_ ?_
        · rintro m x H5 hm ⟨t1, t2, t3⟩
          unfold signsV at hm
          rw [List.getElem?_map] at hm
          obtain ⟨c, hcm, rfl⟩ : ∃ c, cs[m]? = some c ∧ x = V.str (S [c]) := by
            cases e : cs[m]? with
            | none => rw [e] at hm; cases hm
            | some c => rw [e] at hm; exact ⟨c, rfl, (Option.some.inj hm).symm⟩
          have hml : m < cs.length := (List.getElem?_eq_some_iff.mp hcm).1
          refine ⟨rfl, _, rfl, _, rfl, _, _, rfl, rfl, by rw [S_len, S_len, hul]; show i + 1 ≤ _; omega, ?_⟩
          refine ⟨_, t3, ?_, fun b o e => ?_, ?_, ?_⟩
          · unfold strsV
            rw [List.length_map, List.length_map, List.length_take]
            omega
          · rw [upd_ne (ne_of_none e hD3)]
            exact t1 b o e
          · rw [upd_ne hLsD]
            exact t2
          · rw [upd_same, S_app, List.take_add_one, hcm]
            unfold strsV
            rw [List.map_append, List.map_append]
            rfl
        · rintro H5 ⟨t1, t2, t3⟩
          have lsv : (signsV cs).length = cs.length := by
            unfold signsV
            rw [List.length_map]
          rw [lsv, List.take_length] at t3
          refine ⟨_, _, _, _, rfl, rfl, t1 _ _ hL's, t3, ?_, fun p hp => ?_⟩
          · unfold strsV
            rw [List.length_map, List.length_map, List.length_map]
            omega
          · refine ⟨p, some (.str (S u)), rfl, s3.free (t1.free hp), fun b o e => ?_, ?_⟩
            · rw [upd_ne (ne_of_none (t1 _ _ (s3 _ _ e)) hp)]
              exact t1 _ _ (s3 _ _ e)
            · rw [upd_same, flat_take hu]
              unfold strsV
              rw [List.map_append]
      · rintro σ H3 ⟨L', y5', rfl, hL', s3, hL's⟩
        have lsv : (strsV (wordsOf cs i)).length = (wordsOf cs i).length := by
          unfold strsV
          rw [List.length_map]
        rw [lsv, List.take_length] at hL's
        exact ⟨_, rfl, L', some (.int (0 + (i : Int))), some (.ref L'), y5', rfl, sm.free hL', sm.trans s3, hL's⟩
    · rintro σ H2 ⟨L, y3, y4, y5, rfl, hL, sm, hLs⟩
      rw [show ((n : Int).toNat) = n by omega, ← wl_eq] at hLs
      exact ⟨_, rfl, q L H2 hL sm hLs⟩
end
end K4
set_option Elab.async false
set_option linter.all false
set_option maxRecDepth 100000
set_option maxHeartbeats 4000000
namespace K4
open PySem PySem.Spec PyProof.Rows L2 K4M K4S
/-! ### grounds -/
/-- what the top has made of the class -/
structure Gr (K : PySem.W.Frag) (mg : Str → Option Value) (C : Addr) : Prop where
  cl : Cls K C
  nS : NoAttr K C "_signs"
  nG : NoAttr K C "_gap"
  g : mg "Ground" = some (.ref C)
  ha : PySem.W.findIn K (.ref C) "__class__" = some (some (.builtin "object.__class__"))
  hn : PySem.W.specialIn K (.builtin "object.__class__") "__get__" = some (some (.builtin "getset_descriptor.__get__"))
  htk : PySem.W.takesIn K (.builtin "object.__class__") = some true
  hm : PySem.W.mroIn K C (.type "object") = some true
  ki : PySem.W.kitOne K (.ref C) (.ref C) = some true
/-- a method: where it stands, and its promise -/
structure Mt (P : Program) (w : World) (K : PySem.W.Frag) (mg : Str → Option Value) (base : Heap) (C : Addr) (k : Nat) (m : Str) (ps : List Str) (sp : Sp) where
  f : Addr
  fd : FuncData
  ok : FnOk P w K mg base CX0 k f fd ps sp
  me : Meth K C m f
  b : Binds K fd ps []
structure Dm (K : PySem.W.Frag) (C : Addr) (m q : Str) (st : Stmt) (ps : List Str) where
  f : Addr
  fd : FuncData
  F : Fun K m q st f fd
  me : Meth K C m f
  b : Binds K fd ps []
/-- the class's maker -/
structure Di (K : PySem.W.Frag) (C : Addr) (q : Str) (st : Stmt) (ps : List Str) where
  f : Addr
  fd : FuncData
  F : Fun K "__init__" q st f fd
  mm : Mk K C f
  b : Binds K fd ps []
structure Ma (P : Program) (w : World) (K : PySem.W.Frag) (mg : Str → Option Value) (base : Heap) (C : Addr) (k : Nat) (ps : List Str) (sp : Sp) where
  f : Addr
  fd : FuncData
  ok : FnOk P w K mg base CX0 k f fd ps sp
  mm : Mk K C f
  b : Binds K fd ps []
theorem gne : ¬ (("_signs" : Str) = "_gap") := by decide +kernel
def gf (u : List Nat) (g : Nat) : List (Str × V) := putF "_gap" (.int (g : Int)) (putF "_signs" (.str (S u)) [])
theorem gf_s {u : List Nat} {g : Nat} : (gf u g).lookup ("_signs" : Str) = some (V.str (S u)) := by
  unfold gf
  rw [lookup_putF, if_neg gne, lookup_putF, if_pos rfl]
theorem gf_g {u : List Nat} {g : Nat} : (gf u g).lookup ("_gap" : Str) = some (V.int (g : Int)) := by
  unfold gf
  rw [lookup_putF, if_pos rfl]
theorem gf_no {u : List Nat} {g : Nat} {m : Str} (h1 : ¬ m = "_gap") (h2 : ¬ m = "_signs") : (gf u g).lookup m = none := by
  unfold gf
  rw [lookup_putF, if_neg h1, lookup_putF, if_neg h2]
  rfl
/-- a ground stands at p -/
def GAt (C : Addr) (H : Hp) (p : Addr) (u : List Nat) (g : Nat) : Prop := ∃ dx, H p = some (.ins C dx (gf u g))
theorem GAt.same {C p : Addr} {H H' : Hp} {u : List Nat} {g : Nat} (h : GAt C H p u g) (s : Same H H') : GAt C H' p u g := by
  obtain ⟨dx, e⟩ := h
  exact ⟨dx, s _ _ e⟩
/-- signs and a gap as a ground has them -/
structure Gd (u : List Nat) (g : Nat) : Prop where
  low : Low u
  up : u.Pairwise (· < ·)
  two : 2 ≤ u.length
  few : u.length ≤ 26
  gap : 2 ≤ g
  max : g ≤ 1000
section
variable {P : Program} {w : World} {K : PySem.W.Frag} {mg : Str → Option Value} {base : Heap}
def Dm.mt {C : Addr} {m q : Str} {st : Stmt} {ps : List Str} {k : Nat} {sp : Sp} (D : Dm K C m q st ps) (h : FnOk P w K mg base CX0 k D.f D.fd ps sp) : Mt P w K mg base C k m ps sp := ⟨D.f, D.fd, h, D.me, D.b⟩
def Di.ma {C : Addr} {q : Str} {st : Stmt} {ps : List Str} {k : Nat} {sp : Sp} (D : Di K C q st ps) (h : FnOk P w K mg base CX0 k D.f D.fd ps sp) : Ma P w K mg base C k ps sp := ⟨D.f, D.fd, h, D.mm, D.b⟩
theorem sc_gs : FnScope ["self"] ["self"] (defScope st_Ground_signs) := ⟨rfl, rfl, rfl, by decide +kernel, rfl, by decide +kernel, by decide +kernel⟩
def spGs (C : Addr) : Sp := fun vs H Q _ => ∃ (p : Addr) (u : List Nat) (g : Nat), vs = [.ref p] ∧ GAt C H p u g ∧ Q (.str (S u)) H
theorem ok_gs {C : Addr} (T : Gr K mg C) (D : Dm K C "signs" "Ground.signs" st_Ground_signs ["self"]) : FnOk P w K mg base CX0 1 D.f D.fd ["self"] (spGs C) := by
  refine D.F.ok sc_gs (fun vs H Q E h => ?_) (fun cdv A outer s H vs Q E hr h => ?_)
  · obtain ⟨p, u, g, rfl, _⟩ := h
    rfl
  · obtain ⟨p, u, g, rfl, ⟨dx, hp⟩, q⟩ := h
    refine ⟨_, pss_one (ps_ret (pe_fld (pv 0) rfl)), ?_⟩
    exact ⟨_, rfl, p, C, dx, _, _, rfl, hp, T.cl, T.nS, gf_s, q⟩
theorem sc_gg : FnScope ["self"] ["self"] (defScope st_Ground_gap) := ⟨rfl, rfl, rfl, by decide +kernel, rfl, by decide +kernel, by decide +kernel⟩
def spGg (C : Addr) : Sp := fun vs H Q _ => ∃ (p : Addr) (u : List Nat) (g : Nat), vs = [.ref p] ∧ GAt C H p u g ∧ Q (.int (g : Int)) H
theorem ok_gg {C : Addr} (T : Gr K mg C) (D : Dm K C "gap" "Ground.gap" st_Ground_gap ["self"]) : FnOk P w K mg base CX0 1 D.f D.fd ["self"] (spGg C) := by
  refine D.F.ok sc_gg (fun vs H Q E h => ?_) (fun cdv A outer s H vs Q E hr h => ?_)
  · obtain ⟨p, u, g, rfl, _⟩ := h
    rfl
  · obtain ⟨p, u, g, rfl, ⟨dx, hp⟩, q⟩ := h
    refine ⟨_, pss_one (ps_ret (pe_fld (pv 0) rfl)), ?_⟩
    exact ⟨_, rfl, p, C, dx, _, _, rfl, hp, T.cl, T.nG, gf_g, q⟩
theorem sc_gw : FnScope ["self"] ["self"] (defScope st_Ground_width) := ⟨rfl, rfl, rfl, by decide +kernel, rfl, by decide +kernel, by decide +kernel⟩
def spGw (C : Addr) : Sp := fun vs H Q _ => ∃ (p : Addr) (u : List Nat) (g : Nat), vs = [.ref p] ∧ GAt C H p u g ∧ 1 ≤ g ∧ Q (.int ((2 * g - 2 : Nat) : Int)) H
theorem ok_gw {C : Addr} (T : Gr K mg C) (D : Dm K C "width" "Ground.width" st_Ground_width ["self"]) : FnOk P w K mg base CX0 1 D.f D.fd ["self"] (spGw C) := by
  refine D.F.ok sc_gw (fun vs H Q E h => ?_) (fun cdv A outer s H vs Q E hr h => ?_)
  · obtain ⟨p, u, g, rfl, _⟩ := h
    rfl
  · obtain ⟨p, u, g, rfl, ⟨dx, hp⟩, hg, q⟩ := h
    refine ⟨_, pss_one (ps_ret (pe_op op_sub (pe_op op_mul pe_int (pe_fld (pv 0) rfl)) pe_int)), ?_⟩
    refine ⟨_, rfl, p, C, dx, _, _, rfl, hp, T.cl, T.nG, gf_g, _, _, rfl, rfl, .inl ⟨by decide, by decide⟩, _, _, rfl, rfl, int_q ?_ q⟩
    omega
theorem sc_asg : FnScope ["value"] ["value"] (defScope st__are_signs) := ⟨rfl, rfl, rfl, by decide +kernel, rfl, by decide +kernel, by decide +kernel⟩
def spAsg : Sp := fun vs H Q _ => ∃ u : List Nat, vs = [.str (S u)] ∧ Low u ∧ u.Pairwise (· < ·) ∧ 2 ≤ u.length ∧ u.length ≤ 26 ∧ ∀ H', Same H H' → Q (.bl true) H'
theorem ok_asg (B : Bi mg) {t : Tok} (lt : mg "LETTERS" = some (.str LET t)) (D : Df K mg "_are_signs" st__are_signs ["value"]) (CM : Cal P w K mg base 1 "is_made_of" ["value", "signs"] spMade) : FnOk P w K mg base CX0 2 D.f D.fd ["value"] spAsg := by
  refine D.F.ok sc_asg (fun vs H Q E h => ?_) (fun cdv A outer s H vs Q E hr h => ?_)
  · obtain ⟨u, rfl, _⟩ := h
    rfl
  · obtain ⟨u, rfl, hl, hu, h2, h26, q⟩ := h
    refine ⟨_, pss_one (ps_ret (pe_and (pcall CM hr (by rfl) (pa_cons (pv 0) (pa_cons (pe_glob (v := .str LET) rfl lt ⟨_, rfl⟩) pa_nil)))
      (pe_and (pe_cmpR op_ge (pe_callB call_len_str (by rfl) B.len PySem.boot_len (pa_cons (pv 0) pa_nil)) pe_int (nomark _))
      (pe_one (pe_cmpR op_eq (pe_join pe_str (pe_callB (cr_sortedT rfl) (by rfl) B.sorted (by decide +kernel) (pa_cons (pe_callTy (cr_setX rfl) (by rfl) B.set (by decide +kernel) (pa_cons (pv 0) pa_nil)) pa_nil))) (pv 0) (nomark _)))))), ?_⟩
    have e16 : sizeLine = 16777216 := by decide
    have hs : (S u).length ≤ sizeLine := by rw [S_len]; omega
    refine ⟨_, rfl, u, LET, rfl, by omega, fun c hc => low_has (hl c hc).1 (hl c hc).2, _, rfl, iteT ?_⟩
    refine ⟨_, rfl, S u, rfl, hs, _, _, rfl, rfl, _, rfl, ?_⟩
    rw [decide_eq_true (show (2 : Int) ≤ ((S u).length : Int) by rw [S_len]; omega)]
    refine iteT ?_
    have so : signsOf (S u) = u.map fun c => S [c] := rfl
    have nd : (u.map fun c => S [c]).Nodup := by
      rw [List.nodup_iff_pairwise_ne, List.pairwise_map]
      exact hu.imp fun {a b} h z => by
        have := S_inj z
        injection this with e
        omega
    refine ⟨⟨_, rfl⟩, _, rfl, S u, rfl, by rw [so]; exact nd, by show u.toArray.size + 1 < _; simp only [List.size_toArray]; exact Nat.lt_of_le_of_lt (Nat.succ_le_succ h26) (by decide), fun p hp => ?_⟩
    refine ⟨p, _, rfl, upd_same, by rw [so, List.length_map]; omega, fun ys p2 perm srt hp2 => ?_⟩
    rw [so] at perm
    obtain ⟨ls, e2, hsub⟩ := ones_of (ys := ys) (ls := u) fun y hy => by
      obtain ⟨c, hc, e⟩ := List.mem_map.mp (perm.mem_iff.mp hy)
      exact ⟨c, hc, e.symm⟩
    subst e2
    have nd2 : ls.Nodup := by
      have := perm.nodup_iff.mpr nd
      rw [List.nodup_iff_pairwise_ne, List.pairwise_map] at this
      exact this.imp fun {a b} h z => h (by rw [z])
    have up2 := sorted_lt nd2 srt
    have pl : ls.Perm u := by
      have := perm.map (fun y : Str => y.cps.toList.headD 0)
      rw [List.map_map, List.map_map] at this
      simpa [Function.comp_def, S] using this
    have e3 : ls = u := List.Perm.eq_of_pairwise (fun a b _ _ h1 h2 => absurd (Nat.lt_trans h1 h2) (Nat.lt_irrefl _)) up2 hu pl
    subst e3
    refine ⟨Str.empty, p2, ls.map (fun c => S [c]), rfl, rfl, .inl (.inl (.inl upd_same)), ?_, ?_⟩
    · rw [List.map_map, List.length_map]
      have : (ls.map ((fun x => x.length) ∘ fun c => S [c])).sum = ls.length := by
        clear so nd nd2 up2 pl perm srt hsub hu hl h2 h26 hs q hp2
        induction ls with
        | nil => rfl
        | cons a r ih => rw [List.map_cons, List.sum_cons, ih, List.length_cons]; show 1 + _ = _; omega
      rw [this]
      show ls.length + ls.length * 0 ≤ 16777216
      omega
    · rw [join_ones]
      refine ⟨_, rfl, rfl, bl_q ?_ (q _ fun b o e => ?_)⟩
      · rw [V_dec]
        exact beq_self_eq_true ls
      · rw [upd_ne (fun z => ?_), upd_ne (ne_of_none e hp)]
        · exact e
        · rw [z] at e
          rw [upd_ne (fun z2 => ?_)] at hp2
          · rw [e] at hp2
            cases hp2
          · rw [← z2, e] at hp
            cases hp
end
end K4
set_option Elab.async false
set_option linter.all false
set_option maxRecDepth 100000
set_option maxHeartbeats 4000000
namespace K4
open PySem PySem.Spec PyProof.Rows L2 K4M K4S
/-- a comprehension with two walks: the outer one by turns -/
theorem lc2_it {J : It} {n : Nat} {G : Hp → Prop} {Y : Nat → Hp → V → Hp → Prop} (w : Walk J n G Y) {g g1 : TG} {tt tt1 : TT} {wi1 : TI} {te : TE} {vs vs1 : List Nat} {σ : L2.St} {H1 : Hp} {D : Addr} {Qd : Hp → Prop} (Pv : Nat → Hp → Prop) (h0 : Pv 0 (upd H1 D (.lst []))) (hG : ∀ i H, i ≤ n → Pv i H → G H)
    (hs : ∀ i x H H', i < n → Pv i H → Y i H x H' → g x (wipe σ vs) H' fun σ2 H2 => wipe σ2 vs = wipe σ vs ∧ tt σ2 H2 fun b H3 =>
      if b = true then wi1 σ2 H3 fun J1 H4 => ∃ W1 : Nat → Nat → Hp → Prop, (∃ m, W1 0 m H4) ∧ ∀ j k H, W1 j k H →
      (J1.stop j H ∧ Pv (i + 1) H) ∨ (J1.go j H ∧ ∃ Nx1 : Hp → Prop, (∀ H', Nx1 H' → ∃ k', k' < k ∧ W1 (j + 1) k' H') ∧ ∀ x H', J1.yld j H x H' → g1 x (wipe σ2 vs1) H' fun σ3 H5 => wipe σ3 vs1 = wipe σ2 vs1 ∧ tt1 σ3 H5 fun b H6 =>
        if b = true then te σ3 H6 fun y H7 => ∃ acc, H7 D = some (.lst acc) ∧ acc.length < sizeLine ∧ Nx1 (upd H7 D (.lst (acc ++ [y]))) else Nx1 H6) else Pv (i + 1) H3) (hd : ∀ H, Pv n H → Qd H) :
    ∃ W : Nat → Nat → Hp → Prop, (∃ m, W 0 m (upd H1 D (.lst []))) ∧ ∀ i m H, W i m H →
      (J.stop i H ∧ Qd H) ∨ (J.go i H ∧ ∃ Nx : Hp → Prop, (∀ H', Nx H' → ∃ m', m' < m ∧ W (i + 1) m' H') ∧ ∀ x H', J.yld i H x H' → g x (wipe σ vs) H' fun σ2 H2 => wipe σ2 vs = wipe σ vs ∧ tt σ2 H2 fun b H3 =>
        if b = true then wi1 σ2 H3 fun J1 H4 => ∃ W1 : Nat → Nat → Hp → Prop, (∃ m, W1 0 m H4) ∧ ∀ j k H, W1 j k H →
      (J1.stop j H ∧ Nx H) ∨ (J1.go j H ∧ ∃ Nx1 : Hp → Prop, (∀ H', Nx1 H' → ∃ k', k' < k ∧ W1 (j + 1) k' H') ∧ ∀ x H', J1.yld j H x H' → g1 x (wipe σ2 vs1) H' fun σ3 H5 => wipe σ3 vs1 = wipe σ2 vs1 ∧ tt1 σ3 H5 fun b H6 =>
        if b = true then te σ3 H6 fun y H7 => ∃ acc, H7 D = some (.lst acc) ∧ acc.length < sizeLine ∧ Nx1 (upd H7 D (.lst (acc ++ [y]))) else Nx1 H6) else Nx H3) := by
  refine ⟨fun i m H => m = n - i ∧ i ≤ n ∧ Pv i H, ⟨n, by simp, Nat.zero_le _, h0⟩, ?_⟩
  rintro i m H ⟨rfl, hi, p⟩
  have q := hG i H hi p
  by_cases hlt : i < n
  · exact .inr ⟨w.goes i H hlt q, Pv (i + 1), fun H' p' => ⟨n - (i + 1), by omega, rfl, hlt, p'⟩, fun x H' y => hs i x H H' hlt p (w.yields i H x H' hlt q y)⟩
  · have e : i = n := by omega
    subst e
    exact .inl ⟨w.stops H q, hd H p⟩
/-- the inner one -/
theorem lc_in {J : It} {n : Nat} {G : Hp → Prop} {Y : Nat → Hp → V → Hp → Prop} (w : Walk J n G Y) {g : TG} {tt : TT} {te : TE} {vs : List Nat} {σ : L2.St} {H1 : Hp} {D : Addr} {Qd : Hp → Prop} (Pv : Nat → Hp → Prop) (h0 : Pv 0 H1) (hG : ∀ i H, i ≤ n → Pv i H → G H)
    (hs : ∀ i x H H', i < n → Pv i H → Y i H x H' → g x (wipe σ vs) H' fun σ2 H2 => wipe σ2 vs = wipe σ vs ∧ tt σ2 H2 fun b H3 =>
      if b = true then te σ2 H3 fun y H4 => ∃ acc, H4 D = some (.lst acc) ∧ acc.length < sizeLine ∧ Pv (i + 1) (upd H4 D (.lst (acc ++ [y]))) else Pv (i + 1) H3) (hd : ∀ H, Pv n H → Qd H) :
    ∃ W : Nat → Nat → Hp → Prop, (∃ m, W 0 m H1) ∧ ∀ i m H, W i m H →
      (J.stop i H ∧ Qd H) ∨ (J.go i H ∧ ∃ Nx : Hp → Prop, (∀ H', Nx H' → ∃ m', m' < m ∧ W (i + 1) m' H') ∧ ∀ x H', J.yld i H x H' → g x (wipe σ vs) H' fun σ2 H2 => wipe σ2 vs = wipe σ vs ∧ tt σ2 H2 fun b H3 =>
        if b = true then te σ2 H3 fun y H4 => ∃ acc, H4 D = some (.lst acc) ∧ acc.length < sizeLine ∧ Nx (upd H4 D (.lst (acc ++ [y]))) else Nx H3) := by
  refine ⟨fun i m H => m = n - i ∧ i ≤ n ∧ Pv i H, ⟨n, by simp, Nat.zero_le _, h0⟩, ?_⟩
  rintro i m H ⟨rfl, hi, p⟩
  have q := hG i H hi p
  by_cases hlt : i < n
  · exact .inr ⟨w.goes i H hlt q, Pv (i + 1), fun H' p' => ⟨n - (i + 1), by omega, rfl, hlt, p'⟩, fun x H' y => hs i x H H' hlt p (w.yields i H x H' hlt q y)⟩
  · have e : i = n := by omega
    subst e
    exact .inl ⟨w.stops H q, hd H p⟩
theorem noS : ¬ (("signs" : Str) = "_gap") := by decide +kernel
theorem noS2 : ¬ (("signs" : Str) = "_signs") := by decide +kernel
theorem noG : ¬ (("gap" : Str) = "_gap") := by decide +kernel
theorem noG2 : ¬ (("gap" : Str) = "_signs") := by decide +kernel
theorem noW : ¬ (("width" : Str) = "_gap") := by decide +kernel
theorem noW2 : ¬ (("width" : Str) = "_signs") := by decide +kernel
theorem strs_at {ws : List (List Nat)} {i : Nat} {x : V} (hx : (strsV ws)[i]? = some x) : ∃ u, ws[i]? = some u ∧ x = V.str (S u) := by
  unfold strsV at hx
  rw [List.getElem?_map] at hx
  cases e : ws[i]? with
  | none => rw [e] at hx; cases hx
  | some u => rw [e] at hx; exact ⟨u, rfl, (Option.some.inj hx).symm⟩
theorem strs_len (ws : List (List Nat)) : (strsV ws).length = ws.length := List.length_map _
theorem strs_app (a b : List (List Nat)) : strsV (a ++ b) = strsV a ++ strsV b := List.map_append
section
variable {P : Program} {w : World} {K : PySem.W.Frag} {mg : Str → Option Value} {base : Heap}
theorem sc_init : FnScope ["self", "signs", "gap"] ["self", "signs", "gap"] (defScope st_Ground___init__) := ⟨rfl, rfl, rfl, by decide +kernel, rfl, by decide +kernel, by decide +kernel⟩
def spInit (C : Addr) : Sp := fun vs H Q _ => ∃ (p dx : Addr) (u : List Nat) (g : Nat), vs = [.ref p, .str (S u), .int (g : Int)] ∧ H p = some (.ins C dx []) ∧ Gd u g ∧ ∀ H', (∀ b o, H b = some o → b ≠ p → H' b = some o) → GAt C H' p u g → Q .non H'
theorem ok_init {C : Addr} (T : Gr K mg C) (D : Di K C "Ground.__init__" st_Ground___init__ ["self", "signs", "gap"]) (CA : Cal P w K mg base 2 "_are_signs" ["value"] spAsg) (CC : Cal P w K mg base 2 "is_count" ["value"] spCount) : FnOk P w K mg base CX0 3 D.f D.fd ["self", "signs", "gap"] (spInit C) := by
  refine D.F.ok sc_init (fun vs H Q E h => ?_) (fun cdv A outer s H vs Q E hr h => ?_)
  · obtain ⟨p, dx, u, g, rfl, _⟩ := h
    rfl
  · obtain ⟨p, dx, u, g, rfl, hp, G, q⟩ := h
    refine ⟨_, pss_cons (ps_if (pt_not (pt_val (pcall CA hr (by rfl) (pa_cons (pv 1) pa_nil)))) pss_never pss_nil)
      (pss_cons (ps_if (PW.pt (pw_or (pt_not (pt_val (pcall CC hr (by rfl) (pa_cons (pv 2) pa_nil)))) (pw_or1 (pt_cmpR op_lt (pv 2) pe_int (nomark _))))) pss_never pss_nil)
      (pss_cons (ps_fld (pv 0) (pv 1) rfl) (pss_one (ps_fld (pv 0) (pv 2) rfl)))), ?_⟩
    have g2 := G.gap
    refine ⟨_, rfl, u, rfl, G.low, G.up, G.two, G.few, fun H' sm => ⟨_, rfl, iteF ?_⟩⟩
    refine ⟨_, rfl, _, rfl, by omega, _, rfl, iteF ?_⟩
    refine ⟨_, rfl, _, _, rfl, rfl, _, rfl, ?_⟩
    rw [decide_eq_false (show ¬ (g : Int) < 2 by omega)]
    refine iteF ?_
    have hp' := sm _ _ hp
    refine ⟨_, rfl, _, rfl, p, C, dx, [], rfl, hp', T.cl, T.nS, (by show 0 < 1000; decide), _, rfl, _, rfl, p, C, dx, _, rfl, upd_same, T.cl, T.nG, (by show 1 < 1000; decide), ?_⟩
    refine q _ (fun b o e hb => ?_) ⟨dx, upd_same⟩
    rw [upd_ne hb, upd_ne hb]
    exact sm b o e
theorem sc_cg : FnScope ["value"] ["value"] (defScope st_check_ground) := ⟨rfl, rfl, rfl, by decide +kernel, rfl, by decide +kernel, by decide +kernel⟩
def spCg (C : Addr) : Sp := fun vs H Q _ => ∃ (p : Addr) (u : List Nat) (g : Nat), vs = [.ref p] ∧ GAt C H p u g ∧ Q .non H
theorem ok_cg (B : Bi mg) {C : Addr} (T : Gr K mg C) (D : Df K mg "check_ground" st_check_ground ["value"]) : FnOk P w K mg base CX0 1 D.f D.fd ["value"] (spCg C) := by
  refine D.F.ok sc_cg (fun vs H Q E h => ?_) (fun cdv A outer s H vs Q E hr h => ?_)
  · obtain ⟨p, u, g, rfl, _⟩ := h
    rfl
  · obtain ⟨p, u, g, rfl, ⟨dx, hp⟩, q⟩ := h
    refine ⟨_, pss_one (ps_if (pt_not (pt_val (pe_callB call_isi (by rfl) B.isi (by decide +kernel) (pa_cons (pv 0) (pa_cons (pe_glob (v := .ref C) rfl T.g rfl) pa_nil))))) pss_never pss_nil), ?_⟩
    exact ⟨_, rfl, .ref p, .ref C, .ref C, .ref C, true, rfl, .own C, .base (.ins hp T.cl T.ha T.hn T.htk T.hm), T.ki, _, rfl, iteF q⟩
theorem sc_tof : FnScope ["ground", "value"] ["ground", "value"] (defScope st_is_text_of) := ⟨rfl, rfl, rfl, by decide +kernel, rfl, by decide +kernel, by decide +kernel⟩
def spTof (C : Addr) : Sp := fun vs H Q _ => ∃ (p : Addr) (u : List Nat) (g : Nat) (x : List Nat), vs = [.ref p, .str (S x)] ∧ GAt C H p u g ∧ x.length ≤ 100000 ∧ (∀ c ∈ x, c ∈ u) ∧ Q (.bl true) H
theorem ok_tof {C : Addr} (T : Gr K mg C) (D : Df K mg "is_text_of" st_is_text_of ["ground", "value"]) (CM : Cal P w K mg base 1 "is_made_of" ["value", "signs"] spMade) (MS : Mt P w K mg base C 1 "signs" ["self"] (spGs C)) : FnOk P w K mg base CX0 2 D.f D.fd ["ground", "value"] (spTof C) := by
  refine D.F.ok sc_tof (fun vs H Q E h => ?_) (fun cdv A outer s H vs Q E hr h => ?_)
  · obtain ⟨p, u, g, x, rfl, _⟩ := h
    rfl
  · obtain ⟨p, u, g, x, rfl, ⟨dx, hp⟩, hl, hx, q⟩ := h
    refine ⟨_, pss_one (ps_ret (pcall CM hr (by rfl) (pa_cons (pv 1) (pa_cons (pe_meth0 (pv 0) T.cl MS.me MS.ok hr MS.b .nil pass0) pa_nil)))), ?_⟩
    refine ⟨_, rfl, _, rfl, p, dx, _, rfl, hp, gf_no noS noS2, p, u, g, rfl, ⟨dx, hp⟩, x, S u, rfl, hl, fun c hc => ?_, q⟩
    show u.toArray.contains c = true
    simpa using hx c hc
theorem sc_isw : FnScope ["ground", "value"] ["ground", "value"] (defScope st_is_window) := ⟨rfl, rfl, rfl, by decide +kernel, rfl, by decide +kernel, by decide +kernel⟩
def spIsw (C : Addr) : Sp := fun vs H Q _ => ∃ (p : Addr) (u : List Nat) (g : Nat) (x : List Nat), vs = [.ref p, .str (S x)] ∧ GAt C H p u g ∧ 1 ≤ g ∧ g ≤ 1000 ∧ x ∈ wl u (2 * g - 2) ∧ Q (.bl true) H
theorem ok_isw (B : Bi mg) {C : Addr} (T : Gr K mg C) (D : Df K mg "is_window" st_is_window ["ground", "value"]) (CT : Cal P w K mg base 2 "is_text_of" ["ground", "value"] (spTof C)) (MW : Mt P w K mg base C 1 "width" ["self"] (spGw C)) : FnOk P w K mg base CX0 3 D.f D.fd ["ground", "value"] (spIsw C) := by
  refine D.F.ok sc_isw (fun vs H Q E h => ?_) (fun cdv A outer s H vs Q E hr h => ?_)
  · obtain ⟨p, u, g, x, rfl, _⟩ := h
    rfl
  · obtain ⟨p, u, g, x, rfl, ⟨dx, hp⟩, hg, hg2, hx, q⟩ := h
    obtain ⟨h1, h2⟩ := wl_mem.mp hx
    refine ⟨_, pss_one (ps_ret (pe_and (pcall CT hr (by rfl) (pa_cons (pv 0) (pa_cons (pv 1) pa_nil))) (pe_one (pe_cmpR op_eq (pe_callB call_len_str (by rfl) B.len PySem.boot_len (pa_cons (pv 1) pa_nil)) (pe_meth0 (pv 0) T.cl MW.me MW.ok (hr.mono (by decide)) MW.b .nil pass0) (nomark _))))), ?_⟩
    have e16 : sizeLine = 16777216 := by decide
    have hs : (S x).length ≤ sizeLine := by rw [S_len]; omega
    refine ⟨_, rfl, _, rfl, p, u, g, x, rfl, ⟨dx, hp⟩, by omega, h2, _, rfl, iteT ?_⟩
    refine ⟨_, rfl, S x, rfl, hs, _, rfl, p, dx, _, rfl, hp, gf_no noW noW2, p, u, g, rfl, ⟨dx, hp⟩, hg, ?_⟩
    refine ⟨rfl, bl_q ?_ q⟩
    rw [dec_int, S_len, h1]
    exact beq_self_eq_true _
theorem sc_cw : FnScope ["ground", "value"] ["ground", "value"] (defScope st_check_window) := ⟨rfl, rfl, rfl, by decide +kernel, rfl, by decide +kernel, by decide +kernel⟩
def spCw (C : Addr) : Sp := fun vs H Q _ => ∃ (p : Addr) (u : List Nat) (g : Nat) (x : List Nat), vs = [.ref p, .str (S x)] ∧ GAt C H p u g ∧ 1 ≤ g ∧ g ≤ 1000 ∧ x ∈ wl u (2 * g - 2) ∧ Q .non H
theorem ok_cw {C : Addr} (D : Df K mg "check_window" st_check_window ["ground", "value"]) (CI : Cal P w K mg base 3 "is_window" ["ground", "value"] (spIsw C)) : FnOk P w K mg base CX0 4 D.f D.fd ["ground", "value"] (spCw C) := by
  refine D.F.ok sc_cw (fun vs H Q E h => ?_) (fun cdv A outer s H vs Q E hr h => ?_)
  · obtain ⟨p, u, g, x, rfl, _⟩ := h
    rfl
  · obtain ⟨p, u, g, x, rfl, hp, hg, hg2, hx, q⟩ := h
    refine ⟨_, pss_one (ps_if (pt_not (pt_val (pcall CI hr (by rfl) (pa_cons (pv 0) (pa_cons (pv 1) pa_nil))))) pss_never pss_nil), ?_⟩
    exact ⟨_, rfl, _, rfl, p, u, g, x, rfl, hp, hg, hg2, hx, _, rfl, iteF q⟩
/-! ### periods below a number -/
theorem sc_rb : FnScope ["text", "below", "period"] ["text", "below"] (defScope st_repeats_below) := ⟨rfl, rfl, rfl, by decide +kernel, rfl, by decide +kernel, by decide +kernel⟩
def spRb : Sp := fun vs H Q _ => ∃ (u : List Nat) (g : Nat), vs = [.str (S u), .int (g : Int)] ∧ u.length ≤ 100000 ∧ u ≠ [] ∧ g ≤ u.length ∧ Q (.bl (decide (lp u < g))) H
theorem ok_rb (B : Bi mg) (D : Df K mg "repeats_below" st_repeats_below ["text", "below"]) (CH : Cal P w K mg base 1 "_is_had" ["text", "period"] spHad) : FnOk P w K mg base CX0 2 D.f D.fd ["text", "below"] spRb := by
  refine D.F.ok sc_rb (fun vs H Q E h => ?_) (fun cdv A outer s H vs Q E hr h => ?_)
  · obtain ⟨u, g, rfl, _⟩ := h
    rfl
  · obtain ⟨u, g, rfl, hl, h0, hg, q⟩ := h
    refine ⟨_, pss_cons (ps_for PassesOwn.never rfl (pi_range2 (by rfl) B.range (pa_cons pe_int (pa_cons (pe_callB (call_min2 rfl) (by rfl) B.min (by decide +kernel) (pa_cons (pv 1) (pa_cons (pe_callB call_len_str (by rfl) B.len PySem.boot_len (pa_cons (pv 0) pa_nil)) pa_nil))) pa_nil))) (pg_name (i := 2) sc_rb.nd rfl (.inl rfl))
        (pss_one (ps_if (pt_val (pcall CH hr (by rfl) (pa_cons (pv 0) (pa_cons (pv 2) pa_nil)))) (pss_one (ps_ret pe_bl)) pss_nil)))
      (pss_one (ps_ret pe_bl)), ?_⟩
    have e16 : sizeLine = 16777216 := by decide
    have hs : (S u).length ≤ sizeLine := by rw [S_len]; omega
    have hl0 : 0 < u.length := List.length_pos_iff.mpr h0
    have s1 := lp_spec u h0
    refine ⟨_, rfl, _, rfl, S u, rfl, hs, _, _, rfl, ?_⟩
    have emin : (if ((S u).length : Int) < (g : Int) then ((S u).length : Int) else (g : Int)) = (g : Int) := by
      rw [S_len]
      split <;> omega
    first
      | refine ⟨1, (g : Int), by rw [emin], ⟨by decide, by decide, by omega, by omega⟩, ?_⟩
      | refine ⟨1, (g : Int), by (congr 2; rw [S_len]; (try split) <;> omega), ⟨by decide, by decide, by omega, by omega⟩, ?_⟩
    refine for_range (lo := 1) (n := ((g : Int) - 1).toNat) (fun i σ H2 => H2 = H ∧ ∃ y : Option V, σ = [some (.str (S u)), some (.int (g : Int)), y] ∧ ∀ j, 0 < j → j ≤ i → had u j = false) ⟨rfl, none, rfl, fun j h1 h2 => by omega⟩ ?_ ?_
    · rintro i σ H2 hi ⟨rfl, y, rfl, hj⟩
      have ei : (1 + (i : Int)) = ((1 + i : Nat) : Int) := by omega
      refine ⟨_, rfl, _, rfl, u, 1 + i, by rw [ei]; rfl, hl, _, rfl, ?_⟩
      cases hb : had u (1 + i) with
      | true =>
        refine iteT (bl_q (Eq.symm (decide_eq_true (p := lp u < g) ?_)) q)
        rcases Nat.lt_or_ge (1 + i) (lp u) with z | z
        · rw [s1.1 (1 + i) (by omega) z] at hb
          cases hb
        · omega
      | false =>
        refine iteF ⟨rfl, _, rfl, fun j h1 h2 => ?_⟩
        by_cases e : j = 1 + i
        · rw [e]
          exact hb
        · exact hj j h1 (by omega)
    · rintro σ H2 ⟨rfl, y, rfl, hj⟩
      refine bl_q (Eq.symm (decide_eq_false (p := lp u < g) fun z => ?_)) q
      have := hj (lp u) (by omega) (by omega)
      rw [s1.2.2.2 (by omega)] at this
      cases this
theorem sc_own : FnScope ["ground", "window"] ["ground", "window"] (defScope st_is_own) := ⟨rfl, rfl, rfl, by decide +kernel, rfl, by decide +kernel, by decide +kernel⟩
def spOwn (C : Addr) : Sp := fun vs H Q _ => ∃ (p : Addr) (u : List Nat) (g : Nat) (x : List Nat), vs = [.ref p, .str (S x)] ∧ GAt C H p u g ∧ Gd u g ∧ x ∈ wl u (2 * g - 2) ∧ Q (.bl (!decide (lp x < g))) H
theorem ok_own {C : Addr} (T : Gr K mg C) (D : Df K mg "is_own" st_is_own ["ground", "window"]) (CG : Cal P w K mg base 1 "check_ground" ["value"] (spCg C)) (CW : Cal P w K mg base 4 "check_window" ["ground", "value"] (spCw C)) (CL : Cal P w K mg base 2 "repeats_below" ["text", "below"] spRb) (MG : Mt P w K mg base C 1 "gap" ["self"] (spGg C)) :
    FnOk P w K mg base CX0 6 D.f D.fd ["ground", "window"] (spOwn C) := by
  refine D.F.ok sc_own (fun vs H Q E h => ?_) (fun cdv A outer s H vs Q E hr h => ?_)
  · obtain ⟨p, u, g, x, rfl, _⟩ := h
    rfl
  · obtain ⟨p, u, g, x, rfl, ⟨dx, hp⟩, G, hx, q⟩ := h
    obtain ⟨h1, h2⟩ := wl_mem.mp hx
    have g2 := G.gap
    have gm := G.max
    refine ⟨_, pss_cons (ps_expr (pcall CG (hr.mono (by decide)) (by rfl) (pa_cons (pv 0) pa_nil))) (pss_cons (ps_expr (pcall CW (hr.mono (by decide)) (by rfl) (pa_cons (pv 0) (pa_cons (pv 1) pa_nil))))
      (pss_one (ps_ret (pe_not (pcall CL (hr.mono (by decide)) (by rfl) (pa_cons (pv 1) (pa_cons (pe_meth0 (pv 0) T.cl MG.me MG.ok (hr.mono (by decide)) MG.b .nil pass0) pa_nil))))))), ?_⟩
    refine ⟨_, rfl, p, u, g, rfl, ⟨dx, hp⟩, ?_⟩
    refine ⟨_, rfl, _, rfl, p, u, g, x, rfl, ⟨dx, hp⟩, by omega, by omega, hx, ?_⟩
    refine ⟨_, rfl, _, rfl, p, dx, _, rfl, hp, gf_no noG noG2, p, u, g, rfl, ⟨dx, hp⟩, ?_⟩
    exact ⟨x, g, rfl, by omega, (fun z => by rw [z] at h1; simp at h1; omega), by omega, _, rfl, q⟩
end
end K4
set_option Elab.async false
set_option linter.all false
set_option maxRecDepth 100000
set_option maxHeartbeats 4000000
namespace K4
open PySem PySem.Spec PyProof.Rows L2 K4M K4S
theorem cut_mid {x : List Nat} {a n : Nat} (h : a + n ≤ x.length) : cutS (S x) (some (a : Int)) (some ((a : Int) + (n : Int))) = S ((x.drop a).take n) := by
  rw [show ((a : Int) + (n : Int)) = ((a + n : Nat) : Int) by omega]
  unfold cutS
  rw [HT.sIx_nat, HT.sIx_nat, S_len, show min (a + n) x.length = a + n by omega, show min a x.length = a by omega]
  show (⟨((x.drop a).take (a + n - a)).toArray⟩ : Str) = ⟨((x.drop a).take n).toArray⟩
  rw [Nat.add_sub_cancel_left]
section
variable {P : Program} {w : World} {K : PySem.W.Frag} {mg : Str → Option Value} {base : Heap}
theorem sc_wlg : FnScope ["ground", "length", "found", "_", "word", "sign"] ["ground", "length"] (defScope st_words_long) := ⟨rfl, rfl, rfl, by decide +kernel, rfl, by decide +kernel, by decide +kernel⟩
def spWlg (C : Addr) : Sp := fun vs H Q _ => ∃ (p : Addr) (u : List Nat) (g : Nat), vs = [.ref p, .int ((2 * g - 2 : Nat) : Int)] ∧ GAt C H p u g ∧ Gd u g ∧ u.length ^ (2 * g - 2) ≤ 5000 ∧ ∀ (L : Addr) (H' : Hp), H L = none → Same H H' → H' L = some (.lst (strsV (wl u (2 * g - 2)))) → Q (.ref L) H'
theorem ok_wlg (B : Bi mg) {C : Addr} (T : Gr K mg C) (D : Df K mg "words_long" st_words_long ["ground", "length"]) (MS : Mt P w K mg base C 1 "signs" ["self"] (spGs C)) :
    FnOk P w K mg base CX0 2 D.f D.fd ["ground", "length"] (spWlg C) := by
  refine D.F.ok sc_wlg (fun vs H Q E h => ?_) (fun cdv A outer s H vs Q E hr h => ?_)
  · obtain ⟨p, u, g, rfl, _⟩ := h
    rfl
  · obtain ⟨p, u, g, rfl, ⟨dx, hp⟩, G, h5, q⟩ := h
    refine ⟨_, (pss_cons (ps_set (i := 2) sc_wlg.nd rfl (.inl rfl) (pe_lst (pa_cons pe_str pa_nil)))
      (pss_cons (ps_for PassesOwn.never rfl (pi_range1 (by rfl) B.range (pa_cons (pv 1) pa_nil)) (pg_name (i := 3) sc_wlg.nd rfl (.inl rfl))
        (pss_one (ps_setLc2 (i := 2) (own := [("word", 4), ("sign", 5)]) (vs1 := [5]) (g := gName 4) (g1 := gName 5) (tt := tYes) (tt1 := tYes) rfl sc_wlg.nd rfl rfl (sw_true rfl rfl rfl (by decide +kernel)) (pi_list (pv 2))
          (blkOk_by (N := ["ground", "length", "found", "_", "word", "sign"]) (sc := defScope st_words_long) (by decide +kernel)) (by decide)
          (fun _ _ _ _ _ => pg_name (i := 4) sc_wlg.nd rfl (.inl rfl)) (fun _ _ _ _ _ => pts_nil)
          (fun _ _ _ _ _ => pi_str (pe_meth0 (pv 0) T.cl MS.me MS.ok hr MS.b .nil pass0))
          (fun _ _ _ _ _ => pg_name (i := 5) sc_wlg.nd rfl (.inl rfl)) (fun _ _ _ _ _ => pts_nil)
          (fun _ _ _ _ _ => pe_op op_add_str (pv 4) (pv 5)))))
      (pss_one (ps_ret (pv 2))))), ?_⟩
    have e16 : sizeLine = 16777216 := by decide
    have g2 := G.gap
    have gm := G.max
    have l2 := G.two
    have l26 := G.few
    refine ⟨(by show 1 ≤ sizeLine; decide), fun L0 hL0 => ?_⟩
    have hp0 := same_upd (o := .lst [V.str (Str.ofString "")]) hL0 _ _ hp
    refine ⟨_, rfl, ((2 * g - 2 : Nat) : Int), rfl, by omega, by omega, ?_⟩
    refine for_range (lo := 0) (n := ((2 * g - 2 : Nat) : Int).toNat) (fun i σ H2 => ∃ (L : Addr) (y2 : Option V), σ = [some (.ref p), some (.int ((2 * g - 2 : Nat) : Int)), some (.ref L), y2, none, none] ∧ H L = none ∧ Same H H2 ∧ H2 L = some (.lst (strsV (wl u i))))
      ⟨L0, none, rfl, hL0, same_upd hL0, upd_same⟩ ?_ ?_
    · rintro i σ H2 hi ⟨L, y2, rfl, hL, sm, hLs⟩
      have hpow : u.length ^ i ≤ 5000 := Nat.le_trans (Nat.pow_le_pow_right (by omega) (by omega)) h5
      have hwl : (wl u i).length = u.length ^ i := by rw [wl_eq]; exact words_len u i
      refine ⟨_, rfl, L, rfl, ⟨_, .inl (.inl hLs)⟩, fun DD hD => ?_⟩
      refine lc2_it (walk_list (K := K) (a := L) (xs := strsV (wl u i))) (fun j H3 => Same H2 H3 ∧ H3 DD = some (.lst (strsV (((wl u i).take j).flatMap fun x => u.map fun c => x ++ [c])))) ⟨same_upd hD, upd_same⟩ (fun j H3 _ z => .inl (.inl (z.1 _ _ hLs))) ?_ ?_
      · rintro j x H3 H4 hj ⟨s3, hDD⟩ ⟨rfl, hx⟩
        obtain ⟨v, hv, rfl⟩ := strs_at hx
        obtain ⟨hvl, hvc⟩ := wl_mem.mp (List.mem_of_getElem? hv)
        have hjl : j < u.length ^ i := by
          rw [← hwl]
          exact (List.getElem?_eq_some_iff.mp hv).1
        have jb : ((((wl u i).take j).flatMap fun x => u.map fun c => x ++ [c])).length ≤ 130000 := by
          rw [flat_len, List.length_take]
          have : min j (wl u i).length * u.length ≤ 5000 * 26 := Nat.mul_le_mul (by omega) l26
          omega
        have hp4 := s3 _ _ (sm _ _ hp)
        refine ⟨rfl, _, rfl, p, dx, _, rfl, hp4, gf_no noS noS2, p, u, g, rfl, ⟨dx, hp4⟩, S u, rfl, ?_⟩
        have hz : (S u).cps.size = u.length := S_len u
        refine lc_in (walk_str (z := S u)) (fun m H5 => Same H2 H5 ∧ H5 DD = some (.lst (strsV (((((wl u i).take j).flatMap fun x => u.map fun c => x ++ [c])) ++ (u.take m).map fun c => v ++ [c])))) ⟨s3, by rw [hDD]; simp⟩ (fun _ _ _ _ => True.intro) ?_ ?_
        · rintro m x H5 H6 hm ⟨t1, t2⟩ ⟨rfl, c, hc, rfl⟩
          have hcm : u[m]? = some c := by
            have : u.toArray[m]? = some c := hc
            rw [List.getElem?_toArray] at this
            exact this
          have hml : m < u.length := by rw [hz] at hm; exact hm
          refine ⟨rfl, _, rfl, _, rfl, S v, S [c], rfl, rfl, by rw [S_len, S_len, hvl]; show i + 1 ≤ _; omega, ?_⟩
          refine ⟨_, t2, ?_, fun b o e => ?_, ?_⟩
          · rw [strs_len, List.length_append, List.length_map, List.length_take]
            omega
          · rw [upd_ne (ne_of_none e hD)]
            exact t1 b o e
          · rw [upd_same, S_app, List.take_add_one, hcm, List.map_append, ← List.append_assoc, strs_app (_ ++ _)]
            rfl
        · rintro H5 ⟨t1, t2⟩
          rw [hz, List.take_length] at t2
          refine ⟨t1, ?_⟩
          rw [t2, flat_take hv]
      · rintro H3 ⟨s3, hDD⟩
        rw [strs_len, List.take_length] at hDD
        exact ⟨DD, _, rfl, sm.free hD, sm.trans s3, hDD⟩
    · rintro σ H2 ⟨L, y2, rfl, hL, sm, hLs⟩
      rw [show (((2 * g - 2 : Nat) : Int)).toNat = 2 * g - 2 by omega] at hLs
      exact ⟨_, rfl, q L H2 hL sm hLs⟩
theorem sc_win : FnScope ["ground"] ["ground"] (defScope st_windows) := ⟨rfl, rfl, rfl, by decide +kernel, rfl, by decide +kernel, by decide +kernel⟩
def spWin (C : Addr) : Sp := fun vs H Q _ => ∃ (p : Addr) (u : List Nat) (g : Nat), vs = [.ref p] ∧ GAt C H p u g ∧ Gd u g ∧ u.length ^ (2 * g - 2) ≤ 5000 ∧ ∀ (L : Addr) (H' : Hp), H L = none → Same H H' → H' L = some (.lst (strsV (wl u (2 * g - 2)))) → Q (.ref L) H'
theorem ok_win {C : Addr} (T : Gr K mg C) (D : Df K mg "windows" st_windows ["ground"]) (CG : Cal P w K mg base 1 "check_ground" ["value"] (spCg C)) (CL : Cal P w K mg base 2 "words_long" ["ground", "length"] (spWlg C)) (MW : Mt P w K mg base C 1 "width" ["self"] (spGw C)) :
    FnOk P w K mg base CX0 3 D.f D.fd ["ground"] (spWin C) := by
  refine D.F.ok sc_win (fun vs H Q E h => ?_) (fun cdv A outer s H vs Q E hr h => ?_)
  · obtain ⟨p, u, g, rfl, _⟩ := h
    rfl
  · obtain ⟨p, u, g, rfl, ⟨dx, hp⟩, G, h5, q⟩ := h
    have g2 := G.gap
    refine ⟨_, pss_cons (ps_expr (pcall CG (hr.mono (by decide)) (by rfl) (pa_cons (pv 0) pa_nil)))
      (pss_one (ps_ret (pcall CL hr (by rfl) (pa_cons (pv 0) (pa_cons (pe_meth0 (pv 0) T.cl MW.me MW.ok (hr.mono (by decide)) MW.b .nil pass0) pa_nil))))), ?_⟩
    refine ⟨_, rfl, p, u, g, rfl, ⟨dx, hp⟩, ?_⟩
    refine ⟨_, rfl, _, rfl, p, dx, _, rfl, hp, gf_no noW noW2, p, u, g, rfl, ⟨dx, hp⟩, by omega, ?_⟩
    exact ⟨p, u, g, rfl, ⟨dx, hp⟩, G, h5, q⟩
end
end K4
set_option Elab.async false
set_option linter.all false
set_option maxRecDepth 100000
set_option maxHeartbeats 4000000
namespace K4
open PySem PySem.Spec PyProof.Rows L2 K4M K4S
section
variable {P : Program} {w : World} {K : PySem.W.Frag} {mg : Str → Option Value} {base : Heap}
theorem sc_nx : FnScope ["ground", "window", "sign"] ["ground", "window"] (defScope st_next_ones) := ⟨rfl, rfl, rfl, by decide +kernel, rfl, by decide +kernel, by decide +kernel⟩
def spNx (C : Addr) : Sp := fun vs H Q _ => ∃ (p : Addr) (u : List Nat) (g : Nat) (x : List Nat), vs = [.ref p, .str (S x)] ∧ GAt C H p u g ∧ Gd u g ∧ x ∈ wl u (2 * g - 2) ∧ ∀ (L : Addr) (H' : Hp), H L = none → Same H H' → H' L = some (.lst (strsV (u.map fun c => x.drop 1 ++ [c]))) → Q (.ref L) H'
theorem ok_nx {C : Addr} (T : Gr K mg C) (D : Df K mg "next_ones" st_next_ones ["ground", "window"]) (CG : Cal P w K mg base 1 "check_ground" ["value"] (spCg C)) (CW : Cal P w K mg base 4 "check_window" ["ground", "value"] (spCw C)) (MS : Mt P w K mg base C 1 "signs" ["self"] (spGs C)) :
    FnOk P w K mg base CX0 5 D.f D.fd ["ground", "window"] (spNx C) := by
  refine D.F.ok sc_nx (fun vs H Q E h => ?_) (fun cdv A outer s H vs Q E hr h => ?_)
  · obtain ⟨p, u, g, x, rfl, _⟩ := h
    rfl
  · obtain ⟨p, u, g, x, rfl, ⟨dx, hp⟩, G, hx, q⟩ := h
    obtain ⟨h1, h2⟩ := wl_mem.mp hx
    have e16 : sizeLine = 16777216 := by decide
    have g2 := G.gap
    have gm := G.max
    have l26 := G.few
    have hs : (S x).length ≤ sizeLine := by rw [S_len]; omega
    have hr1 : Room 1 _ := hr.mono (by decide)
    refine ⟨_, pss_cons (ps_expr (pcall CG (hr.mono (by decide)) (by rfl) (pa_cons (pv 0) pa_nil))) (pss_cons (ps_expr (pcall CW hr (by rfl) (pa_cons (pv 0) (pa_cons (pv 1) pa_nil))))
      (pss_one (ps_ret (pe_lc (own := [("sign", 2)]) (g := gName 2) (tt := tYes) rfl sc_nx.nd (pi_str (pe_meth0 (pv 0) T.cl MS.me MS.ok hr1 MS.b .nil pass0))
        (blkOk_by (N := ["ground", "window", "sign"]) (sc := defScope st_next_ones) (by decide +kernel)) (fun _ _ _ _ _ => pg_name (i := 2) sc_nx.nd rfl (.inl rfl)) (fun _ _ _ _ _ => pts_nil)
        (fun _ _ _ _ _ => pe_op op_add_str (pe_slice sl_str (pv 1) (po_some pe_int) po_none) (pv 2)))))), ?_⟩
    refine ⟨_, rfl, p, u, g, rfl, ⟨dx, hp⟩, ?_⟩
    refine ⟨_, rfl, _, rfl, p, u, g, x, rfl, ⟨dx, hp⟩, by omega, by omega, hx, ?_⟩
    refine ⟨_, rfl, p, dx, _, rfl, hp, gf_no noS noS2, p, u, g, rfl, ⟨dx, hp⟩, S u, rfl, fun DD hD => ?_⟩
    have hz : (S u).cps.size = u.length := S_len u
    refine lc_it (walk_str (z := S u)) (fun m H5 => Same H H5 ∧ H5 DD = some (.lst (strsV ((u.take m).map fun c => x.drop 1 ++ [c])))) ⟨same_upd hD, upd_same⟩ (fun _ _ _ _ => True.intro) ?_ ?_
    · rintro m y H5 H6 hm ⟨t1, t2⟩ ⟨rfl, c, hc, rfl⟩
      have hcm : u[m]? = some c := by
        have : u.toArray[m]? = some c := hc
        rw [List.getElem?_toArray] at this
        exact this
      have ed : cutS (S x) (some 1) none = S (x.drop 1) := cut_drop x 1
      refine ⟨rfl, _, rfl, 1, rfl, S x, rfl, hs, _, rfl, _, S [c], rfl, rfl, ?_, ?_⟩
      · rw [ed, S_len, S_len, List.length_drop]
        show x.length - 1 + 1 ≤ _
        omega
      · refine ⟨_, t2, ?_, fun b o e => ?_, ?_⟩
        · rw [strs_len, List.length_map, List.length_take]
          omega
        · rw [upd_ne (ne_of_none e hD)]
          exact t1 b o e
        · rw [upd_same, ed, S_app, List.take_add_one, hcm, List.map_append, strs_app]
          rfl
    · rintro H5 ⟨t1, t2⟩
      rw [hz, List.take_length] at t2
      exact q DD H5 hD t1 t2
theorem sc_rf : FnScope ["window", "period", "row", "at"] ["window"] (defScope st__ring_from) := ⟨rfl, rfl, rfl, by decide +kernel, rfl, by decide +kernel, by decide +kernel⟩
def spRf : Sp := fun vs H Q _ => ∃ x : List Nat, vs = [.str (S x)] ∧ x.length ≤ 2000 ∧ Low x ∧ x ≠ [] ∧ ∀ (L : Addr) (H' : Hp), H L = none → Same H H' → H' L = some (.lst (strsV (ringL x))) → Q (.ref L) H'
theorem ok_rf (B : Bi mg) (D : Df K mg "_ring_from" st__ring_from ["window"]) (CL : Cal P w K mg base 5 "least_period" ["word"] spLp) : FnOk P w K mg base CX0 6 D.f D.fd ["window"] spRf := by
  refine D.F.ok sc_rf (fun vs H Q E h => ?_) (fun cdv A outer s H vs Q E hr h => ?_)
  · obtain ⟨x, rfl, _⟩ := h
    rfl
  · obtain ⟨x, rfl, hl, hw, h0, q⟩ := h
    have e16 : sizeLine = 16777216 := by decide
    have hs : (S x).length ≤ sizeLine := by rw [S_len]; omega
    obtain ⟨_, p1, p2, _⟩ := lp_spec x h0
    refine ⟨_, pss_cons (ps_set (i := 1) sc_rf.nd rfl (.inl rfl) (pcall CL hr (by rfl) (pa_cons (pv 0) pa_nil)))
      (pss_cons (ps_set (i := 2) sc_rf.nd rfl (.inr rfl) (pe_op op_mulS (pe_slice sl_str (pv 0) po_none (po_some (pv 1))) (pe_op op_add (pe_op op_fdiv (pe_callB call_len_str (by rfl) B.len PySem.boot_len (pa_cons (pv 0) pa_nil)) (pv 1)) pe_int)))
      (pss_one (ps_ret (pe_lc (own := [("at", 3)]) (g := gName 3) (tt := tYes) rfl sc_rf.nd (pi_range1 (by rfl) B.range (pa_cons (pv 1) pa_nil))
        (blkOk_by (N := ["window", "period", "row", "at"]) (sc := defScope st__ring_from) (by decide +kernel)) (fun _ _ _ _ _ => pg_name (i := 3) sc_rf.nd rfl (.inl rfl)) (fun _ _ _ _ _ => pts_nil)
        (fun _ _ _ _ _ => pe_slice sl_str (pv 2) (po_some (pv 3)) (po_some (pe_op op_add (pv 3) (pe_callB call_len_str (by rfl) B.len PySem.boot_len (pa_cons (pv 0) pa_nil))))))))), ?_⟩
    refine ⟨_, rfl, x, rfl, by omega, hw, h0, ?_⟩
    refine ⟨_, rfl, _, rfl, (lp x : Int), rfl, S x, rfl, hs, ?_⟩
    refine ⟨_, rfl, S x, rfl, hs, _, rfl, _, _, rfl, rfl, ⟨by omega, by omega⟩, _, _, rfl, rfl, ?_⟩
    have ek : ((S x).length : Int) / (lp x : Int) + 2 = ((x.length / lp x + 2 : Nat) : Int) := by rw [S_len]; omega
    have lt : (x.take (lp x)).length = lp x := by rw [List.length_take]; omega
    have hdv : x.length / lp x ≤ x.length := Nat.div_le_self _ _
    have hmul : lp x * (x.length / lp x + 2) ≤ 10000 := by
      have := Nat.mul_div_le x.length (lp x)
      rw [Nat.mul_add]
      omega
    refine ⟨x.take (lp x), x.length / lp x + 2, by rw [cut_take], congrArg V.int ek, by rw [lt]; omega, by omega, by omega, ?_⟩
    refine ⟨_, rfl, (lp x : Int), rfl, by omega, by omega, fun DD hD => ?_⟩
    have lr : (rep (x.take (lp x)) (x.length / lp x + 2)).length = lp x * (x.length / lp x + 2) := by rw [rep_len, lt, Nat.mul_comm]
    have big : x.length + lp x ≤ lp x * (x.length / lp x + 2) := by
      have e := Nat.div_add_mod x.length (lp x)
      have := Nat.mod_lt x.length p1
      rw [Nat.mul_add]
      omega
    refine lc_range (lo := 0) (n := ((lp x : Int)).toNat) (fun m H5 => Same H H5 ∧ H5 DD = some (.lst (strsV ((List.range m).map fun k => cy x (lp x) k x.length)))) ⟨same_upd hD, upd_same⟩ ?_ ?_
    · rintro m H5 hm ⟨t1, t2⟩
      have hm2 : m < lp x := by omega
      have em : (0 + (m : Int)) = (m : Int) := by omega
      refine ⟨rfl, ?_⟩
      rw [em]
      refine ⟨_, rfl, _, rfl, (m : Int), rfl, _, rfl, _, rfl, S x, rfl, hs, _, _, rfl, rfl, _, rfl, S (rep (x.take (lp x)) (x.length / lp x + 2)), rfl, by rw [S_len, lr]; omega, ?_⟩
      rw [S_len, cut_mid (by rw [lr]; omega), ring_row p1 p2 hm2]
      refine ⟨_, t2, ?_, fun b o e => ?_, ?_⟩
      · rw [strs_len, List.length_map, List.length_range]
        omega
      · rw [upd_ne (ne_of_none e hD)]
        exact t1 b o e
      · rw [upd_same, List.range_succ, List.map_append, strs_app]
        rfl
    · rintro H5 ⟨t1, t2⟩
      rw [show ((lp x : Int)).toNat = lp x by omega] at t2
      exact q DD H5 hD t1 t2
end
end K4
set_option Elab.async false
set_option linter.all false
set_option maxRecDepth 100000
set_option maxHeartbeats 4000000
namespace K4
open PySem PySem.Spec PyProof.Rows L2 K4M K4S
/-- a list of lists of texts: where each stands, and what it holds -/
def refsV (ps : List (Addr × List (List Nat))) : List V := ps.map fun e => V.ref e.1
/-- the lists stand as told, each newer than H0, and none of them at D -/
def LL (H0 H : Hp) (D : Addr) (ps : List (Addr × List (List Nat))) : Prop := ∀ e ∈ ps, e.1 ≠ D ∧ H0 e.1 = none ∧ H e.1 = some (.lst (strsV e.2))
theorem refs_at {ps : List (Addr × List (List Nat))} {i : Nat} {x : V} (hx : (refsV ps)[i]? = some x) : ∃ e, ps[i]? = some e ∧ x = V.ref e.1 := by
  unfold refsV at hx
  rw [List.getElem?_map] at hx
  cases e : ps[i]? with
  | none => rw [e] at hx; cases hx
  | some u => rw [e] at hx; exact ⟨u, rfl, (Option.some.inj hx).symm⟩
theorem refs_len (ps : List (Addr × List (List Nat))) : (refsV ps).length = ps.length := List.length_map _
theorem LL.mono {H0 H H' : Hp} {D : Addr} {ps : List (Addr × List (List Nat))} (h : LL H0 H D ps) (k : ∀ e ∈ ps, H' e.1 = H e.1) : LL H0 H' D ps := fun e he => ⟨(h e he).1, (h e he).2.1, by rw [k e he]; exact (h e he).2.2⟩
theorem ring_head {w : List Nat} (h : w ≠ []) : ∃ r, ringL w = w :: r := by
  unfold ringL
  have := lp_pos h
  obtain ⟨k, hk⟩ : ∃ k, lp w = k + 1 := ⟨lp w - 1, by omega⟩
  rw [hk, List.range_succ_eq_map, List.map_cons]
  refine ⟨_, congrArg (fun y => y :: _) ?_⟩
  rw [← hk]
  exact cy_zero this (lp_per h)
theorem strs_S (ws : List (List Nat)) : strsV ws = (ws.map S).map V.str := by
  unfold strsV
  rw [List.map_map]
  rfl
section
variable {P : Program} {w : World} {K : PySem.W.Frag} {mg : Str → Option Value} {base : Heap}
theorem sc_lr : FnScope ["ground", "rings", "window", "ring"] ["ground"] (defScope st_lone_rings) := ⟨rfl, rfl, rfl, by decide +kernel, rfl, by decide +kernel, by decide +kernel⟩
def spLr (C : Addr) : Sp := fun vs H Q _ => ∃ (p : Addr) (u : List Nat) (g : Nat), vs = [.ref p] ∧ GAt C H p u g ∧ Gd u g ∧ u.length ^ (2 * g - 2) ≤ 5000 ∧
  ∀ (L : Addr) (H' : Hp) (ps : List (Addr × List (List Nat))), H L = none → Same H H' → H' L = some (.lst (refsV ps)) → LL H H' L ps → ps.map (·.2) = rings u g → Q (.ref L) H'
theorem ok_lr (B : Bi mg) {C : Addr} (T : Gr K mg C) (D : Df K mg "lone_rings" st_lone_rings ["ground"]) (CG : Cal P w K mg base 1 "check_ground" ["value"] (spCg C)) (CW : Cal P w K mg base 3 "windows" ["ground"] (spWin C)) (CO : Cal P w K mg base 6 "is_own" ["ground", "window"] (spOwn C))
    (CR : Cal P w K mg base 6 "_ring_from" ["window"] spRf) : FnOk P w K mg base CX0 7 D.f D.fd ["ground"] (spLr C) := by
  refine D.F.ok sc_lr (fun vs H Q E h => ?_) (fun cdv A outer s H vs Q E hr h => ?_)
  · obtain ⟨p, u, g, rfl, _⟩ := h
    rfl
  · obtain ⟨p, u, g, rfl, ⟨dx, hp⟩, G, h5, q⟩ := h
    have e16 : sizeLine = 16777216 := by decide
    have g2 := G.gap
    have gm := G.max
    have hun := hr.units
    refine ⟨_, pss_cons (ps_expr (pcall CG (hr.mono (by decide)) (by rfl) (pa_cons (pv 0) pa_nil)))
      (pss_cons (ps_setLc (i := 1) (own := [("window", 2)]) (g := gName 2) rfl sc_lr.nd rfl rfl (sw_true rfl rfl rfl (by decide +kernel)) (pi_list (pcall CW (hr.mono (by decide)) (by rfl) (pa_cons (pv 0) pa_nil)))
        (blkOk_by (N := ["ground", "rings", "window", "ring"]) (sc := defScope st_lone_rings) (by decide +kernel)) (fun _ _ _ _ _ => pg_name (i := 2) sc_lr.nd rfl (.inl rfl))
        (fun _ _ _ _ _ => pts_one (pt_not (pt_val (pcall CO hr (by rfl) (pa_cons (pv 0) (pa_cons (pv 2) pa_nil))))))
        (fun _ _ _ _ _ => pcall CR hr (by rfl) (pa_cons (pv 2) pa_nil)))
      (pss_one (ps_ret (pe_lc (own := [("ring", 3)]) (g := gName 3) rfl sc_lr.nd (pi_list (pv 1))
        (blkOk_by (N := ["ground", "rings", "window", "ring"]) (sc := defScope st_lone_rings) (by decide +kernel)) (fun _ _ _ _ _ => pg_name (i := 3) sc_lr.nd rfl (.inl rfl))
        (fun _ _ _ _ _ => pts_one (pt_cmpR op_eq (pe_ix (r := rIxL K) ix_list (pv 3) pe_int (fun _ _ => rfl)) (pe_callB (r := rMinS K) (cr_minS rfl hun) (by rfl) B.min (by decide +kernel) (pa_cons (pv 3) pa_nil)) (nomark _)))
        (fun _ _ _ _ _ => pv 3))))), ?_⟩
    refine ⟨_, rfl, p, u, g, rfl, ⟨dx, hp⟩, ?_⟩
    refine ⟨_, rfl, p, u, g, rfl, ⟨dx, hp⟩, G, h5, fun L1 H1 hL1 sm1 hLs1 => ?_⟩
    refine ⟨L1, rfl, ⟨_, .inl (.inl hLs1)⟩, fun DD hD => ?_⟩
    have hwl : (wl u (2 * g - 2)).length ≤ 5000 := by rw [wl_eq, words_len]; exact h5
    refine lc_list (K := K) (a := L1) (xs := strsV (wl u (2 * g - 2))) (fun j H3 => Same H1 H3 ∧ ∃ ps, H3 DD = some (.lst (refsV ps)) ∧ LL H H3 DD ps ∧ ps.map (·.2) = (((wl u (2 * g - 2)).take j).filter fun v => decide (lp v < g)).map ringL)
      ⟨same_upd hD, [], upd_same, (fun e he => by cases he), rfl⟩ (fun j H3 _ z => .inl (.inl (z.1 _ _ hLs1))) ?_ ?_
    · rintro j x H3 hj ⟨s3, ps, hDD, ll, eps⟩
      obtain ⟨v, hv, rfl⟩ := strs_at hj
      have vm : v ∈ wl u (2 * g - 2) := List.mem_of_getElem? hv
      obtain ⟨hvl, hvc⟩ := wl_mem.mp vm
      have hp3 := s3 _ _ (sm1 _ _ hp)
      have hps : ps.length ≤ 5000 := by
        have := congrArg List.length eps
        rw [List.length_map, List.length_map] at this
        have l1 := List.length_filter_le (fun v => decide (lp v < g)) ((wl u (2 * g - 2)).take j)
        rw [List.length_take] at l1
        omega
      refine ⟨rfl, ?_⟩
      refine ⟨_, rfl, _, rfl, p, u, g, v, rfl, ⟨dx, hp3⟩, G, vm, _, rfl, ?_⟩
      by_cases hb : lp v < g
      · rw [decide_eq_true hb]
        refine iteT ⟨_, rfl, v, rfl, by omega, fun c hc => G.low c (hvc c hc), fun z => by rw [z] at hvl; simp at hvl; omega, fun q1 H4 hq1 s4 hq4 => ?_⟩
        have nD : q1 ≠ DD := (ne_of_none hDD hq1).symm
        refine ⟨_, s4 _ _ hDD, by rw [refs_len]; omega, fun b o e => ?_, ps ++ [(q1, ringL v)], ?_, ?_, ?_⟩
        · rw [upd_ne (ne_of_none e hD)]
          exact s4 _ _ (s3 b o e)
        · rw [upd_same]
          unfold refsV
          rw [List.map_append]
          rfl
        · intro e he
          rcases List.mem_append.mp he with z | z
          · obtain ⟨a1, a2, a3⟩ := ll e z
            exact ⟨a1, a2, by rw [upd_ne a1]; exact s4 _ _ a3⟩
          · rw [List.mem_singleton.mp z]
            exact ⟨nD, sm1.free (s3.free hq1), by rw [upd_ne nD]; exact hq4⟩
        · rw [List.map_append, eps, filter_take hv, if_pos (decide_eq_true hb), List.map_append]
          rfl
      · rw [decide_eq_false hb]
        refine iteF ⟨s3, ps, hDD, ll, ?_⟩
        rw [eps, filter_take hv, if_neg (by simpa using hb), List.append_nil]
    · rintro H3 ⟨s3, ps, hDD, ll, eps⟩
      rw [strs_len, List.take_length] at eps
      have eb : ps.map (·.2) = (bad u g).map ringL := eps
      refine ⟨_, rfl, DD, rfl, ⟨_, .inl (.inl hDD)⟩, fun D2 hD2 => ?_⟩
      have ps_at : ∀ {i : Nat} {e : Addr × List (List Nat)}, ps[i]? = some e → ∃ v, (bad u g)[i]? = some v ∧ e.2 = ringL v := fun {i e} he => by
        have := congrArg (fun l => l[i]?) eb
        simp only [List.getElem?_map, he, Option.map_some] at this
        cases z : (bad u g)[i]? with
        | none => rw [z] at this; cases this
        | some v => rw [z] at this; exact ⟨v, rfl, Option.some.inj this⟩
      refine lc_list (K := K) (a := DD) (xs := refsV ps) (fun j H4 => Same H3 H4 ∧ ∃ qs, H4 D2 = some (.lst (refsV qs)) ∧ LL H H4 D2 qs ∧ qs.map (·.2) = (((bad u g).take j).filter least).map ringL ∧ qs.length ≤ j)
        ⟨same_upd hD2, [], upd_same, (fun e he => by cases he), rfl, Nat.le_refl _⟩ (fun j H4 _ z => .inl (.inl (z.1 _ _ hDD))) ?_ ?_
      · rintro j x H4 hj ⟨s4, qs, hD4, lq, eqs, hql⟩
        obtain ⟨e, he, rfl⟩ := refs_at hj
        obtain ⟨v, hv, ev⟩ := ps_at he
        obtain ⟨a1, a2, a3⟩ := ll e (List.mem_of_getElem? he)
        have vm := List.mem_of_getElem? hv
        have vh := bad_half g2 vm
        obtain ⟨r, er⟩ := ring_head vh.1
        have a4 := s4 _ _ a3
        rw [ev, strs_S] at a4
        have nD2 : e.1 ≠ D2 := ne_of_none a3 hD2
        have hjl : j < ps.length := (List.getElem?_eq_some_iff.mp he).1
        have hpl : ps.length ≤ 5000 := by
          have := congrArg List.length eb
          rw [List.length_map, List.length_map] at this
          have l1 := List.length_filter_le (fun v => decide (lp v < g)) (wl u (2 * g - 2))
          unfold bad at this
          omega
        have hi0 : atI ((ringL v).map S |>.map V.str) 0 = some (.str (S v)) := by
          rw [er]
          exact atI_nat (j := 0) rfl
        refine ⟨rfl, ?_⟩
        refine ⟨_, rfl, e.1, _, 0, .str (S v), rfl, rfl, .inl (.inl a4), hi0, ?_⟩
        refine ⟨_, rfl, e.1, S v, r.map S, rfl, .inl (.inl (by rw [a4, er]; rfl)), fun m hm hl => ?_⟩
        have hm' : m ∈ (ringL v).map S := by rw [er]; exact hm
        obtain ⟨mm, hmm, rfl⟩ := List.mem_map.mp hm'
        refine ⟨rfl, _, rfl, ?_⟩
        rw [V_dec, least_eq vh.1 hmm fun y hy => hl (S y) (by rw [← List.map_cons (f := S), ← er]; exact List.mem_map.mpr ⟨y, hy, rfl⟩)]
        cases hb : least v with
        | true =>
          refine iteT ⟨_, rfl, _, hD4, by rw [refs_len]; omega, fun b o e2 => ?_, qs ++ [(e.1, ringL v)], ?_, ?_, ?_, ?_⟩
          · rw [upd_ne (ne_of_none e2 hD2)]
            exact s4 b o e2
          · rw [upd_same]
            unfold refsV
            rw [List.map_append]
            rfl
          · intro e3 he3
            rcases List.mem_append.mp he3 with z | z
            · obtain ⟨b1, b2, b3⟩ := lq e3 z
              exact ⟨b1, b2, by rw [upd_ne b1]; exact b3⟩
            · rw [List.mem_singleton.mp z]
              exact ⟨nD2, a2, by rw [upd_ne nD2, a4, strs_S]⟩
          · rw [List.map_append, eqs, filter_take hv, if_pos hb, List.map_append]
            rfl
          · rw [List.length_append]
            show qs.length + 1 ≤ j + 1
            omega
        | false =>
          refine iteF ⟨s4, qs, hD4, lq, ?_, by omega⟩
          rw [eqs, filter_take hv, if_neg (by rw [hb]; exact Bool.false_ne_true), List.append_nil]
      · rintro H4 ⟨s4, qs, hD4, lq, eqs, hql⟩
        have hlen : ps.length = (bad u g).length := by
          have := congrArg List.length eb
          rw [List.length_map, List.length_map] at this
          exact this
        rw [refs_len, hlen, List.take_length] at eqs
        exact q D2 H4 qs (sm1.free (s3.free hD2)) (sm1.trans (s3.trans s4)) hD4 lq eqs
end
end K4
set_option Elab.async false
set_option linter.all false
set_option maxRecDepth 100000
set_option maxHeartbeats 4000000
namespace K4
open PySem PySem.Spec PyProof.Rows L2 K4M K4S
/-- the law's own way to tell a period -/
def dt (x : List Nat) (p : Nat) : Bool := x.drop p == x.take (x.length - p)
section
variable {P : Program} {w : World} {K : PySem.W.Frag} {mg : Str → Option Value} {base : Heap}
theorem sc_rep : FnScope ["word", "gap", "period"] ["word", "gap"] (defScope st__law_repeats) := ⟨rfl, rfl, rfl, by decide +kernel, rfl, by decide +kernel, by decide +kernel⟩
def spRep : Sp := fun vs H Q _ => ∃ (x : List Nat) (g : Nat), vs = [.str (S x), .int (g : Int)] ∧ x ≠ [] ∧ x.length ≤ 2000 ∧ 1 ≤ g ∧ g ≤ x.length ∧ ∀ H', Same H H' → Q (.bl (decide (lp x < g))) H'
theorem ok_rep (B : Bi mg) (D : Df K mg "_law_repeats" st__law_repeats ["word", "gap"]) : FnOk P w K mg base CX0 1 D.f D.fd ["word", "gap"] spRep := by
  refine D.F.ok sc_rep (fun vs H Q E h => ?_) (fun cdv A outer s H vs Q E hr h => ?_)
  · obtain ⟨x, g, rfl, _⟩ := h
    rfl
  · obtain ⟨x, g, rfl, h0, hl, g1, hg, q⟩ := h
    have e16 : sizeLine = 16777216 := by decide
    have hs : (S x).length ≤ sizeLine := by rw [S_len]; omega
    refine ⟨_, (pss_one (ps_ret (pe_callB (cr_any rfl) (by rfl) B.any (by decide +kernel) (pa_cons (pe_lc (own := [("period", 2)]) (g := (gName 2)) (tt := tYes) rfl sc_rep.nd (pi_range2 (by rfl) B.range (pa_cons pe_int (pa_cons (pe_callB (call_min2 rfl) (by rfl) B.min (by decide +kernel) (pa_cons (pv 1) (pa_cons (pe_callB call_len_str (by rfl) B.len PySem.boot_len (pa_cons (pv 0) pa_nil)) pa_nil))) pa_nil))) (blkOk_by (N := ["word", "gap", "period"]) (sc := defScope st__law_repeats) (by decide +kernel)) (fun _ _ _ _ _ => (pg_name (i := 2) sc_rep.nd rfl (.inl rfl))) (fun _ _ _ _ _ => pts_nil) (fun _ _ _ _ _ => (pe_cmpR op_eq (pe_slice sl_str (pv 0) (po_some (pv 2)) po_none) (pe_slice sl_str (pv 0) po_none (po_some (pe_op op_sub (pe_callB call_len_str (by rfl) B.len PySem.boot_len (pa_cons (pv 0) pa_nil)) (pv 2)))) (nomark _)))) pa_nil)))), ?_⟩
    refine ⟨_, rfl, _, rfl, S x, rfl, hs, (g : Int), ((S x).length : Int), rfl, 1, (g : Int), by rw [if_neg (by rw [S_len]; omega)], ⟨by decide, by decide, by omega, by omega⟩, fun DD hD => ?_⟩
    refine lc_range (lo := 1) (n := ((g : Int) - 1).toNat) (fun i H3 => Same H H3 ∧ H3 DD = some (.lst (((List.range' 1 i).map (dt x)).map V.bl))) ⟨same_upd hD, upd_same⟩ ?_ ?_
    · rintro i H3 hi ⟨sm, hDD⟩
      have ei : (1 + (i : Int)) = ((i + 1 : Nat) : Int) := by omega
      refine ⟨rfl, ?_⟩
      rw [ei]
      refine ⟨_, rfl, _, rfl, ((i + 1 : Nat) : Int), rfl, S x, rfl, hs, _, rfl, _, rfl, S x, rfl, hs, _, rfl, _, _, rfl, rfl, ((x.length - (i + 1) : Nat) : Int), congrArg V.int (by rw [S_len]; omega), S x, rfl, hs, rfl, ?_⟩
      rw [cut_drop, cut_take, V_dec]
      refine ⟨_, hDD, ?_, fun c o e => ?_, ?_⟩
      · rw [List.length_map, List.length_map, List.length_range']
        omega
      · rw [upd_ne (ne_of_none e hD)]
        exact sm c o e
      · rw [upd_same, range_snoc', List.map_append, List.map_append]
        rfl
    · rintro H3 ⟨sm, hDD⟩
      rw [show ((g : Int) - 1).toNat = g - 1 by omega] at hDD
      refine ⟨DD, _, rfl, .inl (.inl hDD), bl_q ?_ (q H3 sm)⟩
      rw [List.any_map]
      exact law_rep h0 hg
theorem sc_lper : FnScope ["word", "period"] ["word"] (defScope st__law_period) := ⟨rfl, rfl, rfl, by decide +kernel, rfl, by decide +kernel, by decide +kernel⟩
def spLper : Sp := fun vs H Q _ => ∃ x : List Nat, vs = [.str (S x)] ∧ x ≠ [] ∧ x.length ≤ 2000 ∧ ∀ H', Same H H' → Q (.int (lp x : Int)) H'
theorem ok_lper (B : Bi mg) (D : Df K mg "_law_period" st__law_period ["word"]) : FnOk P w K mg base CX0 1 D.f D.fd ["word"] spLper := by
  refine D.F.ok sc_lper (fun vs H Q E h => ?_) (fun cdv A outer s H vs Q E hr h => ?_)
  · obtain ⟨x, rfl, _⟩ := h
    rfl
  · obtain ⟨x, rfl, h0, hl, q⟩ := h
    have e16 : sizeLine = 16777216 := by decide
    have hs : (S x).length ≤ sizeLine := by rw [S_len]; omega
    have hl0 : 0 < x.length := List.length_pos_iff.mpr h0
    refine ⟨_, (pss_one (ps_ret (pe_ix (r := rIxL K) ix_list (pe_lc (own := [("period", 1)]) (g := (gName 1)) rfl sc_lper.nd (pi_range2 (by rfl) B.range (pa_cons pe_int (pa_cons (pe_op op_add (pe_callB call_len_str (by rfl) B.len PySem.boot_len (pa_cons (pv 0) pa_nil)) pe_int) pa_nil))) (blkOk_by (N := ["word", "period"]) (sc := defScope st__law_period) (by decide +kernel)) (fun _ _ _ _ _ => (pg_name (i := 1) sc_lper.nd rfl (.inl rfl))) (fun _ _ _ _ _ => (pts_one (pt_cmpR op_eq (pe_slice sl_str (pv 0) (po_some (pv 1)) po_none) (pe_slice sl_str (pv 0) po_none (po_some (pe_op op_sub (pe_callB call_len_str (by rfl) B.len PySem.boot_len (pa_cons (pv 0) pa_nil)) (pv 1)))) (nomark _)))) (fun _ _ _ _ _ => (pv 1))) pe_int (fun _ _ => rfl)))), ?_⟩
    refine ⟨_, rfl, S x, rfl, hs, _, _, rfl, rfl, 1, (x.length : Int) + 1, by rw [S_len], ⟨by decide, by decide, by omega, by omega⟩, fun DD hD => ?_⟩
    refine lc_range (lo := 1) (n := ((x.length : Int) + 1 - 1).toNat) (fun i H3 => Same H H3 ∧ H3 DD = some (.lst (natsV ((List.range' 1 i).filter (dt x))))) ⟨same_upd hD, upd_same⟩ ?_ ?_
    · rintro i H3 hi ⟨sm, hDD⟩
      have ei : (1 + (i : Int)) = ((i + 1 : Nat) : Int) := by omega
      refine ⟨rfl, ?_⟩
      rw [ei]
      refine ⟨_, rfl, _, rfl, ((i + 1 : Nat) : Int), rfl, S x, rfl, hs, _, rfl, _, rfl, S x, rfl, hs, _, rfl, _, _, rfl, rfl, ((x.length - (i + 1) : Nat) : Int), congrArg V.int (by rw [S_len]; omega), S x, rfl, hs, rfl, ?_⟩
      rw [cut_drop, cut_take, V_dec]
      refine ⟨_, rfl, ?_⟩
      show if dt x (i + 1) = true then _ else _
      cases hb : dt x (i + 1) with
      | true =>
        refine iteT ⟨_, rfl, _, hDD, ?_, fun c o e => ?_, ?_⟩
        · unfold natsV
          rw [List.length_map]
          have := List.length_filter_le (dt x) (List.range' 1 i)
          rw [List.length_range'] at this
          omega
        · rw [upd_ne (ne_of_none e hD)]
          exact sm c o e
        · rw [upd_same, range_snoc', List.filter_append, List.filter_cons_of_pos hb]
          unfold natsV
          rw [List.map_append]
          rfl
      | false =>
        refine iteF ⟨sm, ?_⟩
        rw [hDD, range_snoc', List.filter_append, List.filter_cons_of_neg (by rw [hb]; exact Bool.false_ne_true)]
        simp
    · rintro H3 ⟨sm, hDD⟩
      rw [show ((x.length : Int) + 1 - 1).toNat = x.length by omega] at hDD
      have e1 : ((List.range' 1 x.length).filter (dt x)).headD 0 = lp x := law_lp h0
      have hne : (List.range' 1 x.length).filter (dt x) ≠ [] := fun z => by
        rw [z] at e1
        have := lp_pos h0
        simp at e1
        omega
      obtain ⟨a, r, ear⟩ : ∃ a r, (List.range' 1 x.length).filter (dt x) = a :: r := by
        cases z : (List.range' 1 x.length).filter (dt x) with
        | nil => exact absurd z hne
        | cons a r => exact ⟨a, r, rfl⟩
      rw [ear] at e1 hDD
      have e2 : a = lp x := e1
      refine ⟨DD, _, 0, .int (a : Int), rfl, rfl, .inl (.inl hDD), atI_nat (j := 0) rfl, ?_⟩
      rw [e2]
      exact q H3 sm
theorem sc_md : FnScope ["ground"] ["ground"] (defScope st__law_made) := ⟨rfl, rfl, rfl, by decide +kernel, rfl, by decide +kernel, by decide +kernel⟩
def spMd (C : Addr) : Sp := fun vs H Q _ => ∃ (t : Addr) (u : List Nat) (g : Nat), vs = [.ref t] ∧ H t = some (.tup [.str (S u), .int (g : Int)]) ∧ Gd u g ∧ ∀ (x : Addr) (H' : Hp), H x = none → Same H H' → GAt C H' x u g → Q (.ref x) H'
theorem ok_md {C : Addr} (T : Gr K mg C) (D : Df K mg "_law_made" st__law_made ["ground"]) (M : Ma P w K mg base C 3 ["self", "signs", "gap"] (spInit C)) : FnOk P w K mg base CX0 5 D.f D.fd ["ground"] (spMd C) := by
  refine D.F.ok sc_md (fun vs H Q E h => ?_) (fun cdv A outer s H vs Q E hr h => ?_)
  · obtain ⟨t, u, g, rfl, _⟩ := h
    rfl
  · obtain ⟨t, u, g, rfl, ht, G, q⟩ := h
    refine ⟨_, pss_one (ps_ret (pe_make M.mm M.ok hr (by rfl) T.g M.b .nil pass0 (pa_cons (pe_ix (r := rIxT K) ix_tup (pv 0) pe_int (fun _ _ => rfl)) (pa_cons (pe_ix (r := rIxT K) ix_tup (pv 0) pe_int (fun _ _ => rfl)) pa_nil)))), ?_⟩
    refine ⟨_, rfl, t, _, 0, .str (S u), rfl, rfl, .inl (.inl ht), atI_nat (j := 0) rfl, _, rfl, t, _, 1, .int (g : Int), rfl, rfl, .inl (.inl ht), atI_nat (j := 1) rfl, fun x dx hx hdx ne => ?_⟩
    refine ⟨x, dx, u, g, rfl, upd_same, G, fun H' kp ga => ⟨rfl, q x H' hx (fun b o e => kp b o ?_ (ne_of_none e hx)) ga⟩⟩
    rw [upd_ne (ne_of_none e hx), upd_ne (ne_of_none e hdx)]
    exact e
theorem sc_mg : FnScope ["dice"] ["dice"] (defScope st__law_many_ground) := ⟨rfl, rfl, rfl, by decide +kernel, rfl, by decide +kernel, by decide +kernel⟩
def spMg : Sp := fun vs H Q _ => ∃ (d : Addr) (n : Nat), vs = [.ref d] ∧ Dice H d n ∧ n < 2 ^ 57 ∧ ∀ (p : Addr) (H' : Hp) (u : List Nat) (g : Nat), H p = none → Kept H H' d → H' p = some (.tup [.str (S u), .int (g : Int)]) → Gd u g → u.length ^ (2 * g - 2) ≤ 5000 → Q (.ref p) H'
theorem ok_mg (D : Df K mg "_law_many_ground" st__law_many_ground ["dice"]) (CD : Cal P w K mg base 2 "_law_draw" ["dice", "many"] spDraw) (CL : Cal P w K mg base 3 "_law_letters" ["dice", "many"] spLetters) : FnOk P w K mg base CX0 4 D.f D.fd ["dice"] spMg := by
  refine D.F.ok sc_mg (fun vs H Q E h => ?_) (fun cdv A outer s H vs Q E hr h => ?_)
  · obtain ⟨d, n, rfl, _⟩ := h
    rfl
  · obtain ⟨d, n, rfl, hD, hn, q⟩ := h
    have two : 2 ≤ sizeLine := by show 2 ≤ sizeLine; decide
    have r2 : Room 2 _ := hr.mono (by decide)
    refine ⟨_, (pss_one (ps_ret (pe_ifExp (pt_cmpR op_eq (pcall CD r2 (by rfl) (pa_cons (pv 0) (pa_cons pe_int pa_nil))) pe_int (nomark _)) (pe_tup (pa_cons (pcall CL hr (by rfl) (pa_cons (pv 0) (pa_cons pe_int pa_nil))) (pa_cons pe_int pa_nil))) (pe_tup (pa_cons (pcall CL hr (by rfl) (pa_cons (pv 0) (pa_cons pe_int pa_nil))) (pa_cons pe_int pa_nil)))))), ?_⟩
    refine ⟨_, rfl, d, 2, n, rfl, hD, by omega, by decide, by decide, fun r H1 r0 r1 hD1 k1 => ⟨rfl, _, rfl, ?_⟩⟩
    have fin : ∀ (m g : Nat) (hm : m ≤ 26) (h2 : 2 ≤ m) (hg : 2 ≤ g) (hg2 : g ≤ 1000) (h5 : m ^ (2 * g - 2) ≤ 5000) (u : List Nat) (H2 : Hp), u.length = m → Low u → u.Pairwise (· < ·) → Kept H1 H2 d → Dice H2 d (n + 1 + m) → ∀ p, H2 p = none → Q (.ref p) (upd H2 p (.tup [.str (S u), .int (g : Int)])) := by
      intro m g hm h2 hg hg2 h5 u H2 hu hl hp k2 hD2 p hpn
      have hpd : p ≠ d := hD2.ne hpn
      refine q p _ u g ?_ (k1.trans (k2.trans (Kept.of (same_upd hpn)))) upd_same ⟨hl, hp, by omega, by omega, hg, hg2⟩ (by rw [hu]; exact h5)
      cases e : H p with
      | none => rfl
      | some o =>
        have := k2 _ _ hpd (k1 _ _ hpd e)
        rw [hpn] at this
        cases this
    rw [dec_int]
    by_cases hz : r = 0
    · rw [beq_iff_eq.mpr hz]
      refine iteT ?_
      exact ⟨_, rfl, d, 10, n + 1, rfl, hD1, by omega, by decide, fun u H2 hu hl hp hD2 k2 => ⟨two, fun p hpn => fin 10 2 (by decide) (by decide) (by decide) (by decide) (by decide) u H2 hu hl hp k2 hD2 p hpn⟩⟩
    · rw [beq_eq_false_iff_ne.mpr hz]
      refine iteF ?_
      exact ⟨_, rfl, d, 2, n + 1, rfl, hD1, by omega, by decide, fun u H2 hu hl hp hD2 k2 => ⟨two, fun p hpn => fin 2 5 (by decide) (by decide) (by decide) (by decide) (by decide) u H2 hu hl hp k2 hD2 p hpn⟩⟩
end
end K4
set_option Elab.async false
set_option linter.all false
set_option maxRecDepth 100000
set_option maxHeartbeats 4000000
namespace K4
open PySem PySem.Spec PyProof.Rows L2 K4M K4S
theorem atI_m1 {α : Type} {xs : List α} {v : α} (h : xs[xs.length - 1]? = some v) : atI xs (-1) = some v := by
  have hl : 0 < xs.length := by have := (List.getElem?_eq_some_iff.mp h).1; omega
  unfold atI ixN
  rw [if_neg (by decide), if_pos (by omega)]
  show xs[((-1 : Int) + (xs.length : Int)).toNat]? = some v
  rw [show ((-1 : Int) + (xs.length : Int)).toNat = xs.length - 1 by omega]
  exact h
theorem merge_some : ∀ (more kvs : List (Key × V)) (k : Key), (valV (mergeK kvs more) k).isSome = ((valV kvs k).isSome || more.any fun e => decide (e.1 = k))
  | [], kvs, k => by
    rw [List.any_nil, Bool.or_false]
    rfl
  | e :: r, kvs, k => by
    show (valV (mergeK (putK kvs e.1 e.2) r) k).isSome = _
    rw [merge_some r, valV_put, List.any_cons]
    by_cases h : k = e.1
    · rw [if_pos h, decide_eq_true h.symm]
      simp
    · rw [if_neg h, decide_eq_false (fun z => h z.symm)]
      simp
/-- what the law has seen: the windows of the rings of the windows so far -/
def Seen (kvs : List (Key × V)) (bs : List (List Nat)) : Prop := ∀ k : List Nat, (valV kvs (Sum.inr (S k))).isSome = true ↔ ∃ v ∈ bs, k ∈ ringL v
/-- the first turns of a ring -/
def rs (v : List Nat) (k : Nat) : List (List Nat) := (List.range k).map fun j => cy v (lp v) j v.length
theorem rs_len (v : List Nat) (k : Nat) : (rs v k).length = k := by unfold rs; rw [List.length_map, List.length_range]
theorem rs_succ (v : List Nat) (k : Nat) : rs v (k + 1) = rs v k ++ [cy v (lp v) k v.length] := by unfold rs; rw [List.range_succ, List.map_append]; rfl
theorem rs_one {v : List Nat} (h : v ≠ []) : rs v 1 = [v] := by
  rw [rs_succ]
  show [cy v (lp v) 0 v.length] = [v]
  rw [cy_zero (lp_pos h) (lp_per h)]
theorem rs_last (v : List Nat) (k : Nat) : (strsV (rs v (k + 1)))[(strsV (rs v (k + 1))).length - 1]? = some (V.str (S (cy v (lp v) k v.length))) := by
  rw [strs_len, rs_len, Nat.add_sub_cancel, rs_succ, strs_app, List.getElem?_append_right (by rw [strs_len, rs_len]; exact Nat.le_refl _), strs_len, rs_len, Nat.sub_self]
  rfl
theorem S_at {x : List Nat} {i : Nat} (h : i < x.length) : (S x).cps.toList[i]? = some (x.getD i 0) := by
  show x[i]? = _
  rw [List.getD_eq_getElem?_getD, List.getElem?_eq_getElem h]
  rfl
/-- the pairs of a ring's windows -/
def trues (ws : List (List Nat)) : List (Key × V) := ws.map fun v => (Sum.inr (S v), V.bl true)
theorem trues_any (ws : List (List Nat)) (k : List Nat) : ((trues ws).any fun e => decide (e.1 = (Sum.inr (S k) : Key))) = true ↔ k ∈ ws := by
  unfold trues
  rw [List.any_map, List.any_eq_true]
  constructor
  · rintro ⟨v, hv, e⟩
    have : (Sum.inr (S v) : Key) = Sum.inr (S k) := of_decide_eq_true e
    rw [← S_inj (Sum.inr.inj this)]
    exact hv
  · intro h
    exact ⟨k, h, decide_eq_true rfl⟩
theorem paired_at {α β : Type} {F : α → β → Prop} : ∀ {l₁ : List α} {l₂ : List β}, l₁.length = l₂.length → (∀ (i : Nat) (a : α) (b : β), l₁[i]? = some a → l₂[i]? = some b → F a b) → Paired F l₁ l₂
  | [], [], _, _ => .nil
  | a :: l, b :: m, hl, h => .cons (h 0 a b rfl rfl) (paired_at (by simpa using hl) fun i x y hx hy => h (i + 1) x y hx hy)
  | [], _ :: _, hl, _ => by cases hl
  | _ :: _, [], hl, _ => by cases hl
theorem Seen.add {kvs : List (Key × V)} {cs : List Nat} {g i : Nat} {v : List Nat} (hv : (bad cs g)[i]? = some v) (h : Seen kvs ((bad cs g).take i)) : Seen (mergeK kvs (mergeK [] (trues (ringL v)))) ((bad cs g).take (i + 1)) := fun k => by
  have e : ((mergeK [] (trues (ringL v))).any fun e => decide (e.1 = (Sum.inr (S k) : Key))) = (valV (mergeK [] (trues (ringL v))) (Sum.inr (S k))).isSome := valV_any _ _
  rw [merge_some, e, merge_some, seen_more hv, Bool.or_eq_true, h k]
  rw [Bool.or_eq_true, trues_any]
  constructor
  · rintro (z | z | z)
    · exact .inl z
    · cases z
    · exact .inr z
  · rintro (z | z)
    · exact .inl z
    · exact .inr (.inr z)
theorem Seen.skip {kvs : List (Key × V)} {cs : List Nat} {g i : Nat} {v : List Nat} (hg : 2 ≤ g) (hv : (bad cs g)[i]? = some v) (h : Seen kvs ((bad cs g).take i)) (hs : ∃ u ∈ (bad cs g).take i, v ∈ ringL u) : Seen kvs ((bad cs g).take (i + 1)) := fun k => by
  rw [h k, seen_more hv]
  constructor
  · exact .inl
  · rintro (z | z)
    · exact z
    · exact seen_skip hg hs z
theorem bad_ne {cs : List Nat} {g : Nat} (hg : 2 ≤ g) (h : cs ≠ []) : bad cs g ≠ [] := fun z => by
  obtain ⟨c, r, rfl⟩ : ∃ c r, cs = c :: r := by
    cases cs with
    | nil => exact absurd rfl h
    | cons c r => exact ⟨c, r, rfl⟩
  have hne : List.replicate (2 * g - 2) c ≠ [] := fun y => by
    have := congrArg List.length y
    simp at this
    omega
  have hp : Per (List.replicate (2 * g - 2) c) 1 := fun i hi => by
    rw [List.length_replicate] at hi
    rw [List.getElem?_replicate, List.getElem?_replicate, if_pos (by omega), if_pos hi]
  have : List.replicate (2 * g - 2) c ∈ bad (c :: r) g := by
    refine bad_mem.mpr ⟨⟨List.length_replicate, fun d hd => by rw [List.eq_of_mem_replicate hd]; exact List.mem_cons_self⟩, ?_⟩
    have := lp_le hne (by decide) hp
    omega
  rw [z] at this
  cases this
theorem rings_ne {cs : List Nat} {g : Nat} (hc : cs.Pairwise (· < ·)) (hg : 2 ≤ g) (h : cs ≠ []) : ∃ w r, rings cs g = ringL w :: r := by
  have hb := bad_ne hg h
  cases e : bad cs g with
  | nil => exact absurd e hb
  | cons w r =>
    have hw : (bad cs g)[0]? = some w := by rw [e]; rfl
    have hl : least w = true := by
      cases z : least w with
      | true => rfl
      | false =>
        obtain ⟨u, hu, _⟩ := (seen_step hc hg hw).mpr z
        rw [List.take_zero] at hu
        cases hu
    refine ⟨w, (r.filter least).map ringL, ?_⟩
    unfold rings
    rw [e, List.filter_cons_of_pos hl]
    rfl
theorem strs_flat (ws : List (List Nat)) : ∀ x ∈ strsV ws, Flat x := fun x hx => by
  obtain ⟨v, _, rfl⟩ := List.mem_map.mp hx
  exact True.intro
theorem strs_flatV (ws : List (List Nat)) : (strsV ws).all flatV = true := by
  unfold strsV
  rw [List.all_map, List.all_eq_true]
  intro x _
  rfl
theorem inV_strs (v : List Nat) (ws : List (List Nat)) : inV (.str (S v)) (strsV ws) = ws.contains v := by
  unfold inV strsV
  rw [List.any_map, Bool.eq_iff_iff, List.any_eq_true, List.contains_iff_mem]
  constructor
  · rintro ⟨x, hx, h⟩
    have h2 : (S x == S v) = true := h
    have h3 : x = v := S_inj (eq_of_beq h2)
    rw [← h3]
    exact hx
  · intro h
    exact ⟨v, h, beq_self_eq_true (S v)⟩
theorem Eqv.rings {K : PySem.W.Frag} {H : Hp} {L L' : Addr} {qs ps : List (Addr × List (List Nat))} (h1 : H L = some (.lst (refsV qs))) (h2 : H L' = some (.lst (refsV ps))) (lq : ∀ e ∈ qs, H e.1 = some (.lst (strsV e.2))) (lp : ∀ e ∈ ps, H e.1 = some (.lst (strsV e.2)))
    (e : qs.map (·.2) = ps.map (·.2)) (hl : qs.length ≤ 100000) (hb : ∀ e ∈ qs, e.2.length ≤ 100000) : Eqv K H 2 (.ref L) (.ref L') := by
  have el : qs.length = ps.length := by
    have := congrArg List.length e
    rw [List.length_map, List.length_map] at this
    exact this
  refine .inr ⟨L, L', refsV qs, refsV ps, rfl, rfl, by rw [refs_len]; exact hl, by rw [refs_len, refs_len]; exact el, .inl ⟨.inl (.inl h1), .inl (.inl h2)⟩, fun i a b ha hb' => ?_⟩
  obtain ⟨q, hq, rfl⟩ := refs_at ha
  obtain ⟨p, hp, rfl⟩ := refs_at hb'
  have e2 : q.2 = p.2 := by
    have := congrArg (fun l => l[i]?) e
    simp only [List.getElem?_map, hq, hp, Option.map_some] at this
    exact Option.some.inj this
  have m1 := lq q (List.mem_of_getElem? hq)
  have m2 := lp p (List.mem_of_getElem? hp)
  rw [← e2] at m2
  exact Eqv.list (.inl (.inl m1)) (.inl (.inl m2)) (by rw [strs_len]; exact hb q (List.mem_of_getElem? hq)) (strs_flat _)
theorem ring_of {cs : List Nat} {g : Nat} {ps : List (Addr × List (List Nat))} (e : ps.map (·.2) = rings cs g) {p : Addr × List (List Nat)} (hp : p ∈ ps) : ∃ v ∈ bad cs g, p.2 = ringL v := by
  have : p.2 ∈ rings cs g := by rw [← e]; exact List.mem_map.mpr ⟨p, hp, rfl⟩
  obtain ⟨v, hv, ev⟩ := List.mem_map.mp this
  exact ⟨v, (List.mem_filter.mp hv).1, ev.symm⟩
theorem cut_mem {xs : List V} {lo hi : Option Int} {x : V} (h : x ∈ cutV xs lo hi) : x ∈ xs := by
  unfold cutV at h
  exact List.mem_of_mem_drop (List.mem_of_mem_take h)
end K4
set_option Elab.async false
set_option linter.all false
set_option maxRecDepth 100000
set_option maxHeartbeats 8000000
namespace K4
open PySem PySem.Spec PyProof.Rows L2 K4M K4S
def rLenQ (K : PySem.W.Frag) : List V → Hp → VK → Prop := fun xs H Q => ∃ p ys, xs = [.ref p] ∧ (SqL K H p ys ∨ SqT K H p ys) ∧ Q (.int ys.length) H
theorem nodup_of {u : List Nat} (h : u.Pairwise (· < ·)) : u.Nodup := by
  rw [List.nodup_iff_pairwise_ne]
  exact h.imp fun {a b} h z => absurd (z ▸ h) (Nat.lt_irrefl _)
theorem Seen.nil : Seen [] [] := fun k => by
  constructor
  · intro z
    cases z
  · rintro ⟨v, hv, _⟩
    cases hv
theorem LL.same {H0 H H' : Hp} {D : Addr} {ps : List (Addr × List (List Nat))} (h : LL H0 H D ps) (s : Same H H') : LL H0 H' D ps := fun e he => ⟨(h e he).1, (h e he).2.1, s _ _ (h e he).2.2⟩
section
variable {P : Program} {w : World} {K : PySem.W.Frag} {mg : Str → Option Value} {base : Heap}
theorem sc_gr : FnScope ["ground", "made", "every", "word", "bad", "due", "seen", "ring", "size", "spin", "late", "told", "window", "sign"] ["ground"] (defScope st__law_ground_right) := ⟨rfl, rfl, rfl, by decide +kernel, rfl, by decide +kernel, by decide +kernel⟩
def spGr : Sp := fun vs H Q _ => ∃ (t : Addr) (u : List Nat) (g : Nat), vs = [.ref t] ∧ H t = some (.tup [.str (S u), .int (g : Int)]) ∧ Gd u g ∧ g ≤ 100 ∧ u.length ^ (2 * g - 2) ≤ 5000 ∧ ∀ H', Same H H' → Q (.bl true) H'
theorem ok_gr (B : Bi mg) {C : Addr} (D : Df K mg "_law_ground_right" st__law_ground_right ["ground"]) (CM : Cal P w K mg base 5 "_law_made" ["ground"] (spMd C)) (CWo : Cal P w K mg base 1 "_law_words_of" ["signs", "size"] spWords) (CRp : Cal P w K mg base 1 "_law_repeats" ["word", "gap"] spRep)
    (CPr : Cal P w K mg base 1 "_law_period" ["word"] spLper) (CLr : Cal P w K mg base 7 "lone_rings" ["ground"] (spLr C)) (CE : Cal P w K mg base 3 "_law_exact" ["mine", "theirs"] (spExact K 2)) (CNx : Cal P w K mg base 5 "next_ones" ["ground", "window"] (spNx C)) :
    FnOk P w K mg base CX0 8 D.f D.fd ["ground"] spGr := by
  refine D.F.ok sc_gr (fun vs H Q E h => ?_) (fun cdv A outer s H vs Q E hr h => ?_)
  · obtain ⟨t, u, g, rfl, _⟩ := h
    rfl
  · obtain ⟨t, u, g, rfl, ht, G, g100, h5, q⟩ := h
    have r1 : Room 1 _ := hr.mono (by decide)
    have r3 : Room 3 _ := hr.mono (by decide)
    have r4 : Room 4 _ := hr.mono (by decide)
    have r5 : Room 5 _ := hr.mono (by decide)
    have r7 : Room 7 _ := hr
    have hu := hu_of hr
    refine ⟨_, (pss_cons (ps_par (i := 1) (j := 2) (by rfl) sc_gr.nd rfl rfl (by decide) rfl rfl (pa_cons (pcall CM r5 (by rfl) (pa_cons (pv 0) pa_nil)) (pa_cons (pcall CWo r1 (by rfl) (pa_cons (pe_ix (r := rIxT K) ix_tup (pv 0) pe_int (fun _ _ => rfl)) (pa_cons (pe_op op_sub (pe_op op_mul pe_int (pe_ix (r := rIxT K) ix_tup (pv 0) pe_int (fun _ _ => rfl))) pe_int) pa_nil))) pa_nil)) (by rfl)) (pss_cons (ps_asg (pe_tup (pa_cons (pe_lc (own := [("word", 3)]) (g := (gName 3)) rfl sc_gr.nd (pi_list (pv 2)) (blkOk_by (N := ["ground", "made", "every", "word", "bad", "due", "seen", "ring", "size", "spin", "late", "told", "window", "sign"]) (sc := defScope st__law_ground_right) (by decide +kernel)) (fun _ _ _ _ _ => (pg_name (i := 3) sc_gr.nd rfl (.inl rfl))) (fun _ _ _ _ _ => (pts_one (pt_val (pcall CRp r1 (by rfl) (pa_cons (pv 3) (pa_cons (pe_ix (r := rIxT K) ix_tup (pv 0) pe_int (fun _ _ => rfl)) pa_nil)))))) (fun _ _ _ _ _ => (pv 3))) (pa_cons (pe_lst pa_nil) (pa_cons pe_dnewK pa_nil)))) (pg_tup rfl (pgs_cons (pg_name (i := 4) sc_gr.nd rfl (.inr rfl)) (pgs_cons (pg_name (i := 5) sc_gr.nd rfl (.inl rfl)) (pgs_cons (pg_name (i := 6) sc_gr.nd rfl (.inl rfl)) pgs_nil))))) (pss_cons (ps_for PassesOwn.never rfl (pi_list (pv 4)) (pg_name (i := 3) sc_gr.nd rfl (.inl rfl)) (pss_cons (ps_par (i := 7) (j := 8) (by rfl) sc_gr.nd rfl rfl (by decide) rfl rfl (pa_cons (pe_lst (pa_cons (pv 3) pa_nil)) (pa_cons (pcall CPr r1 (by rfl) (pa_cons (pv 3) pa_nil)) pa_nil)) (by rfl)) (pss_cons (ps_for PassesOwn.never rfl (pi_range1 (by rfl) B.range (pa_cons (pe_op op_sub (pv 8) pe_int) pa_nil)) (pg_name (i := 9) sc_gr.nd rfl (.inl rfl)) (pss_one (ps_expr (pe_bm PySem.F.plainAttrs_list PySem.F.slot_list_append PySem.F.type_list_append mt_append (pv 7) (pa_cons (pe_op op_add_str (pe_slice sl_str (pe_ix (r := rIxL K) ix_list (pv 7) (pe_un un_neg pe_int) (fun _ _ => rfl)) (po_some pe_int) po_none) (pe_ix ix_str (pe_ix (r := rIxL K) ix_list (pv 7) (pe_un un_neg pe_int) (fun _ _ => rfl)) (pe_op op_sub (pe_callB call_len_str (by rfl) B.len PySem.boot_len (pa_cons (pv 3) pa_nil)) (pv 8)) (fun _ _ => rfl))) pa_nil))))) (pss_one (ps_if (pt_cmp (pc_dnotin hu (pv 3) (pv 6))) (pss_cons (ps_expr (pe_bm PySem.F.plainAttrs_list PySem.F.slot_list_append PySem.F.type_list_append mt_append (pv 5) (pa_cons (pv 7) pa_nil))) (pss_one (ps_expr (pe_bm PySem.F.plainAttrs_dict PySem.F.slot_dict_update PySem.F.type_dict_update mt_upd (pv 6) (pa_cons (pe_callTy (call_dictP rfl) (by rfl) B.dict (by decide +kernel) (pa_cons (pe_lc (own := [("late", 10)]) (g := (gName 10)) (tt := tYes) rfl sc_gr.nd (pi_list (pv 7)) (blkOk_by (N := ["ground", "made", "every", "word", "bad", "due", "seen", "ring", "size", "spin", "late", "told", "window", "sign"]) (sc := defScope st__law_ground_right) (by decide +kernel)) (fun _ _ _ _ _ => (pg_name (i := 10) sc_gr.nd rfl (.inl rfl))) (fun _ _ _ _ _ => pts_nil) (fun _ _ _ _ _ => (pe_tup (pa_cons (pv 10) (pa_cons pe_bl pa_nil))))) pa_nil)) pa_nil))))) pss_nil))))) (pss_cons (ps_set (i := 11) sc_gr.nd rfl (.inl rfl) (pcall CLr r7 (by rfl) (pa_cons (pv 1) pa_nil))) (pss_cons (ps_if (PW.pt (pw_or (pt_not (pt_val (pcall CE r3 (by rfl) (pa_cons (pv 11) (pa_cons (pv 5) pa_nil))))) (pw_or1 (pt_not (pt_val (pe_callB (cr_all rfl) (by rfl) B.all (by decide +kernel) (pa_cons (pe_lc (own := [("ring", 7)]) (g := (gName 7)) (tt := tYes) rfl sc_gr.nd (pi_list (pv 11)) (blkOk_by (N := ["ground", "made", "every", "word", "bad", "due", "seen", "ring", "size", "spin", "late", "told", "window", "sign"]) (sc := defScope st__law_ground_right) (by decide +kernel)) (fun _ _ _ _ _ => (pg_name (i := 7) sc_gr.nd rfl (.inl rfl))) (fun _ _ _ _ _ => pts_nil) (fun _ _ _ _ _ => (pe_cmpR op_eq (pe_callB (r := rLenQ K) call_len_seq (by rfl) B.len PySem.boot_len (pa_cons (pv 7) pa_nil)) (pcall CPr r1 (by rfl) (pa_cons (pe_ix (r := rIxL K) ix_list (pv 7) pe_int (fun _ _ => rfl)) pa_nil)) (nomark _)))) pa_nil))))))) pss_never pss_nil) (pss_cons (ps_expr (pe_bm PySem.F.plainAttrs_list PySem.F.slot_list_append PySem.F.type_list_append mt_append (pe_ix (r := rIxL K) ix_list (pv 11) pe_int (fun _ _ => rfl)) (pa_cons pe_str pa_nil))) (pss_cons (ps_expr (pe_bm PySem.F.plainAttrs_list PySem.F.slot_list_append PySem.F.type_list_append mt_append (pv 11) (pa_cons pe_str pa_nil))) (pss_cons (ps_for PassesOwn.never rfl (pi_list (pe_op op_cat (pe_slice sl_list (pv 2) po_none (po_some pe_int)) (pe_slice sl_list (pv 2) (po_some (pe_un un_neg pe_int)) po_none))) (pg_name (i := 12) sc_gr.nd rfl (.inr rfl)) (pss_cons (ps_set (i := 10) sc_gr.nd rfl (.inl rfl) (pcall CNx (hr.mono (by decide)) (by rfl) (pa_cons (pv 1) (pa_cons (pv 12) pa_nil)))) (pss_cons (ps_if (pt_not (pt_val (pcall CE r3 (by rfl) (pa_cons (pv 10) (pa_cons (pe_lc (own := [("sign", 13)]) (g := (gName 13)) (tt := tYes) rfl sc_gr.nd (pi_list (pe_callTy (call_listS rfl) (by rfl) B.list (by decide +kernel) (pa_cons (pe_ix (r := rIxT K) ix_tup (pv 0) pe_int (fun _ _ => rfl)) pa_nil))) (blkOk_by (N := ["ground", "made", "every", "word", "bad", "due", "seen", "ring", "size", "spin", "late", "told", "window", "sign"]) (sc := defScope st__law_ground_right) (by decide +kernel)) (fun _ _ _ _ _ => (pg_name (i := 13) sc_gr.nd rfl (.inl rfl))) (fun _ _ _ _ _ => pts_nil) (fun _ _ _ _ _ => (pe_op op_add_str (pe_slice sl_str (pv 12) (po_some pe_int) po_none) (pv 13)))) pa_nil))))) pss_never pss_nil) (pss_cons (ps_if (PW.pt (pw_and (pt_cmpR (r := rIn K false) op_in_seq (pv 12) (pv 4) rfl) (pw_and1 (pt_cmpR op_ne (pe_callB call_len_seq (by rfl) B.len PySem.boot_len (pa_cons (pe_lc (own := [("word", 3)]) (g := (gName 3)) rfl sc_gr.nd (pi_list (pv 10)) (blkOk_by (N := ["ground", "made", "every", "word", "bad", "due", "seen", "ring", "size", "spin", "late", "told", "window", "sign"]) (sc := defScope st__law_ground_right) (by decide +kernel)) (fun _ _ _ _ _ => (pg_name (i := 3) sc_gr.nd rfl (.inl rfl))) (fun _ _ _ _ _ => (pts_one (pt_cmpR (r := rIn K false) op_in_seq (pv 3) (pv 4) rfl))) (fun _ _ _ _ _ => (pv 3))) pa_nil)) pe_int (nomark _))))) pss_never pss_nil) (pss_one (ps_expr (pe_bm PySem.F.plainAttrs_list PySem.F.slot_list_append PySem.F.type_list_append mt_append (pv 10) (pa_cons pe_str pa_nil)))))))) (pss_one (ps_ret (pcall CE r3 (by rfl) (pa_cons (pcall CLr r7 (by rfl) (pa_cons (pv 1) pa_nil)) (pa_cons (pv 5) pa_nil))))))))))))), ?_⟩
    have e16 : sizeLine = 16777216 := by decide
    have g2 := G.gap
    have gm := G.max
    have l2 := G.two
    have l26 := G.few
    refine ⟨_, rfl, t, u, g, rfl, ht, G, fun x H1 hx sm1 ga1 => ?_⟩
    have ht1 := sm1 _ _ ht
    refine ⟨_, rfl, t, _, 0, .str (S u), rfl, rfl, .inl (.inl ht1), atI_nat (j := 0) rfl, _, rfl, t, _, 1, .int (g : Int), rfl, rfl, .inl (.inl ht1), atI_nat (j := 1) rfl, _, _, rfl, rfl, .inl ⟨by decide, by decide⟩, _, _, rfl, rfl, ?_⟩
    refine ⟨u, 2 * g - 2, congrArg (fun i => [V.str (S u), V.int i]) (show (2 * (g : Int) - 2) = ((2 * g - 2 : Nat) : Int) by omega), by omega, l26, by omega, h5, fun L H2 hL sm2 hLs => ?_⟩
    have hwl : (wl u (2 * g - 2)).length ≤ 5000 := by rw [wl_eq, words_len]; exact h5
    -- bad
    refine ⟨_, _, rfl, _, rfl, L, rfl, ⟨_, .inl (.inl hLs)⟩, fun BD hB => ?_⟩
    refine lc_list (K := K) (a := L) (xs := strsV (wl u (2 * g - 2))) (fun j H3 => Same H2 H3 ∧ H3 BD = some (.lst (strsV (((wl u (2 * g - 2)).take j).filter fun v => decide (lp v < g)))))
      ⟨same_upd hB, upd_same⟩ (fun j H3 _ z => .inl (.inl (z.1 _ _ hLs))) ?_ ?_
    · rintro j y H3 hj ⟨s3, hBD⟩
      obtain ⟨v, hv, rfl⟩ := strs_at hj
      obtain ⟨hvl, hvc⟩ := wl_mem.mp (List.mem_of_getElem? hv)
      refine ⟨rfl, _, rfl, _, rfl, t, _, 1, .int (g : Int), rfl, rfl, .inl (.inl (s3 _ _ (sm2 _ _ ht1))), atI_nat (j := 1) rfl, v, g, rfl, (fun z => by rw [z] at hvl; simp at hvl; omega), by omega, by omega, by omega, fun H4 s4 => ⟨_, rfl, ?_⟩⟩
      have lf := List.length_filter_le (fun v => decide (lp v < g)) ((wl u (2 * g - 2)).take j)
      rw [List.length_take] at lf
      by_cases hb : lp v < g
      · rw [decide_eq_true hb]
        refine iteT ⟨_, rfl, _, s4 _ _ hBD, by rw [strs_len]; omega, fun b o e => ?_, ?_⟩
        · rw [upd_ne (ne_of_none e hB)]
          exact s4 _ _ (s3 b o e)
        · rw [upd_same, filter_take hv, if_pos (decide_eq_true hb), strs_app]
          rfl
      · rw [decide_eq_false hb]
        refine iteF ⟨s3.trans s4, ?_⟩
        rw [s4 _ _ hBD, filter_take hv, if_neg (by simpa using hb), List.append_nil]
    · rintro H3 ⟨s3, hBD⟩
      rw [strs_len, List.take_length] at hBD
      have hBD : H3 BD = some (.lst (strsV (bad u g))) := hBD
      -- due, seen
      refine ⟨Nat.zero_le _, fun DU hDU SN hSN => ?_⟩
      have nSD : SN ≠ DU := fun z => by
        rw [z, upd_same] at hSN
        cases hSN
      have hSN3 : H3 SN = none := by
        rw [upd_ne nSD] at hSN
        exact hSN
      refine ⟨by show 3 ≤ sizeLine; decide, fun TP hTP => ⟨TP, _, rfl, .inl (.inl upd_same), rfl, _, _, rfl, _, _, rfl, _, _, rfl, rfl, ?_⟩⟩
      have sA := (same_upd (o := .lst []) hDU).trans ((same_upd (o := .dK []) hSN).trans (same_upd (o := .tup [V.ref BD, V.ref DU, V.ref SN]) hTP))
      have nTS : TP ≠ SN := fun z => by
        rw [z, upd_same] at hTP
        cases hTP
      have nTD : TP ≠ DU := fun z => by
        rw [z, upd_ne nSD.symm, upd_same] at hTP
        cases hTP
      have eDU : (upd (upd (upd H3 DU (.lst [])) SN (.dK [])) TP (.tup [V.ref BD, V.ref DU, V.ref SN])) DU = some (.lst []) := by rw [upd_ne nTD.symm, upd_ne nSD.symm, upd_same]
      have eSN : (upd (upd (upd H3 DU (.lst [])) SN (.dK [])) TP (.tup [V.ref BD, V.ref DU, V.ref SN])) SN = some (.dK []) := by rw [upd_ne nTS.symm, upd_same]
      revert sA eDU eSN
      generalize upd (upd (upd H3 DU (.lst [])) SN (.dK [])) TP (.tup [V.ref BD, V.ref DU, V.ref SN]) = H4
      intro sA eDU eSN
      refine ⟨_, rfl, BD, rfl, ⟨_, .inl (.inl (sA _ _ hBD))⟩, ?_⟩
      have hbl : (bad u g).length ≤ 5000 := Nat.le_trans (List.length_filter_le _ _) hwl
      refine for_list (K := K) (a := BD) (xs := strsV (bad u g)) (fun i σ H5 => ∃ (y3 y7 y8 y9 : Option V) (ps : List (Addr × List (List Nat))) (kvs : List (Key × V)),
          σ = [some (.ref t), some (.ref x), some (.ref L), y3, some (.ref BD), some (.ref DU), some (.ref SN), y7, y8, y9, none, none, none, none] ∧ Same H3 H5 ∧ H5 DU = some (.lst (refsV ps)) ∧ LL H3 H5 DU ps ∧
          ps.map (·.2) = (((bad u g).take i).filter least).map ringL ∧ H5 SN = some (.dK kvs) ∧ Seen kvs ((bad u g).take i) ∧ kvs.length ≤ i * 200)
        ⟨none, none, none, none, [], [], rfl, sA, eDU, (fun e he => by cases he), rfl, eSN, Seen.nil, Nat.zero_le _⟩ (fun i σ H5 _ ⟨_, _, _, _, _, _, _, s5, _⟩ => .inl (.inl (s5 _ _ hBD))) ?_ ?_
      · rintro i y σ H5 hj ⟨y3, y7, y8, y9, ps, kvs, rfl, s5, e1, ll, eps, e2, sn, hkl⟩
        obtain ⟨v, hv, rfl⟩ := strs_at hj
        have vm : v ∈ bad u g := List.mem_of_getElem? hv
        have vh := bad_half g2 vm
        obtain ⟨⟨hvl, hvc⟩, hvp⟩ := bad_mem.mp vm
        have p0 := lp_pos vh.1
        have p2 := vh.2
        have hil : i < (bad u g).length := (List.getElem?_eq_some_iff.mp hv).1
        have hs : (S v).length ≤ sizeLine := by rw [S_len]; omega
        refine ⟨_, rfl, by show 1 ≤ sizeLine; decide, fun R hR => ⟨_, rfl, v, rfl, vh.1, by omega, fun H6 s6 => ⟨_, _, rfl, ?_⟩⟩⟩
        have eR6 : H6 R = some (.lst (strsV (rs v 1))) := by rw [rs_one vh.1]; exact s6 _ _ upd_same
        have s56 : Same H5 H6 := (same_upd hR).trans s6
        refine ⟨_, rfl, _, _, rfl, rfl, (lp v : Int) - 1, rfl, by omega, by omega, ?_⟩
        refine for_range (lo := 0) (n := ((lp v : Int) - 1).toNat) (fun k σ H7 => ∃ y9 : Option V, σ = [some (.ref t), some (.ref x), some (.ref L), some (.str (S v)), some (.ref BD), some (.ref DU), some (.ref SN), some (.ref R), some (.int (lp v : Int)), y9, none, none, none, none] ∧ Kept H6 H7 R ∧ H7 R = some (.lst (strsV (rs v (k + 1)))))
          ⟨y9, rfl, fun b o _ e => e, eR6⟩ ?_ ?_
        · rintro k σ H7 hk ⟨y9', rfl, k7, eR7⟩
          have hSc : (S (cy v (lp v) k v.length)).length ≤ sizeLine := by rw [S_len, cy_len]; omega
          have ed : cutS (S (cy v (lp v) k v.length)) (some 1) none = S ((cy v (lp v) k v.length).drop 1) := cut_drop _ 1
          refine ⟨_, rfl, .inl ⟨rfl, _, .inl (.inl eR7)⟩, ?_⟩
          refine ⟨_, rfl, _, rfl, R, _, -1, _, rfl, rfl, .inl (.inl eR7), atI_m1 (rs_last v k), 1, rfl, S (cy v (lp v) k v.length), rfl, hSc, ?_⟩
          have hidx : v.length - lp v < (cy v (lp v) k v.length).length := by rw [cy_len]; omega
          have hat : atI (S (cy v (lp v) k v.length)).cps.toList (((S v).length : Int) - (lp v : Int)) = some ((cy v (lp v) k v.length).getD (v.length - lp v) 0) := by
            rw [S_len, show ((v.length : Int) - (lp v : Int)) = ((v.length - lp v : Nat) : Int) by omega]
            exact atI_nat (S_at hidx)
          refine ⟨_, rfl, _, rfl, R, _, -1, _, rfl, rfl, .inl (.inl eR7), atI_m1 (rs_last v k), _, rfl, S v, rfl, hs, _, rfl, _, _, rfl, rfl, S (cy v (lp v) k v.length), _, _, rfl, rfl, hSc, hat, ?_⟩
          refine ⟨_, S [(cy v (lp v) k v.length).getD (v.length - lp v) 0], rfl, rfl, ?_, R, _, _, rfl, rfl, eR7, by rw [strs_len, rs_len]; omega, some (.int (0 + (k : Int))), rfl, fun b o hb e => ?_, ?_⟩
          · rw [ed, S_len, S_len, List.length_drop, cy_len]
            show v.length - 1 + 1 ≤ _
            omega
          · rw [upd_ne hb]
            exact k7 b o hb e
          · rw [upd_same, ed, S_app, ← cy_next p0 (by omega), rs_succ v (k + 1), strs_app]
            rfl
        · rintro σ H7 ⟨y9', rfl, k7, eR7⟩
          have eR7 : H7 R = some (.lst (strsV (ringL v))) := by
            rw [eR7, show ((lp v : Int) - 1).toNat + 1 = lp v by omega]
            rfl
          have s57 : Same H5 H7 := fun b o e => k7 b o (ne_of_none e hR) (s56 b o e)
          have e27 := s57 _ _ e2
          have e17 := s57 _ _ e1
          have hps : ps.length ≤ i := by
            have := congrArg List.length eps
            rw [List.length_map, List.length_map] at this
            have l1 := List.length_filter_le least ((bad u g).take i)
            rw [List.length_take] at l1
            omega
          refine ⟨_, rfl, _, rfl, SN, _, rfl, DGet.k (k := Sum.inr (S v)) e27, _, rfl, ?_⟩
          cases ev : valV kvs (Sum.inr (S v) : Key) with
          | some z =>
            refine iteF ?_
            have hs1 := (sn v).mp (by rw [ev]; rfl)
            have hl := (seen_step G.up g2 hv).mp hs1
            exact ⟨_, _, _, _, ps, kvs, rfl, s5.trans s57, e17, ll.same s57, by rw [eps, filter_take hv, if_neg (by rw [hl]; exact Bool.false_ne_true), List.append_nil], e27, sn.skip g2 hv hs1, by omega⟩
          | none =>
            refine iteT ?_
            have hl : least v = true := by
              cases z : least v with
              | true => rfl
              | false =>
                have := (sn v).mpr ((seen_step G.up g2 hv).mpr z)
                rw [ev] at this
                cases this
            refine ⟨_, rfl, .inl ⟨rfl, _, .inl (.inl e17)⟩, _, rfl, DU, _, _, rfl, rfl, e17, by rw [refs_len]; omega, ?_⟩
            have nRD : R ≠ DU := (ne_of_none e1 hR).symm
            have nRS : R ≠ SN := (ne_of_none e2 hR).symm
            have e28 : (upd H7 DU (.lst (refsV ps ++ [V.ref R]))) SN = some (.dK kvs) := by rw [upd_ne nSD]; exact e27
            have eR8 : (upd H7 DU (.lst (refsV ps ++ [V.ref R]))) R = some (.lst (strsV (ringL v))) := by rw [upd_ne nRD]; exact eR7
            have eD8 := upd_same (H := H7) (a := DU) (o := .lst (refsV ps ++ [V.ref R]))
            have k8 : Kept H7 (upd H7 DU (.lst (refsV ps ++ [V.ref R]))) DU := Kept.upd
            revert e28 eR8 eD8 k8
            generalize upd H7 DU (.lst (refsV ps ++ [V.ref R])) = H8
            intro e28 eR8 eD8 k8
            refine ⟨_, rfl, .inr (.inr (.inl ⟨rfl, .inl ⟨kvs, e28⟩⟩)), _, rfl, R, rfl, ⟨_, .inl (.inl eR8)⟩, fun CD hCD => ?_⟩
            have rl : (ringL v).length = lp v := rs_len v (lp v)
            refine lc_list (K := K) (a := R) (xs := strsV (ringL v)) (fun j H9 => Same H8 H9 ∧ ∃ qs : List Addr, H9 CD = some (.lst (qs.map V.ref)) ∧ qs.length = j ∧ ∀ (m : Nat) (q1 : Addr) (y : List Nat), qs[m]? = some q1 → (ringL v)[m]? = some y → H9 q1 = some (.tup [.str (S y), .bl true]))
              ⟨same_upd hCD, [], upd_same, rfl, fun m q1 y hm => by cases hm⟩ (fun j H9 _ z => .inl (.inl (z.1 _ _ eR8))) ?_ ?_
            · rintro j y H9 hj9 ⟨s9, qs, eC9, hql, hqs⟩
              obtain ⟨z, hz, rfl⟩ := strs_at hj9
              have hjl : j < lp v := by rw [← rl]; exact (List.getElem?_eq_some_iff.mp hz).1
              refine ⟨rfl, _, rfl, by show 2 ≤ sizeLine; decide, fun T hT => ?_⟩
              have nTC : CD ≠ T := ne_of_none eC9 hT
              refine ⟨qs.map V.ref, by rw [upd_ne nTC]; exact eC9, by rw [List.length_map]; omega, fun b o e => ?_, qs ++ [T], ?_, by rw [List.length_append, hql]; rfl, fun m q1 y hm hy => ?_⟩
              · rw [upd_ne (ne_of_none e hCD), upd_ne (ne_of_none (s9 _ _ e) hT)]
                exact s9 b o e
              · rw [upd_same, List.map_append]
                rfl
              · by_cases hm2 : m < qs.length
                · rw [List.getElem?_append_left hm2] at hm
                  have e9 := hqs m q1 y hm hy
                  rw [upd_ne (ne_of e9 eC9 (by intro z; cases z)), upd_ne (ne_of_none e9 hT)]
                  exact e9
                · rw [List.getElem?_append_right (by omega)] at hm
                  have hm0 : m - qs.length = 0 := by
                    have := (List.getElem?_eq_some_iff.mp hm).1
                    simp at this
                    omega
                  rw [hm0] at hm
                  have eT : T = q1 := Option.some.inj hm
                  subst eT
                  have em : m = j := by omega
                  subst em
                  rw [hz] at hy
                  cases hy
                  rw [upd_ne nTC.symm, upd_same]
            · rintro H9 ⟨s9, qs, eC9, hql, hqs⟩
              rw [strs_len] at hql
              have lt : (trues (ringL v)).length = qs.length := by unfold trues; rw [List.length_map, hql]
              refine ⟨CD, qs, trues (ringL v), rfl, .inl (.inl eC9), paired_at lt.symm fun m q1 kv hm hkv => ?_, fun NP hNP => ?_⟩
              · unfold trues at hkv
                rw [List.getElem?_map] at hkv
                cases hy : (ringL v)[m]? with
                | none => rw [hy] at hkv; cases hkv
                | some y =>
                  rw [hy] at hkv
                  have : (Sum.inr (S y), V.bl true) = kv := Option.some.inj hkv
                  subst this
                  exact .inl (.inl (hqs m q1 y hm hy))
              · have e29 := s9 _ _ e28
                have nSN : SN ≠ NP := ne_of_none e29 hNP
                have lm : (mergeK [] (trues (ringL v))).length ≤ 100 := by
                  have := length_mergeK (trues (ringL v)) []
                  rw [lt, hql, rl] at this
                  simp at this
                  omega
                have lk := length_mergeK (mergeK [] (trues (ringL v))) kvs
                refine ⟨SN, NP, kvs, mergeK [] (trues (ringL v)), rfl, rfl, nSN, by rw [upd_ne nSN]; exact e29, upd_same, by omega, ?_⟩
                have sB : ∀ b o, H8 b = some o → b ≠ SN → (upd (upd H9 NP (.dK (mergeK [] (trues (ringL v))))) SN (.dK (mergeK kvs (mergeK [] (trues (ringL v)))))) b = some o := fun b o e hb => by
                  rw [upd_ne hb, upd_ne (ne_of_none (s9 _ _ e) hNP)]
                  exact s9 _ _ e
                have sC : ∀ b o, H5 b = some o → b ≠ DU → b ≠ SN → (upd (upd H9 NP (.dK (mergeK [] (trues (ringL v))))) SN (.dK (mergeK kvs (mergeK [] (trues (ringL v)))))) b = some o := fun b o e h1 h2 => sB b o (k8 b o h1 (s57 _ _ e)) h2
                refine ⟨_, _, _, _, ps ++ [(R, ringL v)], _, rfl, fun b o e => sC b o (s5 _ _ e) (ne_of_none e hDU) (ne_of_none e hSN3), ?_, ?_, ?_, upd_same, sn.add hv, by omega⟩
                · rw [sB _ _ eD8 nSD.symm]
                  unfold refsV
                  rw [List.map_append]
                  rfl
                · intro e he
                  rcases List.mem_append.mp he with z | z
                  · obtain ⟨a1, a2, a3⟩ := ll e z
                    exact ⟨a1, a2, sC _ _ a3 a1 (ne_of a3 e2 (by intro z; cases z))⟩
                  · rw [List.mem_singleton.mp z]
                    exact ⟨nRD, s5.free hR, sB _ _ eR8 nRS⟩
                · rw [List.map_append, eps, filter_take hv, if_pos hl, List.map_append]
                  rfl
      · rintro σ H5 ⟨y3, y7, y8, y9, ps, kvs, rfl, s5, e1, ll, eps, e2, sn, hkl⟩
        rw [strs_len, List.take_length] at eps
        have eps : ps.map (·.2) = rings u g := eps
        have s15 : Same H1 H5 := sm2.trans (s3.trans s5)
        have ga5 := ga1.same s15
        refine ⟨_, rfl, x, u, g, rfl, ga5, G, h5, fun TL H6 qs hTL s6 eTL lq eqs => ?_⟩
        have hlen : qs.length = ps.length := by
          have := congrArg List.length (eqs.trans eps.symm)
          rw [List.length_map, List.length_map] at this
          exact this
        have hpl : ps.length ≤ 5000 := by
          have := congrArg List.length eps
          unfold rings at this
          rw [List.length_map, List.length_map] at this
          have l1 := List.length_filter_le least (bad u g)
          omega
        have hq100 : ∀ e ∈ qs, e.2.length ≤ 100000 := fun e he => by
          obtain ⟨v, hv, ev⟩ := ring_of eqs he
          have := (bad_mem.mp hv).2
          rw [ev]
          show (rs v (lp v)).length ≤ 100000
          rw [rs_len]
          omega
        refine ⟨_, rfl, _, rfl, .ref TL, .ref DU, rfl, Eqv.rings eTL (s6 _ _ e1) (fun e he => (lq e he).2.2) (fun e he => s6 _ _ (ll e he).2.2) (eqs.trans eps.symm) (by omega) hq100, fun H7 s7 => ⟨_, rfl, iteF ?_⟩⟩
        -- all rings are as long as the period
        have eTL7 := s7 _ _ eTL
        refine ⟨_, rfl, TL, rfl, ⟨_, .inl (.inl eTL7)⟩, fun AD hAD => ?_⟩
        refine lc_list (K := K) (a := TL) (xs := refsV qs) (fun j H8 => Same H7 H8 ∧ H8 AD = some (.lst ((List.replicate j true).map V.bl))) ⟨same_upd hAD, upd_same⟩ (fun j H8 _ z => .inl (.inl (z.1 _ _ eTL7))) ?_ ?_
        · rintro j y H8 hj ⟨s8, eAD⟩
          obtain ⟨e, he, rfl⟩ := refs_at hj
          have hem := List.mem_of_getElem? he
          obtain ⟨v, hv, ev⟩ := ring_of eqs hem
          have vh := bad_half g2 hv
          obtain ⟨⟨hvl, _⟩, hvp⟩ := bad_mem.mp hv
          obtain ⟨r, er⟩ := ring_head vh.1
          have eE := s8 _ _ (s7 _ _ (lq e hem).2.2)
          rw [ev] at eE
          have hat : atI (strsV (ringL v)) 0 = some (.str (S v)) := by
            rw [er]
            exact atI_nat (j := 0) rfl
          have hjl : j < qs.length := (List.getElem?_eq_some_iff.mp he).1
          refine ⟨rfl, _, rfl, e.1, _, rfl, .inl (.inl (.inl eE)), _, rfl, e.1, _, 0, _, rfl, rfl, .inl (.inl eE), hat, v, rfl, vh.1, by omega, fun H9 s9 => ⟨rfl, ?_⟩⟩
          refine ⟨_, s9 _ _ eAD, by rw [List.length_map, List.length_replicate]; omega, fun b o e2 => ?_, ?_⟩
          · rw [upd_ne (ne_of_none e2 hAD)]
            exact s9 _ _ (s8 b o e2)
          · rw [upd_same, List.replicate_succ', List.map_append]
            have : decide (V.int (((strsV (ringL v)).length : Nat) : Int) = V.int (lp v : Int)) = true := by
              rw [strs_len]
              show decide (V.int (((rs v (lp v)).length : Nat) : Int) = V.int (lp v : Int)) = true
              rw [rs_len]
              exact decide_eq_true rfl
            rw [this]
            rfl
        · rintro H8 ⟨s8, eAD⟩
          refine ⟨AD, _, rfl, .inl (.inl eAD), _, rfl, ?_⟩
          rw [show (List.replicate (refsV qs).length true).all id = true by simp]
          refine iteF ?_
          -- told is changed
          have s58 : Same H5 H8 := s6.trans (s7.trans s8)
          have eTL8 := s8 _ _ eTL7
          obtain ⟨w0, r0, ew0⟩ := rings_ne (g := g) G.up g2 (fun z => by rw [z] at l2; exact absurd l2 (by decide))
          obtain ⟨q0, qr, eq0⟩ : ∃ q0 qr, qs = q0 :: qr := by
            cases qs with
            | nil => rw [ew0] at eqs; cases eqs
            | cons a b => exact ⟨a, b, rfl⟩
          have hq0m : q0 ∈ qs := by rw [eq0]; exact List.mem_cons_self
          obtain ⟨n0, f0, eq08⟩ := lq q0 hq0m
          have eq08 := s8 _ _ (s7 _ _ eq08)
          have hb0 := hq100 q0 hq0m
          refine ⟨_, rfl, TL, _, 0, .ref q0.1, rfl, rfl, .inl (.inl eTL8), by rw [eq0]; exact atI_nat (j := 0) rfl, .inl ⟨rfl, _, .inl (.inl eq08)⟩, q0.1, _, _, rfl, rfl, eq08, by rw [strs_len]; omega, ?_⟩
          have sQ : Same H5 (upd H8 q0.1 (.lst (strsV q0.2 ++ [V.str (Str.ofString "more")]))) := fun b o e => by
            rw [upd_ne (ne_of_none e f0)]
            exact s58 b o e
          have eTQ : (upd H8 q0.1 (.lst (strsV q0.2 ++ [V.str (Str.ofString "more")]))) TL = some (.lst (refsV qs)) := by
            rw [upd_ne n0.symm]
            exact eTL8
          refine ⟨_, rfl, .inl ⟨rfl, _, .inl (.inl eTQ)⟩, TL, _, _, rfl, rfl, eTQ, by rw [refs_len]; omega, ?_⟩
          have sT : Same H5 (upd (upd H8 q0.1 (.lst (strsV q0.2 ++ [V.str (Str.ofString "more")]))) TL (.lst (refsV qs ++ [V.str (Str.ofString "more")]))) := fun b o e => by
            rw [upd_ne (ne_of_none e hTL)]
            exact sQ b o e
          revert sT
          generalize upd (upd H8 q0.1 (.lst (strsV q0.2 ++ [V.str (Str.ofString "more")]))) TL (.lst (refsV qs ++ [V.str (Str.ofString "more")])) = H9
          intro sT
          have hL9 : H9 L = some (.lst (strsV (wl u (2 * g - 2)))) := sT _ _ (s5 _ _ (s3 _ _ hLs))
          refine ⟨_, rfl, _, rfl, L, _, rfl, .inl (.inl hL9), fun p1 hp1 => ?_⟩
          have z1 := same_upd (o := .lst (cutV (strsV (wl u (2 * g - 2))) none (some 40))) hp1
          refine ⟨_, rfl, 40, rfl, _, rfl, L, _, rfl, .inl (.inl (z1 _ _ hL9)), fun p2 hp2 => ?_⟩
          have z2 := same_upd (o := .lst (cutV (strsV (wl u (2 * g - 2))) (some (-40)) none)) hp2
          refine ⟨p1, p2, _, _, rfl, rfl, z2 _ _ upd_same, upd_same, ?_, fun p3 hp3 => ?_⟩
          · have l1 := cutV_length (strsV (wl u (2 * g - 2))) none (some 40)
            have l2 := cutV_length (strsV (wl u (2 * g - 2))) (some (-40)) none
            rw [strs_len] at l1 l2
            omega
          have hmem : ∀ y ∈ cutV (strsV (wl u (2 * g - 2))) none (some 40) ++ cutV (strsV (wl u (2 * g - 2))) (some (-40)) none, ∃ v ∈ wl u (2 * g - 2), y = V.str (S v) := fun y hy => by
            have hy2 : y ∈ strsV (wl u (2 * g - 2)) := by
              rcases List.mem_append.mp hy with z | z
              · exact cut_mem z
              · exact cut_mem z
            obtain ⟨v, hv, ev⟩ := List.mem_map.mp hy2
            exact ⟨v, hv, ev.symm⟩
          have zl : (cutV (strsV (wl u (2 * g - 2))) none (some 40) ++ cutV (strsV (wl u (2 * g - 2))) (some (-40)) none).length ≤ 10000 := by
            have l1 := cutV_length (strsV (wl u (2 * g - 2))) none (some 40)
            have l2 := cutV_length (strsV (wl u (2 * g - 2))) (some (-40)) none
            rw [strs_len] at l1 l2
            rw [List.length_append]
            omega
          have s3' := sT.trans (z1.trans (z2.trans (same_upd (o := .lst (cutV (strsV (wl u (2 * g - 2))) none (some 40) ++ cutV (strsV (wl u (2 * g - 2))) (some (-40)) none)) hp3)))
          have e3' := upd_same (H := upd (upd H9 p1 (.lst (cutV (strsV (wl u (2 * g - 2))) none (some 40)))) p2 (.lst (cutV (strsV (wl u (2 * g - 2))) (some (-40)) none))) (a := p3) (o := .lst (cutV (strsV (wl u (2 * g - 2))) none (some 40) ++ cutV (strsV (wl u (2 * g - 2))) (some (-40)) none))
          revert s3' e3'
          generalize upd (upd (upd H9 p1 (.lst (cutV (strsV (wl u (2 * g - 2))) none (some 40)))) p2 (.lst (cutV (strsV (wl u (2 * g - 2))) (some (-40)) none))) p3 (.lst (cutV (strsV (wl u (2 * g - 2))) none (some 40) ++ cutV (strsV (wl u (2 * g - 2))) (some (-40)) none)) = H10
          intro s10 e10
          generalize cutV (strsV (wl u (2 * g - 2))) none (some 40) ++ cutV (strsV (wl u (2 * g - 2))) (some (-40)) none = zs at hmem zl e10
          refine ⟨p3, rfl, ⟨_, .inl (.inl e10)⟩, ?_⟩
          refine for_list (K := K) (a := p3) (xs := zs) (fun j σ H11 => ∃ (y3 y7 y8 y9 y10 y12 : Option V), σ = [some (.ref t), some (.ref x), some (.ref L), y3, some (.ref BD), some (.ref DU), some (.ref SN), y7, y8, y9, y10, some (.ref TL), y12, none] ∧ Same H10 H11)
            ⟨y3, y7, y8, y9, none, none, rfl, Same.refl _⟩ (fun j σ H11 _ ⟨_, _, _, _, _, _, _, z⟩ => .inl (.inl (z _ _ e10))) ?_ ?_
          · rintro j y σ H11 hj ⟨y3, y7, y8, y9, y10, y12, rfl, s11⟩
            obtain ⟨v, vm, rfl⟩ := hmem y (List.mem_of_getElem? hj)
            obtain ⟨hvl, hvc⟩ := wl_mem.mp vm
            have s5e : Same H5 H11 := s10.trans s11
            have hs : (S v).length ≤ sizeLine := by rw [S_len]; omega
            refine ⟨_, rfl, _, rfl, x, u, g, v, rfl, ga5.same s5e, G, vm, fun LT H12 hLT s12 eLT => ?_⟩
            have ht12 : H12 t = some (.tup [.str (S u), .int (g : Int)]) := s12 _ _ (s5e _ _ (s15 _ _ ht1))
            refine ⟨_, rfl, _, rfl, t, _, 0, .str (S u), rfl, rfl, .inl (.inl ht12), atI_nat (j := 0) rfl, u, rfl, by omega, fun LS hLS => ⟨LS, rfl, ⟨_, .inl (.inl upd_same)⟩, fun D2 hD2 => ?_⟩⟩
            have sL := same_upd (o := .lst (signsV u)) hLS
            have eLS := upd_same (H := H12) (a := LS) (o := .lst (signsV u))
            revert sL eLS hD2
            generalize upd H12 LS (.lst (signsV u)) = H13
            intro hD2 s13 eLS
            have ed : cutS (S v) (some 1) none = S (v.drop 1) := cut_drop v 1
            refine lc_list (K := K) (a := LS) (xs := signsV u) (fun m H14 => Same H13 H14 ∧ H14 D2 = some (.lst (strsV ((u.take m).map fun c => v.drop 1 ++ [c])))) ⟨same_upd hD2, upd_same⟩ (fun m H14 _ z => .inl (.inl (z.1 _ _ eLS))) ?_ ?_
            · rintro m y2 H14 hm ⟨t1, t2⟩
              obtain ⟨c, hc, rfl⟩ := sig_at hm
              have hml : m < u.length := (List.getElem?_eq_some_iff.mp hc).1
              refine ⟨rfl, _, rfl, 1, rfl, S v, rfl, hs, _, rfl, _, S [c], rfl, rfl, ?_, ?_⟩
              · rw [ed, S_len, S_len, List.length_drop]
                show v.length - 1 + 1 ≤ _
                omega
              · refine ⟨_, t2, ?_, fun b o e => ?_, ?_⟩
                · rw [strs_len, List.length_map, List.length_take]
                  omega
                · rw [upd_ne (ne_of_none e hD2)]
                  exact t1 b o e
                · rw [upd_same, ed, S_app, List.take_add_one, hc, List.map_append, strs_app]
                  rfl
            · rintro H14 ⟨s14, eD2⟩
              rw [sig_len, List.take_length] at eD2
              have eLT14 := s14 _ _ (s13 _ _ eLT)
              refine ⟨.ref LT, .ref D2, rfl, Eqv.list (.inl (.inl eLT14)) (.inl (.inl eD2)) (by rw [strs_len, List.length_map]; omega) (strs_flat _), fun H15 s15' => ⟨_, rfl, iteF ?_⟩⟩
              have s1e : Same H11 H15 := s12.trans (s13.trans (s14.trans s15'))
              have eLT15 := s15' _ _ eLT14
              have eBD15 : H15 BD = some (.lst (strsV (bad u g))) := s1e _ _ (s5e _ _ (s5 _ _ hBD))
              refine ⟨_, rfl, _, rfl, BD, _, rfl, .inl (.inl (.inl eBD15)), rfl, strs_flatV _, _, rfl, ?_⟩
              show if inV (.str (S v)) (strsV (bad u g)) = true then _ else _
              rw [inV_strs]
              cases hb : (bad u g).contains v with
              | false =>
                refine iteF ?_
                have s16 := Same.refl H15
                exact ⟨_, rfl, .inl ⟨rfl, _, .inl (.inl (s16 _ _ eLT15))⟩, LT, _, _, rfl, rfl, s16 _ _ eLT15, by rw [strs_len, List.length_map]; omega, y3, y7, y8, y9, some (.ref LT), some (.str (S v)), rfl, fun b o e => by
                rw [upd_ne (ne_of_none (s11 b o e) hLT)]
                exact s16 _ _ (s1e _ _ (s11 b o e))⟩
              | true =>
                refine iteT ?_
                have vb : v ∈ bad u g := List.contains_iff_mem.mp hb
                refine ⟨_, rfl, LT, rfl, ⟨_, .inl (.inl eLT15)⟩, fun D3 hD3 => ?_⟩
                refine lc_list (K := K) (a := LT) (xs := strsV (u.map fun c => v.drop 1 ++ [c])) (fun m H16 => Same H15 H16 ∧ H16 D3 = some (.lst (strsV (((u.map fun c => v.drop 1 ++ [c]).take m).filter fun z => (bad u g).contains z)))) ⟨same_upd hD3, upd_same⟩ (fun m H16 _ z => .inl (.inl (z.1 _ _ eLT15))) ?_ ?_
                · rintro m y2 H16 hm ⟨t1, t2⟩
                  obtain ⟨z, hz, rfl⟩ := strs_at hm
                  refine ⟨rfl, _, rfl, _, rfl, BD, _, rfl, .inl (.inl (.inl (t1 _ _ eBD15))), rfl, strs_flatV _, _, rfl, ?_⟩
                  show if inV (.str (S z)) (strsV (bad u g)) = true then _ else _
                  rw [inV_strs]
                  have lf := List.length_filter_le (fun z => (bad u g).contains z) ((u.map fun c => v.drop 1 ++ [c]).take m)
                  rw [List.length_take, List.length_map] at lf
                  cases hz2 : (bad u g).contains z with
                  | true =>
                    refine iteT ⟨_, rfl, _, t2, by rw [strs_len]; omega, fun b o e => ?_, ?_⟩
                    · rw [upd_ne (ne_of_none e hD3)]
                      exact t1 b o e
                    · rw [upd_same, filter_take hz, if_pos hz2, strs_app]
                      rfl
                  | false =>
                    refine iteF ⟨t1, ?_⟩
                    rw [t2, filter_take hz, if_neg (by rw [hz2]; exact Bool.false_ne_true), List.append_nil]
                · rintro H16 ⟨s16, eD3⟩
                  rw [strs_len, List.take_length] at eD3
                  have one := one_next (nodup_of G.up) g2 vb
                  refine ⟨D3, _, rfl, .inl (.inl (.inl eD3)), rfl, _, rfl, ?_⟩
                  rw [dec_int, strs_len, one]
                  refine iteF ?_
                  exact ⟨_, rfl, .inl ⟨rfl, _, .inl (.inl (s16 _ _ eLT15))⟩, LT, _, _, rfl, rfl, s16 _ _ eLT15, by rw [strs_len, List.length_map]; omega, y3, y7, y8, y9, some (.ref LT), some (.str (S v)), rfl, fun b o e => by
                rw [upd_ne (ne_of_none (s11 b o e) hLT)]
                exact s16 _ _ (s1e _ _ (s11 b o e))⟩
          · rintro σ H11 ⟨y3, y7, y8, y9, y10, y12, rfl, s11⟩
            have s5e : Same H5 H11 := s10.trans s11
            refine ⟨_, rfl, x, u, g, rfl, ga5.same s5e, G, h5, fun TL2 H12 qs2 hTL2 s12 eTL2 lq2 eqs2 => ?_⟩
            have hlen2 : qs2.length = ps.length := by
              have := congrArg List.length (eqs2.trans eps.symm)
              rw [List.length_map, List.length_map] at this
              exact this
            have hq2 : ∀ e ∈ qs2, e.2.length ≤ 100000 := fun e he => by
              obtain ⟨v, hv, ev⟩ := ring_of eqs2 he
              have := (bad_mem.mp hv).2
              rw [ev]
              show (rs v (lp v)).length ≤ 100000
              rw [rs_len]
              omega
            refine ⟨_, rfl, .ref TL2, .ref DU, rfl, Eqv.rings eTL2 (s12 _ _ (s5e _ _ e1)) (fun e he => (lq2 e he).2.2) (fun e he => s12 _ _ (s5e _ _ (ll e he).2.2)) (eqs2.trans eps.symm) (by omega) hq2, fun H13 s13 => ?_⟩
            exact q H13 (sm1.trans (s15.trans (s5e.trans (s12.trans s13))))
end
end K4
set_option Elab.async false
set_option linter.all false
set_option maxRecDepth 100000
set_option maxHeartbeats 8000000
namespace K4
open PySem PySem.Spec PyProof.Rows L2 K4M K4S
/-- behind the turn of one dice the others stand as they stood -/
theorem dices_after {ds : List Addr} {L d : Addr} {i : Nat} {H2 H9 : Hp} (hdi : ds[i]? = some d) (hnd : ds.Nodup) (neL : L ≠ d) (hL2 : H2 L = some (.lst (ds.map V.ref))) (hd2 : ∀ j d, i ≤ j → ds[j]? = some d → Dice H2 d 0) (kp : Kept H2 H9 d) :
    H9 L = some (.lst (ds.map V.ref)) ∧ ∀ j d', i + 1 ≤ j → ds[j]? = some d' → Dice H9 d' 0 := by
  refine ⟨kp _ _ neL hL2, fun j d' hj hjd => ?_⟩
  obtain ⟨b1, b2, b3, b4, e1, r⟩ := hd2 j d' (by omega) hjd
  refine ⟨b1, b2, b3, b4, kp _ _ (fun z => ?_) e1, r⟩
  have hj2 : j < ds.length := (List.getElem?_eq_some_iff.mp hjd).1
  have hi2 : i < ds.length := (List.getElem?_eq_some_iff.mp hdi).1
  have := (List.getElem?_inj hi2 hnd).mp (hdi.trans (hjd.trans (congrArg some z)).symm)
  omega
theorem dices_ne {ds : List Addr} {L : Addr} {H1 : Hp} (hLs : H1 L = some (.lst (ds.map V.ref))) {d : Addr} (hd : d ∈ ds) {n : Nat} (h : Dice H1 d n) : L ≠ d := fun z => by
  obtain ⟨b1, b2, b3, b4, e, _⟩ := h
  rw [← z, hLs] at e
  cases ds with
  | nil => cases hd
  | cons _ _ => simp at e
theorem good_gd {u : List Nat} {g : Nat} (hl : Low u) (hp : u.Pairwise (· < ·)) (h : Good 80 (u.length, g)) : Gd u g ∧ g ≤ 100 ∧ u.length ^ (2 * g - 2) ≤ 5000 := by
  have all : ∀ g ∈ tabG, 2 ≤ g.1 ∧ g.1 ≤ 26 ∧ 2 ≤ g.2 ∧ g.2 ≤ 100 ∧ g.1 ^ (2 * g.2 - 2) ≤ 5000 := by decide
  obtain ⟨a1, a2, a3, a4, a5⟩ := all _ h.mem
  exact ⟨⟨hl, hp, a1, a2, a3, Nat.le_trans a4 (by decide)⟩, a4, a5⟩
theorem ab3 : rings [97, 98] 3 = [[[97, 97, 97, 97]], [[97, 98, 97, 98], [98, 97, 98, 97]], [[98, 98, 98, 98]]] := by decide +kernel
theorem S_ab : Str.ofString "ab" = S [97, 98] := by decide +kernel
theorem S_aaaa : Str.ofString "aaaa" = S [97, 97, 97, 97] := by decide +kernel
theorem S_abab : Str.ofString "abab" = S [97, 98, 97, 98] := by decide +kernel
theorem S_baba : Str.ofString "baba" = S [98, 97, 98, 97] := by decide +kernel
theorem S_bbbb : Str.ofString "bbbb" = S [98, 98, 98, 98] := by decide +kernel
section
variable {P : Program} {w : World} {K : PySem.W.Frag} {mg : Str → Option Value} {base : Heap}
theorem sc_law : FnScope ["script", "dice"] ["script"] (defScope st_law) := ⟨rfl, rfl, rfl, by decide +kernel, rfl, by decide +kernel, by decide +kernel⟩
def spLaw (K : PySem.W.Frag) : Sp := fun vs H Q _ => ∃ (a : Addr) (ns : List Int), vs = [.ref a] ∧ SqL K H a (ns.map V.int) ∧ ns.length ≤ 63 ∧ ∀ H', Q (.bl true) H'
theorem ok_law (B : Bi mg) {C : Addr} (D : Df K mg "law" st_law ["script"]) (CDs : Cal P w K mg base 2 "_law_dices" ["script", "few"] (spDices K)) (CDr : Cal P w K mg base 2 "_law_draw" ["dice", "many"] spDraw)
    (CG : Cal P w K mg base 4 "_law_ground" ["dice", "most"] spGround) (CMg : Cal P w K mg base 4 "_law_many_ground" ["dice"] spMg) (CGr : Cal P w K mg base 8 "_law_ground_right" ["ground"] spGr)
    (CM : Cal P w K mg base 5 "_law_made" ["ground"] (spMd C)) (CLr : Cal P w K mg base 7 "lone_rings" ["ground"] (spLr C)) (CE : Cal P w K mg base 3 "_law_exact" ["mine", "theirs"] (spExact K 2)) :
    FnOk P w K mg base CX0 9 D.f D.fd ["script"] (spLaw K) := by
  refine D.F.ok sc_law (fun vs H Q E h => ?_) (fun cdv A outer s' H vs Q E hr h => ?_)
  · obtain ⟨a, ns, rfl, _⟩ := h
    rfl
  · obtain ⟨a, ns, rfl, hS, hlen, q⟩ := h
    have r2 : Room 2 _ := hr.mono (by decide)
    have r3 : Room 3 _ := hr.mono (by decide)
    have r4 : Room 4 _ := hr.mono (by decide)
    have r5 : Room 5 _ := hr.mono (by decide)
    have r7 : Room 7 _ := hr.mono (by decide)
    refine ⟨_, (pss_cons (ps_for PassesOwn.never rfl (pi_list (pcall CDs r2 (by rfl) (pa_cons (pv 0) (pa_cons pe_int pa_nil)))) (pg_name (i := 1) sc_law.nd rfl (.inl rfl)) (pss_one (ps_if (pt_not (pt_val (pcall CGr hr (by rfl) (pa_cons (pe_ifExp (pt_cmpR op_gt (pcall CDr r2 (by rfl) (pa_cons (pv 1) (pa_cons pe_int pa_nil))) pe_int (nomark _)) (pcall CG r4 (by rfl) (pa_cons (pv 1) (pa_cons pe_int pa_nil))) (pcall CMg r4 (by rfl) (pa_cons (pv 1) pa_nil))) pa_nil)))) pss_never pss_nil))) (pss_one (ps_ret (pcall CE r3 (by rfl) (pa_cons (pcall CLr r7 (by rfl) (pa_cons (pcall CM r5 (by rfl) (pa_cons (pe_tup (pa_cons pe_str (pa_cons pe_int pa_nil))) pa_nil)) pa_nil)) (pa_cons (pe_lst (pa_cons (pe_lst (pa_cons pe_str pa_nil)) (pa_cons (pe_lst (pa_cons pe_str (pa_cons pe_str pa_nil))) (pa_cons (pe_lst (pa_cons pe_str pa_nil)) pa_nil)))) pa_nil)))))), ?_⟩
    have e16 : sizeLine = 16777216 := by decide
    refine ⟨_, rfl, a, ns, 1, rfl, hS, by decide, fun L ds H1 hL sm1 hLs hdl hds hnd => ?_⟩
    refine ⟨L, rfl, ⟨_, .inl (.inl hLs)⟩, ?_⟩
    refine for_list (K := K) (a := L) (xs := ds.map V.ref) (fun i σ H2 => ∃ y1 : Option V, σ = [some (.ref a), y1] ∧ H2 L = some (.lst (ds.map V.ref)) ∧ ∀ j d, i ≤ j → ds[j]? = some d → Dice H2 d 0)
      ⟨none, rfl, hLs, fun j d _ hj => (hds d (List.mem_of_getElem? hj)).1⟩ (fun i σ H2 _ ⟨_, _, z, _⟩ => .inl (.inl z)) ?_ ?_
    · rintro i x σ H2 hx ⟨y1, rfl, hL2, hd2⟩
      rw [List.getElem?_map] at hx
      obtain ⟨d, hdi, rfl⟩ : ∃ d, ds[i]? = some d ∧ x = V.ref d := by
        cases e : ds[i]? with
        | none => rw [e] at hx; cases hx
        | some d => rw [e] at hx; exact ⟨d, rfl, (Option.some.inj hx).symm⟩
      have hdm := List.mem_of_getElem? hdi
      have neL : L ≠ d := dices_ne hLs hdm (hds d hdm).1
      have hD0 := hd2 i d (Nat.le_refl _) hdi
      refine ⟨_, rfl, d, 8, 0, rfl, hD0, by decide, by decide, by decide, fun r H3 r0 r1 hD3 k3 => ⟨_, _, rfl, rfl, _, rfl, ?_⟩⟩
      have go : ∀ (t : Addr) (H4 : Hp) (u : List Nat) (g : Nat), Kept H3 H4 d → H4 t = some (.tup [.str (S u), .int (g : Int)]) → Gd u g ∧ g ≤ 100 ∧ u.length ^ (2 * g - 2) ≤ 5000 → ∀ H5, Same H4 H5 → H5 L = some (.lst (ds.map V.ref)) ∧ ∀ j d', i + 1 ≤ j → ds[j]? = some d' → Dice H5 d' 0 := fun t H4 u g k4 _ _ H5 s5 =>
        dices_after hdi hnd neL hL2 hd2 (k3.trans (k4.trans (Kept.of s5)))
      cases hb : decide ((0 : Int) < r) with
      | true =>
        refine iteT ⟨_, rfl, d, 80, 1, rfl, hD3, by decide, by decide, fun t H4 u g ht k4 e4 hlow hpw hgood hD4 => ?_⟩
        obtain ⟨G, g100, h5⟩ := good_gd hlow hpw hgood
        exact ⟨t, u, g, rfl, e4, G, g100, h5, fun H5 s5 => ⟨_, rfl, iteF ⟨_, rfl, go t H4 u g k4 e4 ⟨G, g100, h5⟩ H5 s5⟩⟩⟩
      | false =>
        refine iteF ⟨_, rfl, d, 1, rfl, hD3, by decide, fun t H4 u g ht k4 e4 G h5 => ?_⟩
        have g100 : g ≤ 100 := by
          have h2 := G.two
          have g2 := G.gap
          have : 2 ^ (2 * g - 2) ≤ 5000 := Nat.le_trans (Nat.pow_le_pow_left h2 _) h5
          have l := Nat.lt_two_pow_self (n := 2 * g - 2)
          rcases Nat.lt_or_ge 100 g with z | z
          · have : 2 ^ 13 ≤ 2 ^ (2 * g - 2) := Nat.pow_le_pow_right (by decide) (by omega)
            omega
          · exact z
        exact ⟨t, u, g, rfl, e4, G, g100, h5, fun H5 s5 => ⟨_, rfl, iteF ⟨_, rfl, go t H4 u g k4 e4 ⟨G, g100, h5⟩ H5 s5⟩⟩⟩
    · rintro σ H2 ⟨y1, rfl, hL2, hd2⟩
      have G3 : Gd [97, 98] 3 := ⟨by unfold Low; decide, by decide, by decide, by decide, by decide, by decide⟩
      have two : 2 ≤ sizeLine := by show 2 ≤ sizeLine; decide
      refine ⟨two, fun t ht => ⟨t, [97, 98], 3, rfl, by rw [upd_same, S_ab]; rfl, G3, fun x H3 hx s3 ga => ?_⟩⟩
      refine ⟨x, [97, 98], 3, rfl, ga, G3, by decide, fun TL H4 qs hTL s4 eTL lq eqs => ?_⟩
      refine ⟨by show 1 ≤ sizeLine; decide, fun A1 h1 => ⟨two, fun A2 h2 => ⟨by show 1 ≤ sizeLine; decide, fun A3 h3 => ⟨by show 3 ≤ sizeLine; decide, fun A4 h4 => ?_⟩⟩⟩⟩
      have z1 := same_upd (o := .lst [V.str (Str.ofString "aaaa")]) h1
      have z2 := same_upd (o := .lst [V.str (Str.ofString "abab"), V.str (Str.ofString "baba")]) h2
      have z3 := same_upd (o := .lst [V.str (Str.ofString "bbbb")]) h3
      have z4 := same_upd (o := .lst [V.ref A1, V.ref A2, V.ref A3]) h4
      refine ⟨.ref TL, .ref A4, rfl, Eqv.rings (ps := [(A1, [[97, 97, 97, 97]]), (A2, [[97, 98, 97, 98], [98, 97, 98, 97]]), (A3, [[98, 98, 98, 98]])]) ((z1.trans (z2.trans (z3.trans z4))) _ _ eTL) upd_same (fun e he => (z1.trans (z2.trans (z3.trans z4))) _ _ (lq e he).2.2) (fun e he => ?_) (by rw [eqs, ab3]; rfl) ?_ (fun e he => ?_), fun H5 s5 => q H5⟩
      · rcases List.mem_cons.mp he with rfl | he
        · rw [(z2.trans (z3.trans z4)) A1 _ upd_same, S_aaaa]
          rfl
        rcases List.mem_cons.mp he with rfl | he
        · rw [(z3.trans z4) A2 _ upd_same, S_abab, S_baba]
          rfl
        · rw [List.mem_singleton.mp he, z4 A3 _ upd_same, S_bbbb]
          rfl
      · have := congrArg List.length (eqs.trans ab3)
        rw [List.length_map] at this
        rw [this]
        decide
      · have : e.2 ∈ rings [97, 98] 3 := by rw [← eqs]; exact List.mem_map.mpr ⟨e, he, rfl⟩
        rw [ab3] at this
        have all : ∀ y ∈ ([[[97, 97, 97, 97]], [[97, 98, 97, 98], [98, 97, 98, 97]], [[98, 98, 98, 98]]] : List (List (List Nat))), y.length ≤ 100000 := by decide
        exact all _ this
end
end K4
set_option Elab.async false
set_option linter.all false
set_option maxRecDepth 100000
set_option maxHeartbeats 4000000
namespace K4
open PySem PySem.Spec PyProof.Rows L2 K4M
/-- a def as the top has left it -/
def df_mk {K : PySem.W.Frag} {h : Heap} {mg : Str → Option Value} (X : K.In h) (G : h.Ns mainGlobals mg) {x : Str} {st : Stmt} {ps : List Str} {f : Addr} {oc : Value} {od an : Option Addr} {sl : Array (Option Value)} {kV dc pm cd ct : Value}
    (a : PySem.W.nsIn K mainGlobals x = some (some (.ref f))) (l : K.lookup f = some ⟨oc, od, .func (PySem.W.fnOf x x (defArgs st) (defBody st) (defScope st) .none kV dc pm an cd ct), sl⟩) (c : PySem.W.codeIn K cd x = true) (k : PySem.W.keepIn K (.ref f) = true)
    (b : ∀ (kV doc pm : Value) (an : Option Addr) (cdv ct : Value) (us : List Value), us.length = ps.length → bindArgs (PySem.W.fnOf x x (defArgs st) (defBody st) (defScope st) .none kV doc pm an cdv ct) ⟨us, []⟩ = pure (ps.zip us)) : Df K mg x st ps :=
  ⟨f, _, fun_mk (st := st) l c k, (fun_mk (st := st) l c k).binds b, PySem.W.mg_of X G a, ⟨_, _, _, _, _, _, rfl⟩⟩
theorem kit_self {K : PySem.W.Frag} {C : Addr} : PySem.W.kitOne K (.ref C) (.ref C) = some true := by
  unfold PySem.W.kitOne
  rw [if_pos (show (Value.ref C == Value.ref C) = true by simp)]
theorem gr_mk {K : PySem.W.Frag} {h : Heap} {mg : Str → Option Value} {C : Addr} (X : K.In h) (G : h.Ns mainGlobals mg) (aC : PySem.W.nsIn K mainGlobals "Ground" = some (some (.ref C)))
    (pg : PySem.W.plainGet K C Str.empty = true) (hd : PySem.W.hasDictIn K C = true) (po : PySem.W.plainOver K C = true) (sa : PySem.W.findIn K (.ref C) "__setattr__" = some (some (.builtin "object.__setattr__")))
    (nS : PySem.W.findIn K (.ref C) "_signs" = some none) (nG : PySem.W.findIn K (.ref C) "_gap" = some none)
    (ha : PySem.W.findIn K (.ref C) "__class__" = some (some (.builtin "object.__class__"))) (hn : PySem.W.specialIn K (.builtin "object.__class__") "__get__" = some (some (.builtin "getset_descriptor.__get__")))
    (htk : PySem.W.takesIn K (.builtin "object.__class__") = some true) (hm : PySem.W.mroIn K C (.type "object") = some true) : Gr K mg C :=
  ⟨⟨pg, hd, po, sa⟩, nS, nG, PySem.W.mg_of X G aC, ha, hn, htk, hm, kit_self⟩
def dm_mk {K : PySem.W.Frag} {mg : Str → Option Value} {C : Addr} (_ : Gr K mg C) {m q : Str} {st : Stmt} {ps : List Str} {f : Addr} {oc : Value} {od an : Option Addr} {sl : Array (Option Value)} {kV dc pm cd ct : Value}
    (a : PySem.W.findIn K (.ref C) m = some (some (.ref f))) (i : PySem.W.isFn K (.ref f) = true) (l : K.lookup f = some ⟨oc, od, .func (PySem.W.fnOf m q (defArgs st) (defBody st) (defScope st) .none kV dc pm an cd ct), sl⟩) (c : PySem.W.codeIn K cd q = true) (k : PySem.W.keepIn K (.ref f) = true)
    (b : ∀ (kV doc pm : Value) (an : Option Addr) (cdv ct : Value) (us : List Value), us.length = ps.length → bindArgs (PySem.W.fnOf m q (defArgs st) (defBody st) (defScope st) .none kV doc pm an cdv ct) ⟨us, []⟩ = pure (ps.zip us)) : Dm K C m q st ps :=
  ⟨f, _, fun_mk (st := st) l c k, ⟨a, i, k⟩, (fun_mk (st := st) l c k).binds b⟩
def di_mk {K : PySem.W.Frag} {mg : Str → Option Value} {C : Addr} (_ : Gr K mg C) {q : Str} {st : Stmt} {ps : List Str} {f : Addr} {oc : Value} {od an : Option Addr} {sl : Array (Option Value)} {kV dc pm cd ct : Value}
    (mk : PySem.W.makesIn K C = true) (kc : PySem.W.keepIn K (.ref C) = true)
    (a : PySem.W.findIn K (.ref C) "__init__" = some (some (.ref f))) (i : PySem.W.isFn K (.ref f) = true) (l : K.lookup f = some ⟨oc, od, .func (PySem.W.fnOf "__init__" q (defArgs st) (defBody st) (defScope st) .none kV dc pm an cd ct), sl⟩) (c : PySem.W.codeIn K cd q = true) (k : PySem.W.keepIn K (.ref f) = true)
    (b : ∀ (kV doc pm : Value) (an : Option Addr) (cdv ct : Value) (us : List Value), us.length = ps.length → bindArgs (PySem.W.fnOf "__init__" q (defArgs st) (defBody st) (defScope st) .none kV doc pm an cdv ct) ⟨us, []⟩ = pure (ps.zip us)) : Di K C q st ps :=
  ⟨f, _, fun_mk (st := st) l c k, ⟨mk, a, i, kc⟩, (fun_mk (st := st) l c k).binds b⟩
theorem all_mk {l : PySem.W.OpenLaw} {w : World} {K : PySem.W.Frag} {h : Heap} {mg : Str → Option Value} {fa f1 : Addr} (X : K.In h) (G : h.Ns mainGlobals mg) (hfa : mg "law" = some (.ref fa))
    {od1 an1 : Option Addr} {sl1 : Array (Option Value)} {oc1 kV1 dc1 pm1 cd1 ct1 : Value}
    (a1 : PySem.W.nsIn K mainGlobals "law" = some (some (.ref f1))) (l1 : K.lookup f1 = some ⟨oc1, od1, .func (PySem.W.fnOf "law" "law" (defArgs st_law) (defBody st_law) (defScope st_law) .none kV1 dc1 pm1 an1 cd1 ct1), sl1⟩) (c1 : PySem.W.codeIn K cd1 "law" = true) (k1 : PySem.W.keepIn K (.ref f1) = true)
    (B : Bi mg) {t : Tok} (lt : PySem.W.nsIn K mainGlobals "LETTERS" = some (some (.str LET t)))
    {C : Addr} (T : Gr K mg C)
    (m___init__ : Di K C "Ground.__init__" st_Ground___init__ ["self", "signs", "gap"])
    (m_gap : Dm K C "gap" "Ground.gap" st_Ground_gap ["self"])
    (m_signs : Dm K C "signs" "Ground.signs" st_Ground_signs ["self"])
    (m_width : Dm K C "width" "Ground.width" st_Ground_width ["self"])
    (d__law_dice : Df K mg "_law_dice" st__law_dice ["script", "at"])
    (d__law_dices : Df K mg "_law_dices" st__law_dices ["script", "few"])
    (d__law_mixed : Df K mg "_law_mixed" st__law_mixed ["seed", "spin", "at"])
    (d__law_draw : Df K mg "_law_draw" st__law_draw ["dice", "many"])
    (d__law_one_of : Df K mg "_law_one_of" st__law_one_of ["dice", "some"])
    (d__law_letters : Df K mg "_law_letters" st__law_letters ["dice", "many"])
    (d__law_ground : Df K mg "_law_ground" st__law_ground ["dice", "most"])
    (d__law_many_ground : Df K mg "_law_many_ground" st__law_many_ground ["dice"])
    (d_is_made_of : Df K mg "is_made_of" st_is_made_of ["value", "signs"])
    (d__are_signs : Df K mg "_are_signs" st__are_signs ["value"])
    (d_is_whole_number : Df K mg "is_whole_number" st_is_whole_number ["value"])
    (d_is_count : Df K mg "is_count" st_is_count ["value"])
    (d__law_made : Df K mg "_law_made" st__law_made ["ground"])
    (d__law_words_of : Df K mg "_law_words_of" st__law_words_of ["signs", "size"])
    (d__law_repeats : Df K mg "_law_repeats" st__law_repeats ["word", "gap"])
    (d__law_period : Df K mg "_law_period" st__law_period ["word"])
    (d_check_ground : Df K mg "check_ground" st_check_ground ["value"])
    (d_words_long : Df K mg "words_long" st_words_long ["ground", "length"])
    (d_windows : Df K mg "windows" st_windows ["ground"])
    (d_is_text_of : Df K mg "is_text_of" st_is_text_of ["ground", "value"])
    (d_is_window : Df K mg "is_window" st_is_window ["ground", "value"])
    (d_check_window : Df K mg "check_window" st_check_window ["ground", "value"])
    (d__is_had : Df K mg "_is_had" st__is_had ["text", "period"])
    (d_repeats_below : Df K mg "repeats_below" st_repeats_below ["text", "below"])
    (d_is_own : Df K mg "is_own" st_is_own ["ground", "window"])
    (d_is_text : Df K mg "is_text" st_is_text ["value"])
    (d_is_word : Df K mg "is_word" st_is_word ["value"])
    (d_check_word : Df K mg "check_word" st_check_word ["value"])
    (d_least_period : Df K mg "least_period" st_least_period ["word"])
    (d__ring_from : Df K mg "_ring_from" st__ring_from ["window"])
    (d_lone_rings : Df K mg "lone_rings" st_lone_rings ["ground"])
    (d_next_ones : Df K mg "next_ones" st_next_ones ["ground", "window"])
    (d__law_ground_right : Df K mg "_law_ground_right" st__law_ground_right ["ground"])
    (d__law_exact : Df K mg "_law_exact" st__law_exact ["mine", "theirs"])
    : ∃ fd : FuncData, (∀ (s : Shared) (v : Value), BindsTo s fd ⟨[v], []⟩ [("script", v)]) ∧ ∀ base : Heap, K.In base → base.Ns mainGlobals mg → FnOk l.prog w K mg base CX0 9 fa fd ["script"] (spLaw K) := by
  have e := hfa.symm.trans (PySem.W.mg_of X G a1)
  cases e
  have F1 := fun_mk (st := st_law) l1 c1 k1
  have b1 := F1.binds (ps := ["script"]) fun _ _ _ _ _ _ us hl => match us, hl with | [_], _ => rfl
  refine ⟨PySem.W.fnOf "law" "law" (defArgs st_law) (defBody st_law) (defScope st_law) .none kV1 dc1 pm1 an1 cd1 ct1, fun s v => .of_eq rfl, fun base _ _ => ?_⟩
  have c_exact2 := d__law_exact.cal (P := l.prog) (w := w) (base := base) (ok_exact B d__law_exact 2)
  have c__law_dice := d__law_dice.cal (P := l.prog) (w := w) (base := base) (ok_dice B d__law_dice)
  have c__law_dices := d__law_dices.cal (P := l.prog) (w := w) (base := base) (ok_dices B d__law_dices c__law_dice)
  have c__law_mixed := d__law_mixed.cal (P := l.prog) (w := w) (base := base) (ok_mixed B d__law_mixed)
  have c__law_draw := d__law_draw.cal (P := l.prog) (w := w) (base := base) (ok_draw B d__law_draw c__law_mixed)
  have c__law_one_of := d__law_one_of.cal (P := l.prog) (w := w) (base := base) (ok_one_of B d__law_one_of c__law_draw)
  have c__law_letters := d__law_letters.cal (P := l.prog) (w := w) (base := base) (ok_letters B d__law_letters c__law_draw)
  have c__law_ground := d__law_ground.cal (P := l.prog) (w := w) (base := base) (ok_ground B d__law_ground c__law_draw c__law_one_of c__law_letters)
  have c__law_many_ground := d__law_many_ground.cal (P := l.prog) (w := w) (base := base) (ok_mg d__law_many_ground c__law_draw c__law_letters)
  have c_is_made_of := d_is_made_of.cal (P := l.prog) (w := w) (base := base) (ok_made B d_is_made_of)
  have c__are_signs := d__are_signs.cal (P := l.prog) (w := w) (base := base) (ok_asg B (PySem.W.mg_of X G lt) d__are_signs c_is_made_of)
  have c_is_whole_number := d_is_whole_number.cal (P := l.prog) (w := w) (base := base) (ok_whole B d_is_whole_number)
  have c_is_count := d_is_count.cal (P := l.prog) (w := w) (base := base) (ok_count B d_is_count c_is_whole_number)
  have c_m___init__ := m___init__.ma (P := l.prog) (w := w) (mg := mg) (base := base) (ok_init T m___init__ c__are_signs c_is_count)
  have c__law_made := d__law_made.cal (P := l.prog) (w := w) (base := base) (ok_md T d__law_made c_m___init__)
  have c__law_words_of := d__law_words_of.cal (P := l.prog) (w := w) (base := base) (ok_words B d__law_words_of)
  have c__law_repeats := d__law_repeats.cal (P := l.prog) (w := w) (base := base) (ok_rep B d__law_repeats)
  have c__law_period := d__law_period.cal (P := l.prog) (w := w) (base := base) (ok_lper B d__law_period)
  have c_check_ground := d_check_ground.cal (P := l.prog) (w := w) (base := base) (ok_cg B T d_check_ground)
  have c_m_signs := m_signs.mt (P := l.prog) (w := w) (mg := mg) (base := base) (ok_gs T m_signs)
  have c_words_long := d_words_long.cal (P := l.prog) (w := w) (base := base) (ok_wlg B T d_words_long c_m_signs)
  have c_m_width := m_width.mt (P := l.prog) (w := w) (mg := mg) (base := base) (ok_gw T m_width)
  have c_windows := d_windows.cal (P := l.prog) (w := w) (base := base) (ok_win T d_windows c_check_ground c_words_long c_m_width)
  have c_is_text_of := d_is_text_of.cal (P := l.prog) (w := w) (base := base) (ok_tof T d_is_text_of c_is_made_of c_m_signs)
  have c_is_window := d_is_window.cal (P := l.prog) (w := w) (base := base) (ok_isw B T d_is_window c_is_text_of c_m_width)
  have c_check_window := d_check_window.cal (P := l.prog) (w := w) (base := base) (ok_cw d_check_window c_is_window)
  have c__is_had := d__is_had.cal (P := l.prog) (w := w) (base := base) (ok_had d__is_had)
  have c_repeats_below := d_repeats_below.cal (P := l.prog) (w := w) (base := base) (ok_rb B d_repeats_below c__is_had)
  have c_m_gap := m_gap.mt (P := l.prog) (w := w) (mg := mg) (base := base) (ok_gg T m_gap)
  have c_is_own := d_is_own.cal (P := l.prog) (w := w) (base := base) (ok_own T d_is_own c_check_ground c_check_window c_repeats_below c_m_gap)
  have c_is_text := d_is_text.cal (P := l.prog) (w := w) (base := base) (ok_text (PySem.W.mg_of X G lt) d_is_text c_is_made_of)
  have c_is_word := d_is_word.cal (P := l.prog) (w := w) (base := base) (ok_word d_is_word c_is_text)
  have c_check_word := d_check_word.cal (P := l.prog) (w := w) (base := base) (ok_cword d_check_word c_is_word)
  have c_least_period := d_least_period.cal (P := l.prog) (w := w) (base := base) (ok_lp B d_least_period c_check_word c__is_had)
  have c__ring_from := d__ring_from.cal (P := l.prog) (w := w) (base := base) (ok_rf B d__ring_from c_least_period)
  have c_lone_rings := d_lone_rings.cal (P := l.prog) (w := w) (base := base) (ok_lr B T d_lone_rings c_check_ground c_windows c_is_own c__ring_from)
  have c_next_ones := d_next_ones.cal (P := l.prog) (w := w) (base := base) (ok_nx T d_next_ones c_check_ground c_check_window c_m_signs)
  have c__law_ground_right := d__law_ground_right.cal (P := l.prog) (w := w) (base := base) (ok_gr B d__law_ground_right c__law_made c__law_words_of c__law_repeats c__law_period c_lone_rings c_exact2 c_next_ones)
  exact ok_law B ⟨_, _, F1, b1, PySem.W.mg_of X G a1, ⟨_, _, _, _, _, _, rfl⟩⟩ c__law_dices c__law_draw c__law_ground c__law_many_ground c__law_ground_right c__law_made c_lone_rings c_exact2
end K4
open PySem PySem.W PyProof.Rows
set_option maxRecDepth 100000 in
set_option maxHeartbeats 0 in
theorem PySem.Challenge.cw_owncuts_k09_whole_lone_rings_holds : PySem.Challenge.rw_owncuts_k09_whole_lone_rings.Holds := by
  w_on; o_law; k_head; (case hw => w_witness2)
  k_fill
  refine L2.walk_of (l := PySem.Challenge.rw_owncuts_k09_whole_lone_rings) (n := 63) (k := 9) (x := "script") (CX := fun _ => L2.CX0) (sp := fun w => K4.spLaw _) rfl (by decide) rfl ⟨rfl, by decide, by decide⟩ (fun w h Y => PySem.W.kIn_of Y) ?F (fun _ _ a ns hl _ hS => ⟨a, ns, rfl, hS, hl, fun _ => rfl⟩) (fun _ _ _ _ _ h => h)
  case F =>
    intro w mg fa h KX G hmg
    have z_len : mg "len" = none := PySem.W.mg_none_of KX G (by k_is)
    have z_range : mg "range" = none := PySem.W.mg_none_of KX G (by k_is)
    have z_sum : mg "sum" = none := PySem.W.mg_none_of KX G (by k_is)
    have z_max : mg "max" = none := PySem.W.mg_none_of KX G (by k_is)
    have z_min : mg "min" = none := PySem.W.mg_none_of KX G (by k_is)
    have z_int : mg "int" = none := PySem.W.mg_none_of KX G (by k_is)
    have z_isinstance : mg "isinstance" = none := PySem.W.mg_none_of KX G (by k_is)
    have z_list : mg "list" = none := PySem.W.mg_none_of KX G (by k_is)
    have z_any : mg "any" = none := PySem.W.mg_none_of KX G (by k_is)
    have z_all : mg "all" = none := PySem.W.mg_none_of KX G (by k_is)
    have z_zip : mg "zip" = none := PySem.W.mg_none_of KX G (by k_is)
    have z_bool : mg "bool" = none := PySem.W.mg_none_of KX G (by k_is)
    have z_str : mg "str" = none := PySem.W.mg_none_of KX G (by k_is)
    have z_tuple : mg "tuple" = none := PySem.W.mg_none_of KX G (by k_is)
    have z_dict : mg "dict" = none := PySem.W.mg_none_of KX G (by k_is)
    have z_sorted : mg "sorted" = none := PySem.W.mg_none_of KX G (by k_is)
    have z_set : mg "set" = none := PySem.W.mg_none_of KX G (by k_is)
    have z_repr : mg "repr" = none := PySem.W.mg_none_of KX G (by k_is)
    have z_abs : mg "abs" = none := PySem.W.mg_none_of KX G (by k_is)
    have z_enumerate : mg "enumerate" = none := PySem.W.mg_none_of KX G (by k_is)
    have d__law_dice := K4.df_mk (x := "_law_dice") (st := K4.st__law_dice) (ps := ["script", "at"]) KX G (by k_is) (by k_is) (by k_is) (by k_is) (fun _ _ _ _ _ _ us hl => match us, hl with | [_, _], _ => rfl)
    have d__law_dices := K4.df_mk (x := "_law_dices") (st := K4.st__law_dices) (ps := ["script", "few"]) KX G (by k_is) (by k_is) (by k_is) (by k_is) (fun _ _ _ _ _ _ us hl => match us, hl with | [_, _], _ => rfl)
    have d__law_mixed := K4.df_mk (x := "_law_mixed") (st := K4.st__law_mixed) (ps := ["seed", "spin", "at"]) KX G (by k_is) (by k_is) (by k_is) (by k_is) (fun _ _ _ _ _ _ us hl => match us, hl with | [_, _, _], _ => rfl)
    have d__law_draw := K4.df_mk (x := "_law_draw") (st := K4.st__law_draw) (ps := ["dice", "many"]) KX G (by k_is) (by k_is) (by k_is) (by k_is) (fun _ _ _ _ _ _ us hl => match us, hl with | [_, _], _ => rfl)
    have d__law_one_of := K4.df_mk (x := "_law_one_of") (st := K4.st__law_one_of) (ps := ["dice", "some"]) KX G (by k_is) (by k_is) (by k_is) (by k_is) (fun _ _ _ _ _ _ us hl => match us, hl with | [_, _], _ => rfl)
    have d__law_letters := K4.df_mk (x := "_law_letters") (st := K4.st__law_letters) (ps := ["dice", "many"]) KX G (by k_is) (by k_is) (by k_is) (by k_is) (fun _ _ _ _ _ _ us hl => match us, hl with | [_, _], _ => rfl)
    have d__law_ground := K4.df_mk (x := "_law_ground") (st := K4.st__law_ground) (ps := ["dice", "most"]) KX G (by k_is) (by k_is) (by k_is) (by k_is) (fun _ _ _ _ _ _ us hl => match us, hl with | [_, _], _ => rfl)
    have d__law_many_ground := K4.df_mk (x := "_law_many_ground") (st := K4.st__law_many_ground) (ps := ["dice"]) KX G (by k_is) (by k_is) (by k_is) (by k_is) (fun _ _ _ _ _ _ us hl => match us, hl with | [_], _ => rfl)
    have d_is_made_of := K4.df_mk (x := "is_made_of") (st := K4.st_is_made_of) (ps := ["value", "signs"]) KX G (by k_is) (by k_is) (by k_is) (by k_is) (fun _ _ _ _ _ _ us hl => match us, hl with | [_, _], _ => rfl)
    have d__are_signs := K4.df_mk (x := "_are_signs") (st := K4.st__are_signs) (ps := ["value"]) KX G (by k_is) (by k_is) (by k_is) (by k_is) (fun _ _ _ _ _ _ us hl => match us, hl with | [_], _ => rfl)
    have d_is_whole_number := K4.df_mk (x := "is_whole_number") (st := K4.st_is_whole_number) (ps := ["value"]) KX G (by k_is) (by k_is) (by k_is) (by k_is) (fun _ _ _ _ _ _ us hl => match us, hl with | [_], _ => rfl)
    have d_is_count := K4.df_mk (x := "is_count") (st := K4.st_is_count) (ps := ["value"]) KX G (by k_is) (by k_is) (by k_is) (by k_is) (fun _ _ _ _ _ _ us hl => match us, hl with | [_], _ => rfl)
    have d__law_made := K4.df_mk (x := "_law_made") (st := K4.st__law_made) (ps := ["ground"]) KX G (by k_is) (by k_is) (by k_is) (by k_is) (fun _ _ _ _ _ _ us hl => match us, hl with | [_], _ => rfl)
    have d__law_words_of := K4.df_mk (x := "_law_words_of") (st := K4.st__law_words_of) (ps := ["signs", "size"]) KX G (by k_is) (by k_is) (by k_is) (by k_is) (fun _ _ _ _ _ _ us hl => match us, hl with | [_, _], _ => rfl)
    have d__law_repeats := K4.df_mk (x := "_law_repeats") (st := K4.st__law_repeats) (ps := ["word", "gap"]) KX G (by k_is) (by k_is) (by k_is) (by k_is) (fun _ _ _ _ _ _ us hl => match us, hl with | [_, _], _ => rfl)
    have d__law_period := K4.df_mk (x := "_law_period") (st := K4.st__law_period) (ps := ["word"]) KX G (by k_is) (by k_is) (by k_is) (by k_is) (fun _ _ _ _ _ _ us hl => match us, hl with | [_], _ => rfl)
    have d_check_ground := K4.df_mk (x := "check_ground") (st := K4.st_check_ground) (ps := ["value"]) KX G (by k_is) (by k_is) (by k_is) (by k_is) (fun _ _ _ _ _ _ us hl => match us, hl with | [_], _ => rfl)
    have d_words_long := K4.df_mk (x := "words_long") (st := K4.st_words_long) (ps := ["ground", "length"]) KX G (by k_is) (by k_is) (by k_is) (by k_is) (fun _ _ _ _ _ _ us hl => match us, hl with | [_, _], _ => rfl)
    have d_windows := K4.df_mk (x := "windows") (st := K4.st_windows) (ps := ["ground"]) KX G (by k_is) (by k_is) (by k_is) (by k_is) (fun _ _ _ _ _ _ us hl => match us, hl with | [_], _ => rfl)
    have d_is_text_of := K4.df_mk (x := "is_text_of") (st := K4.st_is_text_of) (ps := ["ground", "value"]) KX G (by k_is) (by k_is) (by k_is) (by k_is) (fun _ _ _ _ _ _ us hl => match us, hl with | [_, _], _ => rfl)
    have d_is_window := K4.df_mk (x := "is_window") (st := K4.st_is_window) (ps := ["ground", "value"]) KX G (by k_is) (by k_is) (by k_is) (by k_is) (fun _ _ _ _ _ _ us hl => match us, hl with | [_, _], _ => rfl)
    have d_check_window := K4.df_mk (x := "check_window") (st := K4.st_check_window) (ps := ["ground", "value"]) KX G (by k_is) (by k_is) (by k_is) (by k_is) (fun _ _ _ _ _ _ us hl => match us, hl with | [_, _], _ => rfl)
    have d__is_had := K4.df_mk (x := "_is_had") (st := K4.st__is_had) (ps := ["text", "period"]) KX G (by k_is) (by k_is) (by k_is) (by k_is) (fun _ _ _ _ _ _ us hl => match us, hl with | [_, _], _ => rfl)
    have d_repeats_below := K4.df_mk (x := "repeats_below") (st := K4.st_repeats_below) (ps := ["text", "below"]) KX G (by k_is) (by k_is) (by k_is) (by k_is) (fun _ _ _ _ _ _ us hl => match us, hl with | [_, _], _ => rfl)
    have d_is_own := K4.df_mk (x := "is_own") (st := K4.st_is_own) (ps := ["ground", "window"]) KX G (by k_is) (by k_is) (by k_is) (by k_is) (fun _ _ _ _ _ _ us hl => match us, hl with | [_, _], _ => rfl)
    have d_is_text := K4.df_mk (x := "is_text") (st := K4.st_is_text) (ps := ["value"]) KX G (by k_is) (by k_is) (by k_is) (by k_is) (fun _ _ _ _ _ _ us hl => match us, hl with | [_], _ => rfl)
    have d_is_word := K4.df_mk (x := "is_word") (st := K4.st_is_word) (ps := ["value"]) KX G (by k_is) (by k_is) (by k_is) (by k_is) (fun _ _ _ _ _ _ us hl => match us, hl with | [_], _ => rfl)
    have d_check_word := K4.df_mk (x := "check_word") (st := K4.st_check_word) (ps := ["value"]) KX G (by k_is) (by k_is) (by k_is) (by k_is) (fun _ _ _ _ _ _ us hl => match us, hl with | [_], _ => rfl)
    have d_least_period := K4.df_mk (x := "least_period") (st := K4.st_least_period) (ps := ["word"]) KX G (by k_is) (by k_is) (by k_is) (by k_is) (fun _ _ _ _ _ _ us hl => match us, hl with | [_], _ => rfl)
    have d__ring_from := K4.df_mk (x := "_ring_from") (st := K4.st__ring_from) (ps := ["window"]) KX G (by k_is) (by k_is) (by k_is) (by k_is) (fun _ _ _ _ _ _ us hl => match us, hl with | [_], _ => rfl)
    have d_lone_rings := K4.df_mk (x := "lone_rings") (st := K4.st_lone_rings) (ps := ["ground"]) KX G (by k_is) (by k_is) (by k_is) (by k_is) (fun _ _ _ _ _ _ us hl => match us, hl with | [_], _ => rfl)
    have d_next_ones := K4.df_mk (x := "next_ones") (st := K4.st_next_ones) (ps := ["ground", "window"]) KX G (by k_is) (by k_is) (by k_is) (by k_is) (fun _ _ _ _ _ _ us hl => match us, hl with | [_, _], _ => rfl)
    have d__law_ground_right := K4.df_mk (x := "_law_ground_right") (st := K4.st__law_ground_right) (ps := ["ground"]) KX G (by k_is) (by k_is) (by k_is) (by k_is) (fun _ _ _ _ _ _ us hl => match us, hl with | [_], _ => rfl)
    have d__law_exact := K4.df_mk (x := "_law_exact") (st := K4.st__law_exact) (ps := ["mine", "theirs"]) KX G (by k_is) (by k_is) (by k_is) (by k_is) (fun _ _ _ _ _ _ us hl => match us, hl with | [_, _], _ => rfl)
    have T := K4.gr_mk KX G (by k_is) (by k_is) (by k_is) (by k_is) (by k_is) (by k_is) (by k_is) (by k_is) (by k_is) (by k_is) (by k_is)
    have m___init__ := K4.di_mk T (q := "Ground.__init__") (st := K4.st_Ground___init__) (ps := ["self", "signs", "gap"]) (by k_is) (by k_is) (by k_is) (by k_is) (by k_is) (by k_is) (by k_is) (fun _ _ _ _ _ _ us hl => match us, hl with | [_, _, _], _ => rfl)
    have m_gap := K4.dm_mk T (m := "gap") (q := "Ground.gap") (st := K4.st_Ground_gap) (ps := ["self"]) (by k_is) (by k_is) (by k_is) (by k_is) (by k_is) (fun _ _ _ _ _ _ us hl => match us, hl with | [_], _ => rfl)
    have m_signs := K4.dm_mk T (m := "signs") (q := "Ground.signs") (st := K4.st_Ground_signs) (ps := ["self"]) (by k_is) (by k_is) (by k_is) (by k_is) (by k_is) (fun _ _ _ _ _ _ us hl => match us, hl with | [_], _ => rfl)
    have m_width := K4.dm_mk T (m := "width") (q := "Ground.width") (st := K4.st_Ground_width) (ps := ["self"]) (by k_is) (by k_is) (by k_is) (by k_is) (by k_is) (fun _ _ _ _ _ _ us hl => match us, hl with | [_], _ => rfl)
    refine' K4.all_mk KX G hmg ?a1 ?l1 ?c1 ?k1 ⟨z_len, z_range, z_sum, z_max, z_min, z_int, z_isinstance, z_list, z_any, z_all, z_zip, z_bool, z_str, z_tuple, z_dict, z_sorted, z_set, z_repr, z_abs, z_enumerate⟩ ?lt T m___init__ m_gap m_signs m_width d__law_dice d__law_dices d__law_mixed d__law_draw d__law_one_of d__law_letters d__law_ground d__law_many_ground d_is_made_of d__are_signs d_is_whole_number d_is_count d__law_made d__law_words_of d__law_repeats d__law_period d_check_ground d_words_long d_windows d_is_text_of d_is_window d_check_window d__is_had d_repeats_below d_is_own d_is_text d_is_word d_check_word d_least_period d__ring_from d_lone_rings d_next_ones d__law_ground_right d__law_exact
    (case a1 => k_is); (case l1 => k_is); (case c1 => k_is); (case k1 => k_is); (case lt => k_is)
