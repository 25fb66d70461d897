/-
  culvertref03: Remove
-/
import Derived.Test.YtnljgklmaljfjaaDoorRef03d
namespace Go.Proofs.YtnljgklmaljfjaaDoor
open Go.RowKit Fint

/-- the things of which it is true -/
def outB (ns : List Int) (x : Int × Nat) : Bool := decide (x.1 ∈ ns)
def restQ (ns : List Int) (l : Things) : Things := l.filter (fun x => !outB ns x)
def goneN (ns : List Int) (l : Things) : Nat := l.countP (outB ns)

theorem rest_take (ns : List Int) (l : Things) (k : Nat) (x : Int × Nat) (h : l[k]? = some x) : restQ ns (l.take (k + 1)) = if outB ns x then restQ ns (l.take k) else restQ ns (l.take k) ++ [x] := by
  rw [List.take_add_one, h]
  unfold restQ
  cases hb : outB ns x <;> simp [hb]
theorem gone_take (ns : List Int) (l : Things) (k : Nat) (x : Int × Nat) (h : l[k]? = some x) : goneN ns (l.take (k + 1)) = if outB ns x then goneN ns (l.take k) + 1 else goneN ns (l.take k) := by
  rw [List.take_add_one, h]
  unfold goneN
  cases hb : outB ns x <;> simp [hb]
theorem rest_le (ns : List Int) (l : Things) : (restQ ns l).length ≤ l.length := List.length_filter_le _ _
theorem gone_le (ns : List Int) (l : Things) : goneN ns l ≤ l.length := List.countP_le_length

theorem refRemove_ok (w : World) (rt rw : Nat) (a : Option Addr) (c : Nat) (l : Things) (ws : Value) (ns : List Int) (hr : ReadsK 2 w (.slice a l.length c) l.length (flat l)) (hw : ReadsOff Nowhere w ws (iv ns)) (hwn : ns.length ≤ maxLen)
    (hb : l.length * 16 ≤ 140737488355328) :
    Calls Tryd.prog 17 #[.agg #[.int .i64 rt, .int .i64 rw, .slice a l.length c], ws] w fun e w' => ∃ s', e = .returned (.tuple #[.agg #[.int .i64 rt, .int .i64 rw, s'], .int .i64 (goneN ns l)]) ∧
      Aside (RefAns w w' (.slice a l.length c) s' (restQ ns l)) := by
  obtain ⟨a', c', he, hlc, hcm, hc⟩ := hr.at
  injection he with e1 e2 e3
  subst e1 e3
  obtain ⟨N, hN⟩ : ∃ N, N = l.length := ⟨_, rfl⟩
  rw [← hN] at hlc hb ⊢
  have HN : Aside _ := ⟨hN⟩
  have HC : Aside _ := ⟨hc⟩
  have HB : Aside _ := ⟨hb⟩
  have hn' : (N : Int) ≤ 9223372036854775807 := by unfold maxLen at hcm; omega
  clear hN hc hcm hb hr e2
  obtain ⟨W1, hW1⟩ : ∃ W1, W1 = (w.alloc (.cells #[.int .i64 rt, .int .i64 rw, .slice a N c] 35)).alloc (.cells #[.int .i64 0, .int .i64 0, .slice none 0 0] 35) := ⟨_, rfl⟩
  have K1 : Aside (Keeps Nowhere w W1) := ⟨by rw [hW1]; exact ((Keeps.refl _ _).alloc _).alloc _⟩
  have SZ : Aside (W1.heap.size = w.heap.size + 1 + 1) := ⟨by rw [hW1]; simp⟩
  have C0 : Aside (Cells W1 w.heap.size 35 [.int .i64 rt, .int .i64 rw, .slice a N c]) := ⟨by rw [hW1]; exact (Cells.new w _ _).later (S := Nowhere) ((Keeps.refl _ _).alloc _) (fun x => x)⟩
  have C1 : Aside (Cells W1 (w.heap.size + 1) 35 [.int .i64 0, .int .i64 0, .slice none 0 0]) := ⟨by
    have h := Cells.new (w.alloc (.cells #[.int .i64 rt, .int .i64 rw, .slice a N c] 35)) 35 [.int .i64 0, .int .i64 0, .slice none 0 0]
    rw [World.size_alloc] at h
    rw [hW1]; exact h⟩
  have IN : Aside _ := ⟨fun wr (k : Keeps Nowhere W1 wr) x => refIn_ok wr ws ns x ((hw.later (K1.it.trans k)).mono (fun _ x _ => x.elim)) hwn⟩
  clear hw hwn
  go_enter Tryd.func17, Tryd.ntmps17
  go_wp2_with fail
  rw [← hW1]
  have HW1 : Aside _ := ⟨hW1⟩
  clear hW1
  go_loopw [6, 7, 8] (fun s n i wr => ∃ k : Nat, i = .int .i64 k ∧ k ≤ N ∧ n = .int .i64 (goneN ns (l.take k)) ∧ (∃ a l c, s = .slice a l c) ∧ Aside (wr.ownsRow W1.heap.size 46 2 s (restQ ns (l.take k)).length (flat (restQ ns (l.take k)))) ∧ Aside (Keeps Nowhere W1 wr)) (fun _ _ i _ => N - (intOf i).toNat)
  case atStart => exact ⟨0, rfl, Nat.zero_le _, rfl, ⟨_, _, _, rfl⟩, ⟨World.ownsRow_nil _ _ _ _⟩, ⟨Keeps.refl _ _⟩⟩
  case round =>
    obtain ⟨k, rfl, hk, rfl, ⟨a1, l1, c1, rfl⟩, ho, hkk⟩ := hrel
    have c0 := C0.it.later hkk.it (fun x => x)
    have d2 : wr.cell? ⟨w.heap.size, 2, none⟩ = some (.slice a N c) := by rw [c0.cell]; rfl
    have D0 : Aside _ := ⟨c0⟩
    clear c0
    rcases Nat.eq_or_lt_of_le hk with rfl | hlt
    · have c1 := C1.it.later hkk.it (fun x => x)
      have d0 : wr.cell? ⟨w.heap.size, 0, none⟩ = some (.int .i64 rt) := by rw [D0.it.cell]; rfl
      have d1 : wr.cell? ⟨w.heap.size, 1, none⟩ = some (.int .i64 rw) := by rw [D0.it.cell]; rfl
      have f0 : wr.cell? ⟨w.heap.size + 1, 0, none⟩ = some (.int .i64 0) := by rw [c1.cell]; rfl
      have f1 : wr.cell? ⟨w.heap.size + 1, 1, none⟩ = some (.int .i64 0) := by rw [c1.cell]; rfl
      have f2 : wr.cell? ⟨w.heap.size + 1, 2, none⟩ = some (.slice none 0 0) := by rw [c1.cell]; rfl
      have y2 := D0.it.frozen 2
      have z0 := c1.frozen 0
      have z1 := c1.frozen 1
      have z2 := c1.frozen 2
      have G1 : Aside _ := ⟨c1⟩
      have etk : l.take k = l := by rw [HN.it, List.take_length]
      rw [etk] at ho ⊢
      clear c1 etk
      go_wp2
      all_goals first
        | (exfalso; omega)
        | skip
      obtain ⟨W, hW⟩ : ∃ W, W = (((wr.setCell ⟨w.heap.size, 2, none⟩ (.slice a1 l1 c1)).setCell ⟨w.heap.size + 1, 0, none⟩ (.int .i64 rt)).setCell ⟨w.heap.size + 1, 1, none⟩ (.int .i64 rw)).setCell ⟨w.heap.size + 1, 2, none⟩ (.slice a1 l1 c1) := ⟨_, rfl⟩
      rw [← hW]
      have hC : Cells W (w.heap.size + 1) 35 [.int .i64 rt, .int .i64 rw, .slice a1 l1 c1] := by
        rw [hW]
        exact (((G1.it.setOther ⟨w.heap.size, 2, none⟩ (.slice a1 l1 c1) (show w.heap.size + 1 ≠ w.heap.size by omega)).setCell 0 (.int .i64 rt)).setCell 1 (.int .i64 rw)).setCell 2 (.slice a1 l1 c1)
      have r0 : W.cell? ⟨w.heap.size + 1, 0, none⟩ = some (.int .i64 rt) := by rw [hC.cell]; rfl
      have r1 : W.cell? ⟨w.heap.size + 1, 1, none⟩ = some (.int .i64 rw) := by rw [hC.cell]; rfl
      have r2 : W.cell? ⟨w.heap.size + 1, 2, none⟩ = some (.slice a1 l1 c1) := by rw [hC.cell]; rfl
      refine bodyPost_ret (v := .tuple #[.agg #[.int .i64 rt, .int .i64 rw, .slice a1 l1 c1], .int .i64 (goneN ns l)]) (by simp [results, Tryd.results17, go_sem, r0, r1, r2]) rfl ?_
      have hg : ∀ k, (Value.slice a1 l1 c1).ownBlock = some k → w.heap.size + 1 + 1 ≤ k := fun k hk => by rw [← SZ.it]; exact owns_base ho.it k hk
      have kk : Keeps (fun k => k = w.heap.size ∨ k = w.heap.size + 1) wr W := by
        rw [hW]
        exact ((((Keeps.refl _ wr).setCell ⟨w.heap.size, 2, none⟩ _ (fun _ => .inl rfl)).setCell ⟨w.heap.size + 1, 0, none⟩ _ (fun _ => .inr rfl)).setCell ⟨w.heap.size + 1, 1, none⟩ _ (fun _ => .inr rfl)).setCell ⟨w.heap.size + 1, 2, none⟩ _ (fun _ => .inr rfl)
      refine ⟨_, rfl, ⟨⟨owns_readsK (owns_later ho.it kk (fun b hb e => by have := hg b hb; omega)), fun k hk => .inr (by have := hg k hk; omega), ?_, fun k hk => Nat.lt_of_lt_of_le (owns_lt ho.it k hk) kk.size⟩⟩⟩
      exact (K1.it.trans hkk.it).next kk (fun b hb hlt => by omega)
    · obtain ⟨x, hx⟩ : ∃ x, l[k]? = some x := ⟨_, List.getElem?_eq_getElem (by rw [← HN.it]; exact hlt)⟩
      obtain ⟨g, o, rfl, e0, e1⟩ := HC.it k x hx
      have e0' : wr.cell? ⟨g, o + k * 2, none⟩ = some (.int .i64 x.1) := by
        rw [(K1.it.trans hkk.it).bel.cell (World.block_lt_of_cell? w _ e0)]; exact e0
      have e1' : wr.cell? ⟨g, o + k * 2 + 1, none⟩ = some (.int .i64 x.2) := by
        rw [(K1.it.trans hkk.it).bel.cell (World.block_lt_of_cell? w _ e1)]; exact e1
      have RT := rest_take ns l k x hx
      have GT := gone_take ns l k x hx
      have hgl : goneN ns (l.take k) ≤ k := Nat.le_trans (gone_le _ _) (by rw [List.length_take]; omega)
      have hrl : Aside ((restQ ns (l.take k)).length ≤ k) := ⟨Nat.le_trans (rest_le _ _) (by rw [List.length_take]; omega)⟩
      obtain ⟨t, ht⟩ : ∃ t, t = goneN ns (l.take k) := ⟨_, rfl⟩
      rw [← ht] at hgl GT ⊢
      have II := hide (IN.it wr hkk.it x.1)
      have RT' : Aside _ := ⟨RT⟩
      have GT' : Aside _ := ⟨GT⟩
      clear hx e0 e1 RT GT ht
      by_cases hin : x.1 ∈ ns
      · rw [decide_eq_true hin] at II
        have ho' : outB ns x = true := decide_eq_true hin
        rw [if_pos ho'] at RT' GT'
        clear hin ho'
        go_wp2_with (go_at_call 16; refine II.out.mono ?_; rintro e w2 ⟨rfl, rfl⟩)
        all_goals first
          | (exfalso; omega)
          | skip
        go_roundw
        case rel => exact ⟨k + 1, by go_num, by omega, by rw [GT'.it]; go_num, ⟨_, _, _, rfl⟩, ⟨by rw [RT'.it]; exact ho.it⟩, hkk⟩
        case measure => simp [intOf]; omega
      · rw [decide_eq_false hin] at II
        have ho' : ¬ outB ns x = true := by unfold outB; simpa using hin
        rw [if_neg ho'] at RT' GT'
        clear hin ho'
        go_wp2_with (first | (go_at_call 16; refine II.out.mono ?_; rintro e w2 ⟨rfl, rfl⟩) | (at_builtin; refine wpList_appendR rfl (.tmp 28) (.tmp 34) 33 rfl 46 (.agg #[.int .i64 0, .int .i64 0]) 2 16 Tryd.underlying33 thingInfo rfl (by decide) w2 ((Keeps.refl _ _).alloc _) W1.heap.size _ _ _ ho.it _ 1 (fl x) (readsK_new _ _ (fl x)) (flat_one x ▸ flat_one' [x]) (by have := HB.it; have := hrl.it; omega) (by unfold maxLen; have := HB.it; have := hrl.it; omega) hkk.it.size rfl rfl ?_; intro v' w' o' k' b'; obtain ⟨g0, g1, g2, hv'⟩ := owns_shapeK o'.it; subst hv'))
        all_goals first
          | (exfalso; omega)
          | skip
        go_roundw
        case rel =>
          refine ⟨k + 1, by go_num, by omega, by rw [GT'.it], ⟨_, _, _, rfl⟩, ⟨?_⟩, ⟨?_⟩⟩
          · have := o'.it
            rw [RT'.it, flat_append, flat_one, List.length_append]
            exact this
          · exact (hkk.it.alloc _).next k'.it (fun b hb hlt => by have := owns_base ho.it b hb; omega)
        case measure => simp [intOf]; omega
end Go.Proofs.YtnljgklmaljfjaaDoor
