/-
  package lru (lnn): a cache in memory; find, Len, Weight, New, tooOld
-/
import Derived.Test.YthjeeianlgkaaaaDoorLuMlnn
import Derived.Test.YthjeeianlgkaaaaDoorChecked
import Derived.Test.YthjeeianlgkaaaaDoorCode
import Derived.Defers
import Derived.Recover
import Derived.BigQuiet
import Derived.ChangeKeysEq
import Derived.Deep.Cut
import Derived.Deep.RegionHeld3
import Derived.Deep.RegionHeldLaw
import Derived.Deep.DeepCutAuto
namespace Go.Proofs.YthjeeianlgkaaaaDoor.Lulnn
open Go.RowKit

/-- the blocks of a list, their things and their neighbours -/
def Sts (w : World) (l : List Nat) (f : Nat → Rx) (pf nf : Nat → Option Nat) : Prop := ∀ b ∈ l, Cells w b 79 (tc (f b) (vF (pf b)) (vF (nf b)))
structure CaI (w : World) (c mb eb : Nat) (l : List Nat) (f : Nat → Rx) (pf nf : Nat → Option Nat) (room : Int) : Prop where
  box : Cells w c 82 [.int .i64 room, .int .i64 (sumL (l.map f)), .map (some mb), ptr eb]
  map : MapB w mb l.length (fk l (fun b => (f b).k))
  sts : Sts w (eb :: l) f pf nf
  nodup : (eb :: l).Nodup
  ring : Rg (eb :: l) pf nf
  ok : LOk room (l.map f)
/-- a cache by its owner: its box, its table, its things -/
def CaO (own : Nat → Nat) (i : Nat) (w : World) (c : Nat) (room : Int) (L : List Rx) : Prop :=
  ∃ mb eb l f pf nf, CaI w c mb eb l f pf nf room ∧ own c = i ∧ own mb = i ∧ (∀ b ∈ eb :: l, own b = i) ∧ L = l.map f

variable {w w' : World} {own own' : Nat → Nat} {i c mb eb s b p q j : Nat} {l : List Nat} {f : Nat → Rx} {pf nf : Nat → Option Nat} {room k now : Int} {L : List Rx} {I : Nat → Prop} {A : Nat → Addr}

theorem CaI.later {S : Nat → Prop} (h : CaI w c mb eb l f pf nf room) (hk : Keeps S w w') (h1 : ¬ S c) (h2 : ¬ S mb) (h3 : ∀ b ∈ eb :: l, ¬ S b) : CaI w' c mb eb l f pf nf room :=
  ⟨h.box.later hk h1, h.map.later hk h2, fun b hb => (h.sts b hb).later hk (h3 b hb), h.nodup, h.ring, h.ok⟩
theorem CaI.quiet (h : CaI w c mb eb l f pf nf room) (hk : Keeps Nowhere w w') : CaI w' c mb eb l f pf nf room := h.later hk (fun x => x) (fun x => x) (fun _ _ x => x)
theorem CaO.sn (h : CaO own i w c room L) (s : Sn I own w own' w') (hi : ¬ I i) : CaO own' i w' c room L := by
  obtain ⟨mb, eb, l, f, pf, nf, h, h1, h2, h3, e⟩ := h
  refine ⟨mb, eb, l, f, pf, nf, h.later s.keeps (fun x => hi (h1 ▸ x)) (fun x => hi (h2 ▸ x)) (fun b hb x => hi (h3 b hb ▸ x)), (s.agree _ h.box.lt).trans h1, (s.agree _ h.map.lt).trans h2, fun b hb => (s.agree _ (h.sts b hb).lt).trans (h3 b hb), e⟩
theorem CaO.quiet (h : CaO own i w c room L) (k : Keeps Nowhere w w') : CaO own i w' c room L := h.sn (I := fun _ => False) (Sn.same k) (fun x => x)
theorem CaO.lok (h : CaO own i w c room L) : LOk room L := by
  obtain ⟨mb, eb, l, f, pf, nf, h, _, _, _, rfl⟩ := h
  exact h.ok
theorem CaI.inj (h : CaI w c mb eb l f pf nf room) : ∀ b ∈ l, ∀ c ∈ l, (f b).k = (f c).k → b = c := inj_of_nodup h.ok.one
theorem CaI.kyOf (h : CaI w c mb eb l f pf nf room) (hb : b ∈ l) : Ky (f b).k := (h.ok.ok _ (List.mem_map.2 ⟨b, hb, rfl⟩)).k
theorem CaI.okOf (h : CaI w c mb eb l f pf nf room) (hb : b ∈ l) : (f b).Ok := h.ok.ok _ (List.mem_map.2 ⟨b, hb, rfl⟩)
theorem map_ne {n : Nat} {F : Int → Option Nat} {e : TypeId} {xs : List Value} (h : MapB w mb n F) (hc : Cells w b e xs) : mb ≠ b := by
  rintro rfl
  obtain ⟨es, c, h1⟩ := h.isMap
  rw [hc] at h1
  cases h1
theorem ne_box {xs ys : List Value} (h1 : Cells w c 82 xs) (h2 : Cells w b 79 ys) : c ≠ b := by
  rintro rfl
  have := h1.symm.trans h2
  simp at this
theorem CaI.box_ne (h : CaI w c mb eb l f pf nf room) : ∀ b ∈ eb :: l, c ≠ b := fun b hb => ne_box h.box (h.sts b hb)
theorem CaI.map_ne (h : CaI w c mb eb l f pf nf room) : ∀ b ∈ eb :: l, mb ≠ b := fun b hb => Lulnn.map_ne h.map (h.sts b hb)
theorem CaI.map_box (h : CaI w c mb eb l f pf nf room) : mb ≠ c := Lulnn.map_ne h.map h.box


/-- the deferred closure, where nothing has panicked -/
theorem catch_idle (w : World) : CallsD Tryd.prog 63 #[] .returning w fun e u' w' => e = .returned (.tuple #[]) ∧ u' = .returning ∧ w' = w := by
  refine callsD_of_wpS Tryd.func63 rfl fun c₀ cs hu => ?_
  apply wpS_region
  cases c₀
  simp_all [wpOpsS, go_sem, recoverD, Tryd.ntmps63, bodyPostS, results, Tryd.results63]
theorem find_ (h : CaI w c mb eb l f pf nf room) (hk : Ky k) :
    Calls Tryd.prog 39 #[ptr c, kv k] w fun e w' => e = .returned (.tuple #[vF (fk l (fun b => (f b).k) k), .bool true]) ∧ w' = w := by
  have c0 : w.cell? ⟨c, 2, none⟩ = some (.map (some mb)) := h.box.cell 2
  have hl := h.map.look hk
  
  go_enter_defers Tryd.func39, Tryd.ntmps39
  go_wp2
  refine leaves_cons (f := 63) (args := #[]) (by simp) (by simp [go_sem]) ?_
  refine (catch_idle _).mono ?_
  rintro e u' w'' ⟨rfl, rfl, rfl⟩
  simp [Leaves, settle, results, Tryd.results39, go_sem]
theorem find_nil (k : Int) (w : World) : Calls Tryd.prog 39 #[.pointer none, kv k] w fun e w' => e = .returned (.tuple #[.pointer none, .bool false]) ∧ w' = w := by
  go_enter_defers Tryd.func39, Tryd.ntmps39
  go_wp2
  simp [bodyPostD, Leaves, results, Tryd.results39, go_sem]
theorem len_ (h : CaI w c mb eb l f pf nf room) : Calls Tryd.prog 16 #[ptr c] w fun e w' => e = .returned (.int .i64 l.length) ∧ w' = w := by
  have c0 : w.cell? ⟨c, 2, none⟩ = some (.map (some mb)) := h.box.cell 2
  have hl := h.map.len 3
  go_enter Tryd.func16, Tryd.ntmps16
  go_wp2
  go_ret
  exact ⟨rfl, rfl⟩
theorem len_nil (w : World) : Calls Tryd.prog 16 #[.pointer none] w fun e w' => e = .returned (.int .i64 0) ∧ w' = w := by
  go_enter Tryd.func16, Tryd.ntmps16
  go_wp2
  go_ret
  exact ⟨rfl, rfl⟩
theorem weight_ (h : CaI w c mb eb l f pf nf room) : Calls Tryd.prog 17 #[ptr c] w fun e w' => e = .returned (.int .i64 (sumL (l.map f))) ∧ w' = w := by
  have c0 : w.cell? ⟨c, 1, none⟩ = some (.int .i64 (sumL (l.map f))) := h.box.cell 1
  go_enter Tryd.func17, Tryd.ntmps17
  go_wp2
  go_ret
  exact ⟨rfl, rfl⟩
theorem lweight_nil (w : World) : Calls Tryd.prog 17 #[.pointer none] w fun e w' => e = .returned (.int .i64 0) ∧ w' = w := by
  go_enter Tryd.func17, Tryd.ntmps17
  go_wp2
  go_ret
  exact ⟨rfl, rfl⟩
theorem tooOld_ {x : Rx} {a1 a2 : Value} (h : Cells w b 79 (tc x a1 a2)) (now : Int) : Calls Tryd.prog 40 #[ptr b, .int .i64 now] w fun e w' => e = .returned (.bool (!decide (now < x.u))) ∧ w' = w := by
  have c0 : w.cell? ⟨b, 3, none⟩ = some (.int .i64 x.u) := h.cell 3
  by_cases hlt : now < x.u
  · have h1 : ¬ x.u ≤ now := by omega
    have h2 : (!decide (now < x.u)) = false := by simp [hlt]
    rw [h2]
    go_enter Tryd.func40, Tryd.ntmps40
    go_wp2
    go_ret
    exact ⟨rfl, rfl⟩
  · have h1 : x.u ≤ now := by omega
    have h2 : (!decide (now < x.u)) = true := by simp [hlt]
    rw [h2]
    go_enter Tryd.func40, Tryd.ntmps40
    go_wp2
    go_ret
    exact ⟨rfl, rfl⟩
theorem new_bad (hr : room < 0) {er : Value} (hc : w.cell? ⟨0, 0, none⟩ = some er) : Calls Tryd.prog 6 #[.int .i64 room] w fun e w' => e = .returned (.tuple #[.pointer none, er]) ∧ Aside (Keeps Nowhere w w') := by
  go_enter Tryd.func6, Tryd.ntmps6
  go_wp2_with fail
  go_region_held_law (fun w' => w'.cell? ⟨0, 0, none⟩ = some er) (exact hc) (fail)
  go_wp2
  go_ret2
  exact ⟨rfl, ⟨(Keeps.refl _ _).drew⟩⟩
theorem new_ (w : World) (h0 : 0 ≤ room) (hr : room ≤ 9223372036854775807) : Calls Tryd.prog 6 #[.int .i64 room] w fun e w' => ∃ c mb eb, e = .returned (.tuple #[ptr c, .nilIface]) ∧ Aside (w.heap.size ≤ c ∧ w.heap.size ≤ mb ∧ w.heap.size ≤ eb ∧ Keeps Nowhere w w' ∧ CaI w' c mb eb [] (fun _ => default) (fun _ => some eb) (fun _ => some eb) room) := by
  have hm : ∀ w, (Instr.makeMap 80 none).run Tryd.prog w = .ok (.map (some w.heap.size)) (w.alloc (.map #[] 0)) := fun w => by kernel_rfl
  have n0 : ¬ room < 0 := by omega
  go_enter Tryd.func6, Tryd.ntmps6
  go_wp2
  go_ret2
  refine ⟨w.heap.size + 1 + 1, rfl, w.heap.size + 1, w.heap.size, ⟨?_, ?_, ?_, ?_, ?_⟩⟩
  · have : w.heap.size ≤ w.heap.size + 1 + 1 := by omega
    exact this
  · have : w.heap.size ≤ w.heap.size + 1 := by omega
    exact this
  · exact Nat.le_refl _
  · exact (((Keeps.refl _ _).alloc _).alloc _).alloc _
  · have C1 := Cells.new w 79 [.int .i64 0, .int .i64 0, .int .i64 0, .int .i64 0, .pointer (some ⟨w.heap.size, 0, none⟩), .pointer (some ⟨w.heap.size, 0, none⟩)]
    have K2 : Keeps Nowhere _ _ := (Keeps.refl Nowhere (w.alloc (.cells #[.int .i64 0, .int .i64 0, .int .i64 0, .int .i64 0, .pointer (some ⟨w.heap.size, 0, none⟩), .pointer (some ⟨w.heap.size, 0, none⟩)] 79))).alloc (.map #[] 0)
    have M2 := MapB.made (w.alloc (.cells #[.int .i64 0, .int .i64 0, .int .i64 0, .int .i64 0, .pointer (some ⟨w.heap.size, 0, none⟩), .pointer (some ⟨w.heap.size, 0, none⟩)] 79))
    have C3 := Cells.new ((w.alloc (.cells #[.int .i64 0, .int .i64 0, .int .i64 0, .int .i64 0, .pointer (some ⟨w.heap.size, 0, none⟩), .pointer (some ⟨w.heap.size, 0, none⟩)] 79)).alloc (.map #[] 0)) 82 [.int .i64 room, .int .i64 0, .map (some (w.heap.size + 1)), .pointer (some ⟨w.heap.size, 0, none⟩)]
    rw [World.size_alloc] at M2
    rw [World.size_alloc, World.size_alloc] at C3
    refine ⟨C3, M2.later ((Keeps.refl Nowhere _).alloc _) (fun x => x), fun b hb => ?_, by simp, ?_, ⟨h0, hr, fun _ h => by simp at h, List.nodup_nil, h0⟩⟩
    · rw [List.mem_singleton.1 hb]
      exact (C1.later K2 (fun x => x)).later ((Keeps.refl Nowhere _).alloc _) (fun x => x)
    · intro j b hj
      have := lt_of_some hj
      simp only [List.length_singleton] at this
      obtain rfl : j = 0 := by omega
      exact ⟨rfl, rfl⟩
end Go.Proofs.YthjeeianlgkaaaaDoor.Lulnn
