/-
  package robin at keys of type string: a Robin in memory; find, Len, Has, New
-/
import Derived.Test.YtekokdfajbajoaaDoorRbMstring
import Derived.Test.YtekokdfajbajoaaDoorChecked
import Derived.Defers
import Derived.Recover
import Derived.BigQuiet
import Derived.Deep.Cut
import Derived.Deep.RegionHeld3
import Derived.Deep.RegionHeldLaw
import Derived.Deep.DeepCutAuto
namespace Go.Proofs.YtekokdfajbajoaaDoor.Rbstring
open Go.RowKit

structure RbI (w : World) (r mb : Nat) (l : List Nat) (kf : Nat → (List UInt8)) (pf nf : Nat → Option Nat) : Prop where
  box : Cells w r 65 [.map (some mb), vF l[0]?]
  map : MapB w mb l.length (fk l kf)
  seats : ∀ b ∈ l, Cells w b 69 [kv (kf b), vF (pf b), vF (nf b)]
  nodup : l.Nodup
  keys : ∀ b ∈ l, ∀ c ∈ l, kf b = kf c → b = c
  ky : ∀ b ∈ l, Ky (kf b)
  ring : Rg l pf nf
/-- a Robin by its owner: its box, its table, its seats -/
def RbO (own : Nat → Nat) (i : Nat) (w : World) (r : Nat) (ks : List (List UInt8)) : Prop :=
  ∃ mb l kf pf nf, RbI w r mb l kf pf nf ∧ own r = i ∧ own mb = i ∧ (∀ b ∈ l, own b = i) ∧ ks = l.map kf

variable {w w' : World} {own own' : Nat → Nat} {i r mb : Nat} {l : List Nat} {kf : Nat → (List UInt8)} {pf nf : Nat → Option Nat} {k : (List UInt8)} {ks : List (List UInt8)} {I : Nat → Prop}

theorem RbI.later {S : Nat → Prop} (h : RbI w r mb l kf pf nf) (hk : Keeps S w w') (h1 : ¬ S r) (h2 : ¬ S mb) (h3 : ∀ b ∈ l, ¬ S b) : RbI w' r mb l kf pf nf :=
  ⟨h.box.later hk h1, h.map.later hk h2, fun b hb => (h.seats b hb).later hk (h3 b hb), h.nodup, h.keys, h.ky, h.ring⟩
theorem RbO.sn (h : RbO own i w r ks) (s : Sn I own w own' w') (hi : ¬ I i) : RbO own' i w' r ks := by
  obtain ⟨mb, l, kf, pf, nf, h, h1, h2, h3, e⟩ := h
  refine ⟨mb, l, kf, pf, nf, h.later s.keeps (fun x => hi (h1 ▸ x)) (fun x => hi (h2 ▸ x)) (fun b hb x => hi (h3 b hb ▸ x)), (s.agree _ h.box.lt).trans h1, (s.agree _ h.map.lt).trans h2, fun b hb => (s.agree _ (h.seats b hb).lt).trans (h3 b hb), e⟩
theorem RbO.quiet (h : RbO own i w r ks) (k : Keeps Nowhere w w') : RbO own i w' r ks := h.sn (I := fun _ => False) (Sn.same k) (fun x => x)
theorem fk_mem (k : (List UInt8)) : (fk l kf k).isSome = inT (l.map kf) k := by
  cases e : fk l kf k with
  | none => exact (inT_false (fk_none e)).symm
  | some b => obtain ⟨hb, e'⟩ := fk_some e; exact (inT_true (List.mem_map.2 ⟨b, hb, e'⟩)).symm

/-- the deferred closure, where nothing has panicked -/
theorem catch_idle (w : World) : CallsD Tryd.prog 31 #[] .returning w fun e u' w' => e = .returned (.tuple #[]) ∧ u' = .returning ∧ w' = w := by
  refine callsD_of_wpS Tryd.func31 rfl fun c₀ cs hu => ?_
  apply wpS_region
  cases c₀
  simp_all [wpOpsS, go_sem, recoverD, Tryd.ntmps31, bodyPostS, results, Tryd.results31]
theorem find_ (h : RbI w r mb l kf pf nf) (hk : Ky k) :
    Calls Tryd.prog 27 #[ptr r, kv k] w fun e w' => e = .returned (.tuple #[vF (fk l kf k), .bool true]) ∧ w' = w := by
  have c0 : w.cell? ⟨r, 0, none⟩ = some (.map (some mb)) := h.box.cell 0
  have hl := h.map.look hk
  go_enter_defers Tryd.func27, Tryd.ntmps27
  go_wp2
  refine leaves_cons (f := 31) (args := #[]) (by simp) (by simp [go_sem]) ?_
  refine (catch_idle _).mono ?_
  rintro e u' w'' ⟨rfl, rfl, rfl⟩
  simp [Leaves, settle, results, Tryd.results27, go_sem]
theorem find_nil (k : (List UInt8)) (w : World) : Calls Tryd.prog 27 #[.pointer none, kv k] w fun e w' => e = .returned (.tuple #[.pointer none, .bool false]) ∧ w' = w := by
  go_enter_defers Tryd.func27, Tryd.ntmps27
  go_wp2
  simp [bodyPostD, Leaves, results, Tryd.results27, go_sem]
theorem len_ (h : RbI w r mb l kf pf nf) : Calls Tryd.prog 19 #[ptr r] w fun e w' => e = .returned (.int .i64 l.length) ∧ w' = w := by
  have c0 : w.cell? ⟨r, 0, none⟩ = some (.map (some mb)) := h.box.cell 0
  have hl := h.map.len 3
  go_enter Tryd.func19, Tryd.ntmps19
  go_wp2
  go_ret
  exact ⟨rfl, rfl⟩
theorem len_nil (w : World) : Calls Tryd.prog 19 #[.pointer none] w fun e w' => e = .returned (.int .i64 0) ∧ w' = w := by
  go_enter Tryd.func19, Tryd.ntmps19
  go_wp2
  go_ret
  exact ⟨rfl, rfl⟩
theorem has_ (h : RbI w r mb l kf pf nf) (hk : Ky k) : Calls Tryd.prog 20 #[ptr r, kv k] w fun e w' => e = .returned (.bool (inT (l.map kf) k)) ∧ w' = w := by
  have hf := find_ h hk
  have hm := fk_mem (l := l) (kf := kf) k
  go_enter Tryd.func20, Tryd.ntmps20
  go_upto_region 2 with (first | (go_at_call 27; refine hf.mono ?_; rintro e w' ⟨rfl, rfl⟩) | fail)
  cases e : fk l kf k with
  | none =>
    rw [e] at hm
    simp only [vF]
    go_wp2
    go_ret
    exact ⟨by rw [← hm]; rfl, rfl⟩
  | some b =>
    rw [e] at hm
    simp only [vF]
    go_wp2
    go_ret
    exact ⟨by rw [← hm]; rfl, rfl⟩
theorem has_nil (k : (List UInt8)) (w : World) : Calls Tryd.prog 20 #[.pointer none, kv k] w fun e w' => e = .returned (.bool false) ∧ w' = w := by
  have hf := find_nil k w
  go_enter Tryd.func20, Tryd.ntmps20
  go_upto_region 2 with (first | (go_at_call 27; refine hf.mono ?_; rintro e w' ⟨rfl, rfl⟩) | fail)
  go_wp2
  go_ret
  exact ⟨rfl, rfl⟩
theorem new_ (w : World) : Calls Tryd.prog 15 #[] w fun e w' => e = .returned (ptr (w.heap.size + 1)) ∧ w' = (w.alloc (.map #[] 0)).alloc (.cells #[.map (some w.heap.size), .pointer none] 65) := by
  have hm : (Instr.makeMap 62 none).run Tryd.prog w = .ok (.map (some w.heap.size)) (w.alloc (.map #[] 0)) := by kernel_rfl
  go_enter Tryd.func15, Tryd.ntmps15
  go_wp2
  go_ret
  exact ⟨rfl, rfl⟩
theorem new_at (w : World) : RbI ((w.alloc (.map #[] 0)).alloc (.cells #[.map (some w.heap.size), .pointer none] 65)) (w.heap.size + 1) w.heap.size [] (fun _ => []) (fun _ => none) (fun _ => none) := by
  refine ⟨?_, ?_, fun _ h => by simp at h, List.nodup_nil, fun _ h => by simp at h, fun _ h => by simp at h, Rg.nil⟩
  · have h := Cells.new (w.alloc (.map #[] 0)) 65 [.map (some w.heap.size), .pointer none]
    rw [World.size_alloc] at h
    exact h
  · exact (MapB.made w).later (S := Nowhere) ((Keeps.refl _ _).alloc _) (fun x => x)
theorem newO (own : Nat → Nat) (i : Nat) (w : World) : Calls Tryd.prog 15 #[] w fun e w' => ∃ r, e = .returned (ptr r) ∧ Aside (Keeps Nowhere w w' ∧ RbO (give own w.heap.size i) i w' r []) := by
  refine (new_ w).mono ?_
  rintro e w' ⟨rfl, rfl⟩
  exact ⟨_, rfl, ⟨((Keeps.refl _ _).alloc _).alloc _, _, _, _, _, _, new_at w, give_new (by omega), give_new (by omega), fun _ h => by simp at h, rfl⟩⟩
end Go.Proofs.YtekokdfajbajoaaDoor.Rbstring
