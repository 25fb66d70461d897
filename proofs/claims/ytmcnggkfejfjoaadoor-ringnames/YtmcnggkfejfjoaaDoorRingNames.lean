/-
  RingNames: the walk
-/
import Derived.Test.YtmcnggkfejfjoaaDoorRingFbyte
import Derived.Test.YtmcnggkfejfjoaaDoorOwn2
import Derived.Test.YtmcnggkfejfjoaaDoorCode
import Derived.Lib.SlBytesConst
namespace Go.Proofs.YtmcnggkfejfjoaaDoor
open Go.RowKit


set_option maxHeartbeats 2000000 in
set_option maxRecDepth 100000 in
theorem ringNames_walk {A : Nat → Addr} (w : World) (hs : Sents 127 codeVars A w) :
    Calls Tryd.prog 3 #[] w fun e w' => e = .returned (.bool true) ∧ Below w.heap.size w w' := by
  have er := hs.cell 1 0 rfl
  have HS := hide hs
  clear hs
  go_enter Tryd.func3, Tryd.ntmps3
  go_wp2_with fail
  refine (Rbyte.new_bad w (-1) _ er (by decide)).mono ?_
  rintro e w1 ⟨rfl, k1⟩
  have s1 := HS.out.later k1.bel
  have er1 := s1.cell 1 0 rfl
  have S1 := hide s1
  have K1 := hide k1
  clear s1 k1 er HS
  go_wp2_with fail
  refine (Rbyte.new_bad w1 2147483648 _ er1 (by decide)).mono ?_
  rintro e w2 ⟨rfl, k2⟩
  have S2 := hide (S1.out.later k2.bel)
  have K2 := hide (K1.out.trans k2)
  clear k2 er1 S1 K1
  go_wp2_with fail
  refine (Rbyte.new_good w2 2147483647 (by decide)).mono ?_
  rintro e w3 ⟨rfl, r3, k3⟩
  have S3 := hide (S2.out.later k3.bel)
  have K3 := hide (K2.out.trans k3)
  have R3 : Aside _ := ⟨r3⟩
  obtain ⟨pc, hpc⟩ : ∃ pc, pc = w2.heap.size := ⟨_, rfl⟩
  rw [← hpc] at R3 ⊢
  have hw3 : w.heap.size ≤ pc := by rw [hpc]; exact K2.out.size
  clear r3 k3 hpc S2 K2
  go_wp2_with fail
  refine (Rbyte.new_good w3 0 (by decide)).mono ?_
  rintro e w4 ⟨rfl, r4, k4⟩
  have S4 := hide (S3.out.later k4.bel)
  have K4 := hide (K3.out.trans k4)
  have R4 : Aside _ := ⟨r4⟩
  have RC : Aside _ := ⟨R3.it.later k4 (fun _ _ _ x => x)⟩
  obtain ⟨pd, hpd⟩ : ∃ pd, pd = w3.heap.size := ⟨_, rfl⟩
  rw [← hpd] at R4 ⊢
  have hpcd : Hid (∀ k, (k = pc ∧ k < w3.heap.size) → ¬ k = pd) := fun k h e => by omega
  have hw4 : w.heap.size ≤ pd := by rw [hpd]; exact K3.out.size
  clear r4 k4 hpd S3 K3 R3
  go_wp2_with fail
  refine (code_of S4.out (Coded.mk 1 2 (by decide) (by decide) (by decide))).mono ?_
  rintro e w4' ⟨rfl, rfl⟩
  go_wp2_with fail
  refine (code_of S4.out (Coded.mk 1 2 (by decide) (by decide) (by decide))).mono ?_
  rintro e w4'' ⟨rfl, rfl⟩
  clear S4
  go_wp2_with fail
  have F := Rbyte.freeV RC.it
  rw [show ((2147483647 : Nat) : Int) - (([] : List Value).length : Int) = 2147483647 from rfl] at F
  refine F.mono ?_
  clear F
  rintro e w5 ⟨rfl, rfl⟩
  have kc := Lib.run_convert_bytes_const (P := Tryd.prog) w5 30 5 #[.int .u8 97] 1 1 Tryd.underlying30 Tryd.underlying5
  go_wp2_with fail
  clear kc
  obtain ⟨W1, hW1⟩ : ∃ W1, W1 = w5.alloc (.cells #[.int .u8 97] 5 (1, 2)) := ⟨_, rfl⟩
  rw [← hW1]
  have ka : Keeps Nowhere w5 W1 := by rw [hW1]; exact (Keeps.refl _ _).alloc _
  have ra : ∀ S : Nat → Prop, ¬ S w5.heap.size → ReadsOff S W1 (.slice (some ⟨w5.heap.size, 0, none⟩) 1 1) [.int .u8 97] := by rw [hW1]; exact fun S hS => reads_mark S w5 5 [.int .u8 97] (1, 2) hS
  have hpc5 := RC.it.later ka (fun _ _ _ x => x)
  have hpd5 := R4.it.later ka (fun _ _ _ x => x)
  refine (Rbyte.pushV hpc5 _ [.int .u8 97] (ra _ ?_) (by decide) (by simp; rfl)).mono ?_
  · rintro ⟨_, h⟩
    omega
  rintro e w6 ⟨rfl, r6, k6⟩
  have K6 : Hid (Below w.heap.size w w6) := below_next (K4.out.trans ka).bel k6 (K4.out.trans ka).size (fun k hk _ => by have := hk.1.1; omega)
  have RC6 : Aside _ := ⟨r6⟩
  have RD6 : Aside _ := ⟨hpd5.later k6 (fun k hk _ hx => hpcd.out k hx.1 hk.1)⟩
  clear ka ra hpc5 hpd5 hW1 r6 k6 RC R4 K4
  go_wp2_with fail
  have F := Rbyte.freeV RC6.it
  rw [show ((2147483647 : Nat) : Int) - ((([] : List Value) ++ [Value.int .u8 97].take (2147483647 - ([] : List Value).length)).length : Int) = 2147483646 from rfl] at F
  refine F.mono ?_
  clear F
  rintro e w7 ⟨rfl, rfl⟩
  have kc := Lib.run_convert_bytes_const (P := Tryd.prog) w7 30 5 #[.int .u8 97] 1 1 Tryd.underlying30 Tryd.underlying5
  go_wp2_with fail
  clear kc
  obtain ⟨W2, hW2⟩ : ∃ W2, W2 = w7.alloc (.cells #[.int .u8 97] 5 (1, 2)) := ⟨_, rfl⟩
  rw [← hW2]
  have ka : Keeps Nowhere w7 W2 := by rw [hW2]; exact (Keeps.refl _ _).alloc _
  have ra : ∀ S : Nat → Prop, ¬ S w7.heap.size → ReadsOff S W2 (.slice (some ⟨w7.heap.size, 0, none⟩) 1 1) [.int .u8 97] := by rw [hW2]; exact fun S hS => reads_mark S w7 5 [.int .u8 97] (1, 2) hS
  have hpd7 := RD6.it.later ka (fun _ _ _ x => x)
  refine (Rbyte.pushV hpd7 _ [.int .u8 97] (ra _ ?_) (by decide) (by simp; rfl)).mono ?_
  · rintro ⟨_, h⟩
    omega
  rintro e w8 ⟨rfl, r8, k8⟩
  have K8 : Hid (Below w.heap.size w w8) := below_next (K6.out.trans (ka.bel.mono K6.out.size)) k8 (Nat.le_trans K6.out.size ka.size) (fun k hk _ => by have := hk.1.1.1; omega)
  have RD8 : Aside _ := ⟨r8⟩
  clear ka ra hpd7 hW2 r8 k8 RC6 RD6 K6
  go_wp2_with fail
  refine (Rbyte.capV RD8.it).mono ?_
  rintro e w9 ⟨rfl, rfl⟩
  go_wp2
  go_ret
  exact ⟨rfl, K8.out⟩
end Go.Proofs.YtmcnggkfejfjoaaDoor
