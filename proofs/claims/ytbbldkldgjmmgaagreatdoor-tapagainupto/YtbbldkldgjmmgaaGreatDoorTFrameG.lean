/-
  package frame: Decode; the document's Decode.
-/
import Derived.Test.YtbbldkldgjmmgaaGreatDoorTFrameC
import Derived.Test.YtbbldkldgjmmgaaGreatDoorFe2
namespace Go.Proofs.YtbbldkldgjmmgaaGreatDoor
open Go.RowKit

/-- what twelve bytes are read as -/
def dF (ns : List Int) : Int := if ns.length < 12 then 0 else gX 2 (ns.drop 2)
def dS (ns : List Int) : Int := if ns.length < 12 then 0 else gX 4 (ns.drop 4)
def dL (ns : List Int) : Int := if ns.length < 12 then 0 else gX 4 (ns.drop 8)
def dV (ns : List Int) : Int := if ns.length < 12 then 0 else ns.getD 0 0
def dT (ns : List Int) : Int := if ns.length < 12 then 0 else ns.getD 1 0
def dE (ns : List Int) : Int := if ns.length < 12 then 3 else 0
abbrev dHdr (ns : List Int) : Value := hdr (dV ns) (dT ns) (dF ns) (dS ns) (dL ns)

theorem AreBytes.drop {ns : List Int} (h : AreBytes ns) (k : Nat) : AreBytes (ns.drop k) := fun n hn => h n (List.mem_of_mem_drop hn)
theorem Rd.atF {w : World} {v : Value} {ns : List Int} (h : Rd w v ns) (hp : 0 < ns.length) : ∃ b o c, v = .slice (some ⟨b, o, none⟩) ns.length c ∧ ns.length ≤ c ∧ ∀ i, i < ns.length → w.cell? ⟨b, o + i, none⟩ = some (.int .u8 (ns.getD i 0)) := by
  obtain ⟨a, c, rfl⟩ := h.shape
  have hl := h.1.len
  rw [bv_length] at hl
  obtain ⟨b, o, rfl, hc⟩ := h.holds.at hp
  exact ⟨b, o, c, rfl, hl.2, hc⟩
theorem get16_q (b o : Nat) (len cap : Nat) (w : World) (n0 n1 : Int) (h : 2 ≤ len)
    (c0 : w.cell? ⟨b, o, none⟩ = some (.int .u8 n0)) (c1 : w.cell? ⟨b, o + 1, none⟩ = some (.int .u8 n1)) (b0 : 0 ≤ n0) (b0' : n0 ≤ 255) (b1 : 0 ≤ n1) (b1' : n1 ≤ 255) :
    Calls Tryz.prog 100 #[.slice (some ⟨b, o, none⟩) len cap] w fun e w' => e = .returned (.tuple #[.int .u16 (n0 * 256 + n1), .nilIface]) ∧ ∃ n, w' = w.drewN n := by
  have h' : ¬ (len : Int) < 2 := by omega
  have l0 : (0 : Int) < (len : Int) := by omega
  have l1 : (1 : Int) < (len : Int) := by omega
  go_enter Tryz.func100, Tryz.ntmps100
  go_wp2
  go_quiet (fail)
  go_wp2
  go_ret2
  exact ⟨ret2_int (or16 n0 n1 b0 b0' b1 b1'), _, rfl⟩
theorem get32_q (b o : Nat) (len cap : Nat) (w : World) (n0 n1 n2 n3 : Int) (h : 4 ≤ len)
    (c0 : w.cell? ⟨b, o, none⟩ = some (.int .u8 n0)) (c1 : w.cell? ⟨b, o + 1, none⟩ = some (.int .u8 n1)) (c2 : w.cell? ⟨b, o + 2, none⟩ = some (.int .u8 n2)) (c3 : w.cell? ⟨b, o + 3, none⟩ = some (.int .u8 n3))
    (b0 : 0 ≤ n0) (b0' : n0 ≤ 255) (b1 : 0 ≤ n1) (b1' : n1 ≤ 255) (b2 : 0 ≤ n2) (b2' : n2 ≤ 255) (b3 : 0 ≤ n3) (b3' : n3 ≤ 255) :
    Calls Tryz.prog 101 #[.slice (some ⟨b, o, none⟩) len cap] w fun e w' => e = .returned (.tuple #[.int .u32 (((n0 * 256 + n1) * 256 + n2) * 256 + n3), .nilIface]) ∧ ∃ n, w' = w.drewN n := by
  have h' : ¬ (len : Int) < 4 := by omega
  have l0 : (0 : Int) < (len : Int) := by omega
  have l1 : (1 : Int) < (len : Int) := by omega
  have l2 : (2 : Int) < (len : Int) := by omega
  have l3 : (3 : Int) < (len : Int) := by omega
  go_enter Tryz.func101, Tryz.ntmps101
  go_wp2
  go_quiet (fail)
  go_wp2
  go_ret2
  exact ⟨ret2_int (or32 n0 n1 n2 n3 b0 b0' b1 b1' b2 b2' b3 b3'), _, rfl⟩
theorem alloc_drewNg (w : World) (n : Nat) (o : Obj) : (w.drewN n).alloc o = (w.alloc o).drewN n := rfl
theorem setCell_drewNg (w : World) (n : Nat) (a : Addr) (v : Value) : (w.drewN n).setCell a v = (w.setCell a v).drewN n := by
  unfold World.setCell World.drewN
  dsimp only
attribute [local go_sem] alloc_drewNg setCell_drewNg

theorem getD_drop (ns : List Int) (k i : Nat) : (ns.drop k).getD i 0 = ns.getD (k + i) 0 := by simp [List.getD, List.getElem?_drop]
theorem dF_eq (ns : List Int) (h : 12 ≤ ns.length) : dF ns = ns.getD 2 0 * 256 + ns.getD 3 0 := by
  unfold dF
  rw [if_neg (by omega), two_of _ (by simp; omega), getD_drop, getD_drop]
theorem dS_eq (ns : List Int) (h : 12 ≤ ns.length) : dS ns = ((ns.getD 4 0 * 256 + ns.getD 5 0) * 256 + ns.getD 6 0) * 256 + ns.getD 7 0 := by
  unfold dS
  rw [if_neg (by omega), four_of _ (by simp; omega), getD_drop, getD_drop, getD_drop, getD_drop]
theorem dL_eq (ns : List Int) (h : 12 ≤ ns.length) : dL ns = ((ns.getD 8 0 * 256 + ns.getD 9 0) * 256 + ns.getD 10 0) * 256 + ns.getD 11 0 := by
  unfold dL
  rw [if_neg (by omega), four_of _ (by simp; omega), getD_drop, getD_drop, getD_drop, getD_drop]
theorem dF_bounds {ns : List Int} (hb : AreBytes ns) : 0 ≤ dF ns ∧ dF ns ≤ 65535 := by
  unfold dF
  split
  · omega
  · exact gX2_bounds (hb.drop 2)
theorem dS_bounds {ns : List Int} (hb : AreBytes ns) : 0 ≤ dS ns ∧ dS ns ≤ 4294967295 := by
  unfold dS
  split
  · omega
  · exact gX4_bounds (hb.drop 4)
theorem dL_bounds {ns : List Int} (hb : AreBytes ns) : 0 ≤ dL ns ∧ dL ns ≤ 4294967295 := by
  unfold dL
  split
  · omega
  · exact gX4_bounds (hb.drop 8)
set_option maxHeartbeats 2000000 in
theorem decode_short {A : Nat → Addr} (v : Value) (ns : List Int) (w : World) (hs : SentO A w) (hr : Rd w v ns) (h : ns.length < 12) :
    Calls Tryz.prog 74 #[v] w fun e w' => e = .returned (.tuple #[hdr 0 0 0 0 0, .iface 204 (.pointer (some (A 2)))]) ∧ Below w.heap.size w w' := by
  obtain ⟨p, c, rfl⟩ := hr.shape
  have hc := fun o => cell_alloc o (hs.cell 2 14 rfl)
  have h' : (ns.length : Int) < 12 := by omega
  clear hs hr
  go_enter Tryz.func74, Tryz.ntmps74
  go_wp2_with fail
  go_region
  go_wp2_with fail
  refine bodyPost_ret (v := .tuple #[hdr 0 0 0 0 0, .iface 204 (.pointer (some (A 2)))]) (by simp [results, Tryz.results74, go_sem]) rfl ?_
  exact ⟨rfl, (alloc_below _ _).drew⟩
/-- the result's block, of zeros -/
abbrev hzero : Obj := hbox 0 0 0 0 0
set_option maxHeartbeats 4000000 in
theorem decode_walk (b o c : Nat) (ns : List Int) (w : World) (h : 12 ≤ ns.length) (hlc : ns.length ≤ c) (hb : AreBytes ns) (hcell : ∀ i, i < ns.length → w.cell? ⟨b, o + i, none⟩ = some (.int .u8 (ns.getD i 0))) :
    Calls Tryz.prog 74 #[.slice (some ⟨b, o, none⟩) ns.length c] w fun e w' => e = .returned (.tuple #[dHdr ns, .nilIface]) ∧ Below w.heap.size w w' := by
  have h' : ¬ (ns.length : Int) < 12 := by omega
  have c0 : ∀ ob, (w.alloc ob).cell? ⟨b, o, none⟩ = some (.int .u8 (ns.getD 0 0)) := fun ob => cell_alloc ob (hcell 0 (by omega))
  have c1 := fun ob => cell_alloc ob (hcell 1 (by omega))
  have e2 : ¬ c = 2 := by omega
  have e4 : ¬ c = 4 := by omega
  have e8 : ¬ c = 8 := by omega
  have l0 : (0 : Int) < (ns.length : Int) := by omega
  have l1 : (1 : Int) < (ns.length : Int) := by omega
  have l2 : 2 ≤ ns.length := by omega
  have l4 : 4 ≤ ns.length := by omega
  have l8 : 8 ≤ ns.length := by omega
  have hA : ∀ i, i < ns.length → (w.alloc hzero).cell? ⟨b, o + i, none⟩ = some (.int .u8 (ns.getD i 0)) := fun i hi => cell_alloc _ (hcell i hi)
  have nb := fun i => getD_byte hb i
  have hN : ∀ n i, i < ns.length → ((w.alloc hzero).drewN n).cell? ⟨b, o + i, none⟩ = some (.int .u8 (ns.getD i 0)) := fun n i hi => (World.cell?_drewN ..).trans (hA i hi)
  have G16 : Calls Tryz.prog 100 #[.slice (some ⟨b, o + 2, none⟩) (ns.length - 2) (c - 2)] (w.alloc hzero) fun e w' => e = .returned (.tuple #[.int .u16 (dF ns), .nilIface]) ∧ ∃ n, w' = (w.alloc hzero).drewN n := by
    rw [dF_eq ns h]
    exact get16_q b (o + 2) _ _ _ _ _ (by omega) (hA 2 (by omega)) (hA 3 (by omega)) (nb 2).1 (nb 2).2 (nb 3).1 (nb 3).2
  have G32 : ∀ n, Calls Tryz.prog 101 #[.slice (some ⟨b, o + 4, none⟩) (ns.length - 4) (c - 4)] ((w.alloc hzero).drewN n) fun e w' => e = .returned (.tuple #[.int .u32 (dS ns), .nilIface]) ∧ ∃ n, w' = (w.alloc hzero).drewN n := fun n => by
    rw [dS_eq ns h]
    refine (get32_q b (o + 4) _ _ _ _ _ _ _ (by omega) (hN n 4 (by omega)) (hN n 5 (by omega)) (hN n 6 (by omega)) (hN n 7 (by omega)) (nb 4).1 (nb 4).2 (nb 5).1 (nb 5).2 (nb 6).1 (nb 6).2 (nb 7).1 (nb 7).2).mono ?_
    rintro e w' ⟨rfl, m, rfl⟩
    exact ⟨rfl, _, World.drewN_drewN ..⟩
  have G33 : ∀ n, Calls Tryz.prog 101 #[.slice (some ⟨b, o + 8, none⟩) (ns.length - 8) (c - 8)] ((w.alloc hzero).drewN n) fun e w' => e = .returned (.tuple #[.int .u32 (dL ns), .nilIface]) ∧ ∃ n, w' = (w.alloc hzero).drewN n := fun n => by
    rw [dL_eq ns h]
    refine (get32_q b (o + 8) _ _ _ _ _ _ _ (by omega) (hN n 8 (by omega)) (hN n 9 (by omega)) (hN n 10 (by omega)) (hN n 11 (by omega)) (nb 8).1 (nb 8).2 (nb 9).1 (nb 9).2 (nb 10).1 (nb 10).2 (nb 11).1 (nb 11).2).mono ?_
    rintro e w' ⟨rfl, m, rfl⟩
    exact ⟨rfl, _, World.drewN_drewN ..⟩
  have hV : Aside (dV ns = ns.getD 0 0) := ⟨by unfold dV; rw [if_neg (by omega)]⟩
  have hT : Aside (dT ns = ns.getD 1 0) := ⟨by unfold dT; rw [if_neg (by omega)]⟩
  clear hcell hA hN nb
  generalize hF : dF ns = xf at *
  generalize hS : dS ns = xs at *
  generalize hL : dL ns = xl at *
  generalize ns.getD 0 0 = x0 at *
  generalize ns.getD 1 0 = x1 at *
  have hF := Aside.mk hF
  have hS := Aside.mk hS
  have hL := Aside.mk hL
  go_enter Tryz.func74, Tryz.ntmps74
  go_wp2_with (first
    | (go_at_call 100; refine G16.mono ?_; rintro e w1 ⟨rfl, n1, rfl⟩)
    | (go_at_call 101; refine (G32 _).mono ?_; rintro e w1 ⟨rfl, n2, rfl⟩; clear G32)
    | (go_at_call 101; refine (G33 _).mono ?_; rintro e w1 ⟨rfl, n3, rfl⟩))
  go_region
  go_wp2_with fail
  refine bodyPost_ret (v := .tuple #[hdr x0 x1 xf xs xl, .nilIface]) (by simp [results, Tryz.results74, go_sem]) rfl ?_
  refine ⟨?_, below_drewN (alloc_below _ _) _⟩
  show _ = Ending.returned (.tuple #[hdr (dV ns) (dT ns) (dF ns) (dS ns) (dL ns), .nilIface])
  rw [hV.it, hT.it, hF.it, hS.it, hL.it]
theorem decode_any {A : Nat → Addr} (v : Value) (ns : List Int) (w : World) (hs : SentO A w) (hr : Rd w v ns) (hb : AreBytes ns) :
    Calls Tryz.prog 74 #[v] w fun e w' => ∃ ev, e = .returned (.tuple #[dHdr ns, ev]) ∧ Aside (Coded A ev (dE ns)) ∧ Below w.heap.size w w' := by
  by_cases h : ns.length < 12
  · refine (decode_short v ns w hs hr h).mono ?_
    rintro e w' ⟨rfl, hbe⟩
    refine ⟨_, ?_, ⟨Coded.mk 2 _ (by decide) (by decide) (by simp [dE, h])⟩, hbe⟩
    simp [dHdr, dV, dT, dF, dS, dL, h]
  · obtain ⟨b, o, c, rfl, hlc, hc⟩ := hr.atF (by omega)
    refine (decode_walk b o c ns w (by omega) hlc hb hc).mono ?_
    rintro e w' ⟨rfl, hbe⟩
    exact ⟨_, rfl, ⟨by simp only [dE, if_neg h]; exact Coded.none⟩, hbe⟩

end Go.Proofs.YtbbldkldgjmmgaaGreatDoor
