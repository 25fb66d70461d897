/-
  culvertlaw24.bytes
-/
import Derived.Test.YtambdgcogldbgaaDoorTrI
namespace Go.Proofs.YtambdgcogldbgaaDoor
open Go.RowKit Go.Maps

variable {own own' : Nat → Nat} {i p T mb B : Nat} {w w' w1 W : World} {L : Hs} {I : Nat → Prop} {k : Int} {b : Nat} {v : Value} {r : Rc} {A : Nat → Addr}

/-- the bytes that a call gives -/
def cutN (n : Int) (m : Nat) : Nat := min (max n 0).toNat m
def givB (next : Bool) (n : Int) (ns rs : List Int) : List Int := if next then rs.take (cutN n rs.length) else ns
theorem Rd.take {q : Option Addr} {n c m : Nat} {ns : List Int} (h : Rd w (.slice q n c) ns) (hm : m ≤ n) : Rd w (.slice q m c) (ns.take m) := by
  have hl := h.len
  refine ⟨?_, fun l' c' e => ?_⟩
  · rw [bv_take]
    exact h.1.slice m (by rw [bv_length]; omega)
  · injection e with e1 _ e3
    subst e1 e3
    exact h.2 _ _ rfl
theorem own_made (w : World) : OwnB w.heap.size (w.alloc (.cells #[] 5)) (.slice (some ⟨w.heap.size, 0, none⟩) 0 0) [] := World.ownsRow_made w #[] 0 (Nat.le_refl _) (Nat.zero_le _) rfl
theorem OwnB.val {B : Nat} {w : World} {v : Value} {ns : List Int} (h : OwnB B w v ns) : ∃ q c, v = .slice q ns.length c := owns_val h
set_option maxHeartbeats 1000000 in
theorem bytes_at {kd key n : Int} {next : Bool} {sl rv : Value} {ns rs : List Int} (h1 : Rd w sl ns) (h2 : Rd w rv rs) (b1 : ns.length ≤ 70368744177664) (b2 : rs.length ≤ 70368744177664) :
    Calls Tryd.prog 6 #[.agg #[.int .i64 kd, .int .i64 key, .int .i64 n, .bool next, sl], rv] w fun e w' => ∃ q c, e = .returned (.slice q (givB next n ns rs).length c) ∧ Aside (OwnB w.heap.size w' (.slice q (givB next n ns rs).length c) (givB next n ns rs)) ∧ Aside (Keeps Nowhere w w') := by
  obtain ⟨sa, sc, rfl⟩ := h1.shape
  obtain ⟨ra, rc, rfl⟩ := h2.shape
  obtain ⟨bx, hbx⟩ : ∃ bx, w.heap.size = bx := ⟨_, rfl⟩
  obtain ⟨m1, hm1⟩ : ∃ m1, ns.length = m1 := ⟨_, rfl⟩
  obtain ⟨R, hR⟩ : ∃ R, rs.length = R := ⟨_, rfl⟩
  rw [hm1] at h1 b1 ⊢
  rw [hR] at h2 b2 ⊢
  obtain ⟨w1, hw1⟩ : ∃ w1, w.alloc (.cells #[.int .i64 kd, .int .i64 key, .int .i64 n, .bool next, .slice sa m1 sc] 31) = w1 := ⟨_, rfl⟩
  have K1 : Aside (Keeps Nowhere w w1) := ⟨by rw [← hw1]; exact (Keeps.refl _ _).alloc _⟩
  have C1 : Cells w1 bx 31 [.int .i64 kd, .int .i64 key, .int .i64 n, .bool next, .slice sa m1 sc] := by rw [← hw1, ← hbx]; exact Cells.new w _ _
  have c2 : w1.cell? ⟨bx, 2, none⟩ = some (.int .i64 n) := by rw [C1.cell]; rfl
  have c3 : w1.cell? ⟨bx, 3, none⟩ = some (.bool next) := by rw [C1.cell]; rfl
  have c4 : w1.cell? ⟨bx, 4, none⟩ = some (.slice sa m1 sc) := by rw [C1.cell]; rfl
  have KA : Aside (Keeps Nowhere w1 (w1.alloc (.cells #[] 5))) := ⟨(Keeps.refl _ _).alloc _⟩
  have C2 := C1.later KA.it (fun x => x)
  have c2' : (w1.alloc (.cells #[] 5)).cell? ⟨bx, 2, none⟩ = some (.int .i64 n) := by rw [C2.cell]; rfl
  have c4' : (w1.alloc (.cells #[] 5)).cell? ⟨bx, 4, none⟩ = some (.slice sa m1 sc) := by rw [C2.cell]; rfl
  have H1 := Aside.mk (h1.later (K1.it.trans KA.it).bel)
  have H2 := Aside.mk (h2.later (K1.it.trans KA.it).bel)
  have HM := Aside.mk hm1
  have HRR := Aside.mk hR
  have OM := Aside.mk (own_made w1)
  have hsz : Aside (w1.heap.size ≤ (w1.alloc (.cells #[] 5)).heap.size) := ⟨KA.it.size⟩
  have fin : Aside (∀ {v' w'} {ms : List Int}, OwnB w1.heap.size w' v' ([] ++ ms) → Below w1.heap.size (w1.alloc (.cells #[] 5)) w' → ∃ q c, v' = .slice q ms.length c ∧ OwnB w.heap.size w' (.slice q ms.length c) ms ∧ Keeps Nowhere w w') := ⟨fun {v' w' ms} ho hb => by
    rw [List.nil_append] at ho
    obtain ⟨q, c, rfl⟩ := ho.val
    refine ⟨q, c, rfl, ho.mono K1.it.size, K1.it.trans ?_⟩
    have : Below w1.heap.size w1 w' := KA.it.bel.trans hb
    exact Keeps.ofBelow this⟩
  clear h1 h2 hm1 hR C1 C2
  cases next with
  | false =>
    have HG := Aside.mk (show givB false n ns rs = ns from rfl)
    rw [HG.it, HM.it]
    have bd : Aside (([] : List Int).length + ns.length ≤ 140737488355328) := ⟨by rw [HM.it]; simp; omega⟩
    go_enter Tryd.func6, Tryd.ntmps6
    go_upto_region 1 with fail
    clear hw1 hbx
    go_wp2_with (first | (at_builtin; refine wpList_appendB rfl _ _ rfl w1.heap.size _ _ [] ns OM.it H1.it bd.it hsz.it rfl rfl ?_; intro v2 w2 O2 K2; obtain ⟨q2, l2, hv2, F2, F3⟩ := fin.it O2.it K2.it; rw [HM.it] at hv2; subst hv2) | fail)
    go_ret
    rw [HM.it] at F2
    exact ⟨_, _, rfl, ⟨F2⟩, ⟨F3⟩⟩
  | true =>
    have HG := Aside.mk (show givB true n ns rs = rs.take (cutN n rs.length) from rfl)
    obtain ⟨m, hm⟩ : ∃ m, cutN n R = m := ⟨_, rfl⟩
    have hmR : m ≤ R := by rw [← hm]; unfold cutN; omega
    have HGL : Aside ((givB true n ns rs).length = m) := ⟨by rw [HG.it, HRR.it, hm, List.length_take, HRR.it]; omega⟩
    rw [HGL.it]
    rw [HRR.it, hm] at HG
    rw [HG.it]
    have H3 := Aside.mk (H2.it.take hmR)
    have bd : Aside (([] : List Int).length + (rs.take m).length ≤ 140737488355328) := ⟨by rw [List.length_take, HRR.it]; simp; omega⟩
    have HL3 : Aside ((rs.take m).length = m) := ⟨by rw [List.length_take, HRR.it]; omega⟩
    have g1 : (R : Int) ≤ (rc : Int) := by have := H2.it.len; omega
    have g2 : (m : Int) ≤ (R : Int) := by omega
    have g0 : (0 : Int) ≤ (m : Int) := by omega
    have em : min (max n 0) (R : Int) = (m : Int) := by rw [← hm]; unfold cutN; omega
    clear hm
    go_enter Tryd.func6, Tryd.ntmps6
    go_upto_region 1 with fail
    clear hw1 hbx
    go_wp2_with (first | (at_builtin; refine wpList_appendB rfl _ _ rfl w1.heap.size _ _ [] (rs.take m) OM.it H3.it bd.it hsz.it rfl rfl ?_; intro v2 w2 O2 K2; obtain ⟨q2, l2, hv2, F2, F3⟩ := fin.it O2.it K2.it; rw [HL3.it] at hv2; subst hv2) | go_in)
    go_ret
    rw [HL3.it] at F2
    exact ⟨_, _, rfl, ⟨F2⟩, ⟨F3⟩⟩
end Go.Proofs.YtambdgcogldbgaaDoor
