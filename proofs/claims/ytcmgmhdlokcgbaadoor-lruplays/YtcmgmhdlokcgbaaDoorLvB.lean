/-
  culvertlaw28.looks
-/
import Derived.Test.YtcmgmhdlokcgbaaDoorLvA
namespace Go.Proofs.YtcmgmhdlokcgbaaDoor
open Go.RowKit Lulnn

variable {w w' w0 W : World} {own own' : Nat → Nat} {i c o j b q n : Nat} {room R k now : Int} {L M : List Rx} {I : Nat → Prop} {A : Nat → Addr} {x y : Rx} {z : Oz} {v va vb cv : Value} {ks ms : List Int} {nl : Bool}

set_option maxRecDepth 20000 in
set_option maxHeartbeats 4000000 in
theorem looks_ (h : Cv own 1 w cv nl room L) (hd : RdX own w v L) (hmax : L.length * 8 ≤ 140737488355328) :
    Calls Tryd.prog 14 #[cv, cch room v] w fun e w' => e = .returned (.bool true) ∧ Aside (Keeps Nowhere w w') := by
  obtain ⟨K1, C1⟩ := box28 w room v
  have H := Aside.mk h
  have HD := Aside.mk hd
  obtain ⟨a, c, rfl, hlc, hcm, _⟩ := hd.sh
  have mx : maxLen ≤ 9223372036854775807 := by decide
  have HK := Aside.mk (fun x hx => (h.lok.ok x hx).k)
  have HO := Aside.mk h.lok
  clear h hd
  go_enter Tryd.func14, Tryd.ntmps14
  go_upto_region 1 with fail
  generalize w.alloc (.cells #[.int .i64 room, .slice a L.length c] 31) = W1 at K1 C1 ⊢
  generalize w.heap.size = bx at C1 ⊢
  have bl := C1.it.lt
  have S0 : W1.drew.cell? ⟨bx, 0, none⟩ = some (.int .i64 room) ∧ W1.drew.cell? ⟨bx, 1, none⟩ = some (.slice a L.length c) := ⟨by rw [(C1.it.later (S := Nowhere) (Keeps.refl _ _).drew (fun x => x)).cell]; rfl, by rw [(C1.it.later (S := Nowhere) (Keeps.refl _ _).drew (fun x => x)).cell]; rfl⟩
  have KD : Aside (Keeps Nowhere w W1.drew) := ⟨K1.it.drew⟩
  have LE := Aside.mk (cv_len (H.it.quiet KD.it))
  have WE := Aside.mk (cv_weight (H.it.quiet KD.it))
  have WD := Aside.mk (dweight (HD.it.quiet KD.it) room HO.it)
  have KYF := Aside.mk (fun W (k : Keeps Nowhere w W) => cv_keys (H.it.quiet k) hmax 5)
  have KDF := Aside.mk (fun W (k : Keeps Nowhere w W) => dkeys (HD.it.quiet k) room hmax 6)
  have es : (sumL L == sumL L) = true := by simp
  have en : ((L.length : Int) == L.length) = true := by simp
  generalize sumL L = S at WE WD es
  obtain ⟨n, hn⟩ : ∃ n, L.length = n := ⟨_, rfl⟩
  have HN := Aside.mk hn
  rw [hn] at hlc hmax S0 en LE ⊢
  have KDF' := KDF
  rw [hn] at KDF'
  clear hn KDF
  go_region_held_law (fun w' => w'.cell? ⟨bx, 0, none⟩ = some (.int .i64 room) ∧ w'.cell? ⟨bx, 1, none⟩ = some (.slice a n c)) (first | exact S0 | exact S3 | exact S5 | exact S6 | exact S7) (first
    | (go_at_call 23; refine LE.it.mono ?_; clear LE; rintro e w2 ⟨rfl, rfl⟩)
    | (go_at_call 24; refine WE.it.mono ?_; clear WE; rintro e w2 ⟨rfl, rfl⟩)
    | (go_at_call 53; rw [HN.it] at WD; refine WD.it.mono ?_; clear WD; rintro e w3 ⟨rfl, K3⟩
       have S3 : w3.cell? ⟨bx, 0, none⟩ = some (.int .i64 room) ∧ w3.cell? ⟨bx, 1, none⟩ = some (.slice a n c) := (by
         have hb := K3.it.block bx bl (fun x => x)
         exact ⟨by rw [World.cell?_of_block (w := W1.drew) hb]; exact S0.1, by rw [World.cell?_of_block (w := W1.drew) hb]; exact S0.2⟩)
       have KY := Aside.mk (KYF.it w3 (KD.it.trans K3.it))
       clear KYF)
    | (go_at_call 26; refine KY.it.mono ?_; clear KY; rintro e w5 ⟨pa, pn, pc, rfl, R5, K5⟩
       have S5 : w5.cell? ⟨bx, 0, none⟩ = some (.int .i64 room) ∧ w5.cell? ⟨bx, 1, none⟩ = some (.slice a n c) := (by
         have hb := K5.it.block bx (Nat.lt_of_lt_of_le bl K3.it.size) (fun x => x)
         exact ⟨by rw [World.cell?_of_block (w := w3) hb]; exact S3.1, by rw [World.cell?_of_block (w := w3) hb]; exact S3.2⟩)
       have K35 := Aside.mk ((KD.it.trans K3.it).trans K5.it)
       have KDD := Aside.mk (KDF'.it w5 K35.it)
       clear KDF')
    | (go_at_call 54; refine KDD.it.mono ?_; clear KDD; rintro e w6 ⟨qa, qc, rfl, R6, K6⟩
       have S6 : w6.cell? ⟨bx, 0, none⟩ = some (.int .i64 room) ∧ w6.cell? ⟨bx, 1, none⟩ = some (.slice a n c) := (by
         have hb := K6.it.block bx (Nat.lt_of_lt_of_le (Nat.lt_of_lt_of_le bl K3.it.size) K5.it.size) (fun x => x)
         exact ⟨by rw [World.cell?_of_block (w := w5) hb]; exact S5.1, by rw [World.cell?_of_block (w := w5) hb]; exact S5.2⟩)
       have SA := Aside.mk (same_ (keys_rdI (owns_later R5.it.1 K6.it (fun _ _ x => x)) HK.it) (keys_rdI (L := L) (by have r := R6.it.1; rw [HN.it]; exact r) HK.it))
       rw [decide_eq_true rfl] at SA)
    | (go_at_call 29; refine SA.it.mono ?_; clear SA; rintro e w7 ⟨rfl, K7⟩
       have S7 : w7.cell? ⟨bx, 0, none⟩ = some (.int .i64 room) ∧ w7.cell? ⟨bx, 1, none⟩ = some (.slice a n c) := (by
         have hb := K7.it.block bx (Nat.lt_of_lt_of_le (Nat.lt_of_lt_of_le (Nat.lt_of_lt_of_le bl K3.it.size) K5.it.size) K6.it.size) (fun x => x)
         exact ⟨by rw [World.cell?_of_block (w := w6) hb]; exact S6.1, by rw [World.cell?_of_block (w := w6) hb]; exact S6.2⟩))
    | fail)
  have K17 : Aside (Keeps Nowhere w w7) := ⟨(K35.it.trans K6.it).trans K7.it⟩
  have d1 := S7.2
  have bl7 := World.block_lt_of_cell? w7 _ d1
  clear S0 S3 S5 S6 S7 R5 R6 K3 K5 K6 K7 K35 KD es en C1 K1 bl
  generalize w7 = W7 at *
  go_upto_region 4 with fail
  go_loopw [5] (fun jv wr => ∃ j : Nat, jv = .int .i64 j ∧ j ≤ n ∧ Keeps Nowhere W7 wr) (fun jv _ => n - natI jv)
  case atStart => exact ⟨0, rfl, Nat.zero_le _, Keeps.refl _ _⟩
  case round =>
    obtain ⟨j, rfl, hj, K⟩ := hrel
    have d2 : wr.cell? ⟨bx, 1, none⟩ = some (.slice a n c) := by rw [World.cell?_of_block (w := W7) (K.block bx bl7 (fun x => x))]; exact d1
    have KK := Aside.mk (K17.it.trans K)
    have K8 := Aside.mk K
    clear d1 K
    rcases Nat.eq_or_lt_of_le hj with rfl | hlt
    · go_wp2_with fail
      go_ret
      exact ⟨rfl, KK⟩
    · have hlt' : (j : Int) < (n : Int) := by omega
      obtain ⟨y, hy⟩ : ∃ y, L[j]? = some y := ⟨_, List.getElem?_eq_getElem (by rw [HN.it]; exact hlt)⟩
      obtain ⟨g, c', hv, _, y0, y1, y2, y3⟩ := HD.it.at_ j y hy
      injection hv with hv1 hv2 hv3
      subst hv1 hv3
      have hb := KK.it.block g (World.block_lt_of_cell? w _ y0) (fun x => x)
      have y0 : wr.cell? ⟨g, j * 4, none⟩ = some (.int .i64 y.k) := by rw [World.cell?_of_block (w := w) hb]; exact y0
      have y1 : wr.cell? ⟨g, j * 4 + 1, none⟩ = some (.int .i64 y.t) := by rw [World.cell?_of_block (w := w) hb]; exact y1
      have y2 : wr.cell? ⟨g, j * 4 + 2, none⟩ = some (.int .i64 y.w) := by rw [World.cell?_of_block (w := w) hb]; exact y2
      have y3 : wr.cell? ⟨g, j * 4 + 3, none⟩ = some (.int .i64 y.u) := by rw [World.cell?_of_block (w := w) hb]; exact y3
      have KX : Aside (Keeps Nowhere wr (wr.alloc (.cells #[.int .i64 y.k, .int .i64 y.t, .int .i64 y.w, .int .i64 y.u] 102))) := ⟨(Keeps.refl _ _).alloc _⟩
      have CX : Aside (Cells (wr.alloc (.cells #[.int .i64 y.k, .int .i64 y.t, .int .i64 y.w, .int .i64 y.u] 102)) wr.heap.size 102 (x4 y)) := ⟨Cells.new wr _ _⟩
      have PK := Aside.mk (fun W (k : Keeps Nowhere w W) => cv_peek (H.it.quiet k) (HK.it y (List.mem_of_getElem? hy)))
      unfold peT puI hasL at PK
      rw [find_at HO.it.one hy] at PK
      simp only [Option.isSome_some] at PK
      clear hy hb hv2
      go_upto_region 7 with fail
      generalize wr.alloc (.cells #[.int .i64 y.k, .int .i64 y.t, .int .i64 y.w, .int .i64 y.u] 102) = w9 at KX CX ⊢
      generalize wr.heap.size = xb at CX ⊢
      clear y0 y1 y2 y3 d2
      have P9 := Aside.mk (PK.it w9 (KK.it.trans KX.it))
      have z0 : w9.cell? ⟨xb, 0, none⟩ = some (.int .i64 y.k) := by rw [CX.it.cell]; rfl
      have q1 : (y.t == y.t) = true := by simp
      have q2 : (y.u == y.u) = true := by simp
      clear PK
      go_wp2_with (first
        | (go_at_call 27; refine P9.it.mono ?_; clear P9; rintro e w10 ⟨rfl, K10⟩
           have C10 := CX.it.later K10.it (fun x => x)
           have u1 : w10.cell? ⟨xb, 1, none⟩ = some (.int .i64 y.t) := (by rw [C10.cell]; rfl)
           have u3 : w10.cell? ⟨xb, 3, none⟩ = some (.int .i64 y.u) := (by rw [C10.cell]; rfl)
           clear C10)
        | fail)
      go_roundw
      case rel => exact ⟨j + 1, by go_num, hlt, (K8.it.trans KX.it).trans K10.it⟩
      case measure => simp [natI]; omega
end Go.Proofs.YtcmgmhdlokcgbaaDoor
