/-
  FeedAll, walked.
-/
import Derived.Test.YtjopkefjknnnfaaDoorFeedV
import Derived.Test.YtjopkefjknnnfaaDoorOpenU
namespace Go.Proofs.YtjopkefjknnnfaaDoor
open Go.RowKit

section
variable {A : Nat → Addr}
theorem rd_none (w : World) : Rd w (.slice none 0 0) [] := ⟨⟨none, 0, rfl, Nat.le_refl _, fun j u h => by simp [bv] at h⟩, fun l c e => by injection e with _ _ e; exact e.symm⟩
theorem feedAll_bad {w : World} {most : Int} (B : Base A w) (h : most < 1 ∨ 65536 < most) (x y : Value) :
    Calls Tryd.prog 5 #[.int .i64 most, x, y] w fun e w' => e = .returned (.bool true) ∧ Below w.heap.size w w' := by
  have F := Aside.mk (fixed5 B)
  have G := Aside.mk (fun W (hW : Below w.heap.size w W) => gives_bad (B.later hW) h x y)
  clear B
  rcases h with h | h
  · go_enter Tryd.func5, Tryd.ntmps5
    go_wp2_with (first
      | (go_at_call 22; refine (G.it w1 B1.it).mono ?_; rintro e w2 ⟨rfl, k2⟩; have B2 : Aside (Below w.heap.size w w2) := ⟨B1.it.trans (k2.bel.mono B1.it.size)⟩; clear k2)
      | (go_at_call 6; refine F.it.mono ?_; rintro e w1 ⟨rfl, b1⟩; have B1 := Aside.mk b1; clear b1) | fail)
    go_ret
    exact ⟨rfl, B2.it⟩
  · have h' : ¬ most < 1 := by omega
    go_enter Tryd.func5, Tryd.ntmps5
    go_wp2_with (first
      | (go_at_call 22; refine (G.it w1 B1.it).mono ?_; rintro e w2 ⟨rfl, k2⟩; have B2 : Aside (Below w.heap.size w w2) := ⟨B1.it.trans (k2.bel.mono B1.it.size)⟩; clear k2)
      | (go_at_call 6; refine F.it.mono ?_; rintro e w1 ⟨rfl, b1⟩; have B1 := Aside.mk b1; clear b1) | fail)
    go_ret
    exact ⟨rfl, B2.it⟩
set_option maxRecDepth 20000 in
set_option maxHeartbeats 4000000 in
theorem feedAll_good {w : World} {most : Int} (B : Base A w) (h1 : 1 ≤ most) (h2 : most ≤ 65536) (v : Value) (bs : List Int) (R : Rd w v bs) (hb : AreBytes bs) (hL : bs.length ≤ 1048576) (cv : Value) (zs : List Int) (C : Holds .i64 w cv zs) (hK : zs.length ≤ 1048576) :
    Calls Tryd.prog 5 #[.int .i64 most, v, cv] w fun e w' => e = .returned (.bool true) ∧ Below w.heap.size w w' := by
  obtain ⟨q, c, rfl⟩ := R.shape
  obtain ⟨qa, c1, rfl⟩ := C.len
  obtain ⟨L, hLL⟩ : ∃ L, Aside (bs.length = L) := ⟨_, ⟨rfl⟩⟩
  obtain ⟨La, hLa⟩ : ∃ L, Aside (zs.length = L) := ⟨_, ⟨rfl⟩⟩
  have hcL : Aside (L ≤ c) := ⟨by have := R.1.len; rw [bv_length] at this; rw [← hLL.it]; exact this.2⟩
  rw [hLL.it] at R
  rw [hLa.it] at hK C
  rw [hLL.it, hLa.it]
  have F := Aside.mk (fixed5 B)
  have GA : Aside (∀ W, Below w.heap.size w W → _) := ⟨fun W hW => gives_any (A := A) (most := most) (B.later hW) h1 h2 q L c bs (R.later hW) hb hL qa La c1 zs (C.later hW) hK⟩
  have HB := Aside.mk B
  have HR := Aside.mk R
  have HA := Aside.mk hb
  have PS := Aside.mk (parse_spec (ck := ckH most) (sz := szN) bs)
  have PC := Aside.mk (parse_count (ck := ckH most) (sz := szN) bs)
  rw [show parse (ckH most) szN bs = prs most bs from rfl] at PS PC
  have hL63 : (L : Int) ≤ 1048576 := by have := hLL.it; omega
  generalize prs most bs = o at *
  clear R hb B h1 h2 hL C hK
  go_enter Tryd.func5, Tryd.ntmps5
  go_upto_region 8 with (first
    | (go_at_call 22; refine (GA.it w1 B1.it).mono ?_; rintro e w2 ⟨fv, ev, p, own, rfl, X2⟩; obtain ⟨fq, fc, hfv⟩ := X2.it.2.F.shape; subst hfv; have P2 : Aside (FaAt A w own p most o (.slice fq o.fs.length fc) ev w2) := ⟨HB.it, B1.it.trans (X2.it.1.mono B1.it.size), X2.it.2⟩; clear X2)
    | (go_at_call 6; refine F.it.mono ?_; rintro e w1 ⟨rfl, b1⟩; have B1 := Aside.mk b1; clear b1) | fail)
  obtain ⟨N, hN⟩ : ∃ N, Aside (N = o.fs.length) := ⟨_, ⟨rfl⟩⟩
  rw [← hN.it] at P2 ⊢
  clear GA F B1
  have hN1 : (N : Int) ≤ 1048576 := by have := PC.it; have := hLL.it; have := hN.it; omega
  obtain ⟨tl, htl⟩ : ∃ tl, Aside (bs = flat o.fs ++ tl) := by
    rcases PS.it.2.2 with ⟨_, _, e⟩ | ⟨h, t, _, _, _, _, e⟩
    · exact ⟨_, ⟨e⟩⟩
    · exact ⟨_, ⟨e⟩⟩
  go_loopw [10, 39] (fun av i wr => ∃ k t : Nat, av = .int .i64 t ∧ i = .int .i64 k ∧ k ≤ N ∧ Aside (t = (flat (o.fs.take k)).length) ∧ Aside (FaAt A w own p most o (.slice fq N fc) ev wr)) (fun _ i _ => N - (intOf i).toNat)
  case atStart => exact ⟨0, 0, rfl, rfl, Nat.zero_le _, ⟨by simp [flat]⟩, P2⟩
  case round =>
    clear P2
    obtain ⟨k, t, rfl, rfl, hk, ht, HP⟩ := hrel
    have i3 : (0 : Int) ≤ k := by omega
    have j0 : (0 : Int) ≤ t := by omega
    rcases Nat.eq_or_lt_of_le hk with hkN | hlt
    · have hge : ¬ (k : Int) < N := by omega
      have htk : Aside (t = (flat o.fs).length) := ⟨by rw [ht.it, List.take_of_length_le (by rw [← hN.it]; omega)]⟩
      rcases PS.it.2.2 with ⟨hd, _, e⟩ | ⟨h, tl2, hd, hrest, h12, hck, e⟩
      · have hev : ev = .nilIface := by have E := HP.it.g.E; rw [hd] at E; exact E
        subst hev
        obtain ⟨D, hD⟩ : ∃ D, Aside (D = o.rest.length) := ⟨_, ⟨rfl⟩⟩
        have hLD : t + D = L := by have h1 := congrArg List.length e; rw [hLL.it, List.length_append, ← htk.it, ← hD.it] at h1; exact h1.symm
        have hw : IntKind.i64.wrap ((L : Int) - t) = (D : Int) := by rw [IntWalk.i64_in _ (by omega)]; omega
        have HE := Aside.mk (held_a (n := D) (by rw [hd, hD.it]; rfl) HP)
        have ER : Aside (∀ w', Aside (FaAt A w own p most o (.slice fq N fc) .nilIface w') → _) := ⟨fun w' H => err_a hd H⟩
        clear e hD
        go_wp2_with (first
          | (go_at_call 19; with_reducible refine (ER.it _ P3).mono ?_; rintro e w4 ⟨rfl, P4⟩)
          | (go_at_call 15; with_reducible refine HE.it.mono ?_; rintro e w3 ⟨rfl, P3⟩)
          | fail)
        all_goals first
          | (exfalso; omega)
          | skip
        go_ret
        exact ⟨rfl, P4.it.k⟩
      · obtain ⟨vb, hev⟩ : ∃ vb, ev = vio vb := by
          have E := HP.it.g.E
          rw [hd] at E
          obtain ⟨vb, e, _⟩ := E
          exact ⟨vb, e⟩
        subst hev
        have hLt : L - t = (h ++ tl2).length ∧ t ≤ L := by
          have h1 := congrArg List.length e
          rw [hLL.it, List.length_append, ← htk.it] at h1
          omega
        have hl12 : 12 ≤ L - t := by rw [hLt.1, List.length_append]; omega
        have hcL' := hcL.it
        have hct : ¬ c = t := by omega
        have hRD : Aside (Rd w (.slice (q.map (·.add t)) (L - t) (c - t)) (h ++ tl2)) := by
          have r : RdS Nowhere w (.slice q L c) bs := HR.it
          have r2 := (r.drop (n := t) (by rw [hLL.it]; exact hLt.2)).rd
          rw [if_neg hct, e, htk.it, List.drop_left, ← htk.it] at r2
          exact ⟨r2⟩
        have hAB : Aside (AreBytes (h ++ tl2)) := ⟨fun x hx => HA.it x (by rw [e]; exact List.mem_append.2 (.inr hx))⟩
        have hAh : Aside (AreBytes h) := ⟨fun x hx => hAB.it x (List.mem_append.2 (.inl hx))⟩
        have DE := Aside.mk (decode_a HP hRD.it h12 hAB.it)
        have htL := hLt.2
        have htL' : (t : Int) ≤ L := by omega
        have htc : t ≤ c := by omega
        obtain ⟨K, hK⟩ : ∃ K, Aside (chkH most h = K) := ⟨_, ⟨rfl⟩⟩
        have hKl : 0 ≤ K ∧ K ≤ 42 := by rw [← hK.it]; exact chkH_le most h
        have hK0 := hKl.1
        have hK1 := hKl.2
        have hwK : IntKind.i64.wrap (1000 + K) = 1000 + K := IntWalk.i64_in _ (by omega)
        have HD0 := Aside.mk hd
        have H12 := Aside.mk h12
        clear e hLt hck hrest h12 hl12 hcL' hKl hd
        go_upto_region 18 with (first
          | (go_at_call 23; with_reducible refine DE.it.mono ?_; rintro e w3 ⟨rfl, P3⟩)
          | fail)
        obtain ⟨W4, hW4⟩ : ∃ W4, W4 = w3.alloc (.cells #[.int .u8 (dV h), .int .u8 (dT h), .int .u16 (dF h), .int .u32 (dS h), .int .u32 (dL h)] 53) := ⟨_, rfl⟩
        have k4 : Keeps Nowhere w3 W4 := by rw [hW4]; exact (Keeps.refl _ _).alloc _
        obtain ⟨b, hbx⟩ : ∃ b, b = w3.heap.size := ⟨_, rfl⟩
        have P4 : Aside (FbAt A w own p most o (.slice fq N fc) (vio vb) b 53 [.int .u8 (dV h), .int .u8 (dT h), .int .u16 (dF h), .int .u32 (dS h), .int .u32 (dL h)] (.slice none 0 0) [] W4) := ⟨P3.it.quiet k4, by rw [hW4, hbx]; exact Cells.new w3 _ _, rd_none _⟩
        rw [← hW4, ← hbx]
        have ST := Aside.mk (stream_a HD0.it P4)
        clear hW4 k4 hbx DE HP P3
        go_upto_region 19 with (first
          | (go_at_call 24; with_reducible refine ST.it.mono ?_; rintro e w5 ⟨rfl, P5⟩)
          | fail)
        have P5d : Aside (FbAt A w own p most o (.slice fq N fc) (vio vb) b 53 [.int .u8 (dV h), .int .u8 (dT h), .int .u16 (dF h), .int .u32 (dS h), .int .u32 (dL h)] (.slice none 0 0) [] w5.drew) := ⟨P5.it.quiet (Keeps.refl _ _).drew⟩
        have HS : Aside (∀ w', Aside (FbAt A w own p most o (.slice fq N fc) (vio vb) b 53 [.int .u8 (dV h), .int .u8 (dT h), .int .u16 (dF h), .int .u32 (dS h), .int .u32 (dL h)] (.slice none 0 0) [] w') → w'.cell? ⟨b, 0, none⟩ = some (.int .u8 (dV h)) ∧ w'.cell? ⟨b, 1, none⟩ = some (.int .u8 (dT h)) ∧ w'.cell? ⟨b, 2, none⟩ = some (.int .u16 (dF h)) ∧ w'.cell? ⟨b, 3, none⟩ = some (.int .u32 (dS h)) ∧ w'.cell? ⟨b, 4, none⟩ = some (.int .u32 (dL h))) :=
          ⟨fun w' H => ⟨by rw [H.it.box.cell]; rfl, by rw [H.it.box.cell]; rfl, by rw [H.it.box.cell]; rfl, by rw [H.it.box.cell]; rfl, by rw [H.it.box.cell]; rfl⟩⟩
        have CV : Aside (∀ w', Aside (FbAt A w own p most o (.slice fq N fc) (vio vb) b 53 [.int .u8 (dV h), .int .u8 (dT h), .int .u16 (dF h), .int .u32 (dS h), .int .u32 (dL h)] (.slice none 0 0) [] w') → Calls Tryd.prog 9 #[vio vb] w' fun e w'' => e = .returned (.int .i64 (1000 + K)) ∧ w'' = w') := ⟨fun w' H => code_v (by rw [HD0.it, ← hK.it]; rfl) H⟩
        have CE : Aside (∀ w', Aside (FbAt A w own p most o (.slice fq N fc) (vio vb) b 53 [.int .u8 (dV h), .int .u8 (dT h), .int .u16 (dF h), .int .u32 (dS h), .int .u32 (dL h)] (.slice none 0 0) [] w') → Calls Tryd.prog 21 #[hdr (dV h) (dT h) (dF h) (dS h) (dL h), .int .i64 most] w' fun e w'' => ∃ er, e = .returned er ∧ Aside (Coded A er K) ∧ Aside (FbAt A w own p most o (.slice fq N fc) (vio vb) b 53 [.int .u8 (dV h), .int .u8 (dT h), .int .u16 (dF h), .int .u32 (dS h), .int .u32 (dL h)] (.slice none 0 0) [] w'')) := ⟨fun w' H => by have x := check_e H hAh.it; rw [hK.it] at x; exact x⟩
        have HH : Aside (∀ w', Aside (FbAt A w own p most o (.slice fq N fc) (vio vb) b 53 [.int .u8 (dV h), .int .u8 (dT h), .int .u16 (dF h), .int .u32 (dS h), .int .u32 (dL h)] (.slice none 0 0) [] w') → Calls Tryd.prog 15 #[dPtr p] w' fun e w'' => e = .returned (.int .i64 0) ∧ Aside (FbAt A w own p most o (.slice fq N fc) (vio vb) b 53 [.int .u8 (dV h), .int .u8 (dT h), .int .u16 (dF h), .int .u32 (dS h), .int .u32 (dL h)] (.slice none 0 0) [] w'')) := ⟨fun w' H => held_b (n := 0) (by rw [HD0.it]; rfl) H⟩
        have HW : Aside (∀ w', Aside (FbAt A w own p most o (.slice fq N fc) (vio vb) b 53 [.int .u8 (dV h), .int .u8 (dT h), .int .u16 (dF h), .int .u32 (dS h), .int .u32 (dL h)] (.slice none 0 0) [] w') → Calls Tryd.prog 17 #[dPtr p] w' fun e w'' => e = .returned (.int .i64 0) ∧ Aside (FbAt A w own p most o (.slice fq N fc) (vio vb) b 53 [.int .u8 (dV h), .int .u8 (dT h), .int .u16 (dF h), .int .u32 (dS h), .int .u32 (dL h)] (.slice none 0 0) [] w'')) := ⟨fun w' H => wants_b (n := 0) (by rw [HD0.it]; rfl) H⟩
        clear ST P4
        go_region_held_law (fun w' => w'.cell? ⟨b, 0, none⟩ = some (.int .u8 (dV h)) ∧ w'.cell? ⟨b, 1, none⟩ = some (.int .u8 (dT h)) ∧ w'.cell? ⟨b, 2, none⟩ = some (.int .u16 (dF h)) ∧ w'.cell? ⟨b, 3, none⟩ = some (.int .u32 (dS h)) ∧ w'.cell? ⟨b, 4, none⟩ = some (.int .u32 (dL h))) (exact HS.it _ (by with_reducible assumption)) (first
          | (go_at_call 9; with_reducible refine (code_a (by with_reducible assumption) (by with_reducible assumption)).mono ?_; rintro e w' ⟨rfl, rfl⟩)
          | (go_at_call 9; with_reducible refine (CV.it _ (by with_reducible assumption)).mono ?_; rintro e w' ⟨rfl, rfl⟩)
          | (go_at_call 21; with_reducible refine (CE.it _ (by with_reducible assumption)).mono ?_; rintro e w6 ⟨er6, rfl, hc6, P6⟩)
          | (go_at_call 15; with_reducible refine (HH.it _ (by with_reducible assumption)).mono ?_; rintro e w7 ⟨rfl, P7⟩)
          | (go_at_call 17; with_reducible refine (HW.it _ (by with_reducible assumption)).mono ?_; rintro e w8 ⟨rfl, P8⟩)
          | fail)
        go_wp2
        go_ret
        exact ⟨rfl, P8.it.a.k⟩
    · obtain ⟨⟨h, d⟩, hget⟩ : ∃ x, o.fs[k]? = some x := ⟨_, List.getElem?_eq_getElem (by rw [← hN.it]; exact hlt)⟩
      obtain ⟨fa1, fa2, fa3⟩ := flat_at o.fs k h d tl hget
      rw [← htl.it, ← ht.it] at fa1 fa2
      rw [← ht.it] at fa3
      obtain ⟨n, hn⟩ : ∃ n, Aside (n = (h ++ d).length) := ⟨_, ⟨rfl⟩⟩
      rw [← hn.it] at fa1 fa2 fa3
      obtain ⟨hh12, hck, hdl⟩ := PS.it.1 (h, d) (List.mem_of_getElem? hget)
      simp only at hh12 hck hdl
      have hbb : Aside (AreBytes h) := ⟨fun x hx => HA.it x (List.mem_of_mem_drop (List.mem_of_mem_take (by rw [fa1]; exact List.mem_append.2 (.inl hx))))⟩
      have hch : Aside (chkH most h = 0) := ⟨by simpa [ckH] using hck⟩
      obtain ⟨g, fo, dq, dc, rfl, hfr, hrd⟩ := FramesR.at HP.it.g.F.reads hget
      obtain ⟨r0, r1, r2, r3, r4, r5⟩ := hfr.it
      have HD := Aside.mk hdl
      have H12 := Aside.mk hh12
      have HSEG := Aside.mk fa1
      have HT3 := Aside.mk fa3
      have hnl : n ≤ L := by rw [hLL.it] at fa2; omega
      have hdn : Aside (d.length ≤ 1048576) := ⟨by have := hn.it; simp at this; omega⟩
      have g1 : (t : Int) + n ≤ L := by rw [hLL.it] at fa2; omega
      have g0 : (0 : Int) ≤ n := by omega
      have hle : Aside (t + n ≤ bs.length) := ⟨fa2⟩
      have i2 : (k : Int) < N := by omega
      have i4 : (k : Int) ≤ 1048575 := by omega
      obtain ⟨dn, hdn2⟩ : ∃ dn, dn = d.length := ⟨_, rfl⟩
      rw [← hdn2] at r5 hrd
      clear hfr hh12 hck hdl fa1 fa2 fa3 hk hdn2
      go_upto_region 10 with fail
      obtain ⟨W1, hW1⟩ : ∃ W1, W1 = wr.alloc (.cells #[.int .u8 (dV h), .int .u8 (dT h), .int .u16 (dF h), .int .u32 (dS h), .int .u32 (dL h), .slice dq dn dc] 55) := ⟨_, rfl⟩
      have k1 : Keeps Nowhere wr W1 := by rw [hW1]; exact (Keeps.refl _ _).alloc _
      obtain ⟨b, hbx⟩ : ∃ b, b = wr.heap.size := ⟨_, rfl⟩
      have R1 : Aside (FbAt A w own p most o (.slice (some ⟨g, fo, none⟩) N fc) ev b 55 [.int .u8 (dV h), .int .u8 (dT h), .int .u16 (dF h), .int .u32 (dS h), .int .u32 (dL h), .slice dq dn dc] (.slice dq dn dc) d W1) := ⟨HP.it.quiet k1, by rw [hW1, hbx]; exact Cells.new wr _ _, hrd.it.later k1.bel⟩
      rw [← hW1, ← hbx]
      clear hW1 k1 hbx r0 r1 r2 r3 r4 r5 hrd HP
      have b0 : W1.cell? ⟨b, 0, none⟩ = some (.int .u8 (dV h)) := by rw [R1.it.box.cell]; rfl
      have b1 : W1.cell? ⟨b, 1, none⟩ = some (.int .u8 (dT h)) := by rw [R1.it.box.cell]; rfl
      have b2 : W1.cell? ⟨b, 2, none⟩ = some (.int .u16 (dF h)) := by rw [R1.it.box.cell]; rfl
      have b3 : W1.cell? ⟨b, 3, none⟩ = some (.int .u32 (dS h)) := by rw [R1.it.box.cell]; rfl
      have b4 : W1.cell? ⟨b, 4, none⟩ = some (.int .u32 (dL h)) := by rw [R1.it.box.cell]; rfl
      have b5 : W1.cell? ⟨b, 5, none⟩ = some (.slice dq dn dc) := by rw [R1.it.box.cell]; rfl
      have BY := Aside.mk (bytes_a R1 H12.it hbb.it HD.it hdn.it hn.it)
      go_upto_region 11 with (first | (go_at_call 20; with_reducible refine BY.it.mono ?_; rintro e w3 ⟨xq, xc, rfl, R3⟩) | fail)
      clear b0 b1 b2 b3 b4 b5 BY R1
      have R3d : Aside (FbAt A w own p most o (.slice (some ⟨g, fo, none⟩) N fc) ev b 55 [.int .u8 (dV h), .int .u8 (dT h), .int .u16 (dF h), .int .u32 (dS h), .int .u32 (dL h), .slice dq dn dc] (.slice xq n xc) (h ++ d) w3.drew) := ⟨R3.it.quiet (Keeps.refl _ _).drew⟩
      have CK : Aside (∀ w', Aside (FbAt A w own p most o (.slice (some ⟨g, fo, none⟩) N fc) ev b 55 [.int .u8 (dV h), .int .u8 (dT h), .int .u16 (dF h), .int .u32 (dS h), .int .u32 (dL h), .slice dq dn dc] (.slice xq n xc) (h ++ d) w') → Calls Tryd.prog 21 #[hdr (dV h) (dT h) (dF h) (dS h) (dL h), .int .i64 most] w' fun e' w'' => e' = .returned .nilIface ∧ Aside (FbAt A w own p most o (.slice (some ⟨g, fo, none⟩) N fc) ev b 55 [.int .u8 (dV h), .int .u8 (dT h), .int .u16 (dF h), .int .u32 (dS h), .int .u32 (dL h), .slice dq dn dc] (.slice xq n xc) (h ++ d) w'')) := ⟨fun w' H => check_a H hbb.it hch.it⟩
      obtain ⟨S5, hS5⟩ : ∃ S5, S5 = strOf (h ++ d) := ⟨_, rfl⟩
      have HS : Aside (∀ w', Aside (FbAt A w own p most o (.slice (some ⟨g, fo, none⟩) N fc) ev b 55 [.int .u8 (dV h), .int .u8 (dT h), .int .u16 (dF h), .int .u32 (dS h), .int .u32 (dL h), .slice dq dn dc] (.slice xq n xc) (h ++ d) w') → (w'.cell? ⟨b, 0, none⟩ = some (.int .u8 (dV h)) ∧ w'.cell? ⟨b, 1, none⟩ = some (.int .u8 (dT h)) ∧ w'.cell? ⟨b, 2, none⟩ = some (.int .u16 (dF h)) ∧ w'.cell? ⟨b, 3, none⟩ = some (.int .u32 (dS h)) ∧ w'.cell? ⟨b, 4, none⟩ = some (.int .u32 (dL h))) ∧ (convert 29 9 (.slice xq n xc)).run Tryd.prog w' = .ok (.string S5) w' ∧ (convert 29 9 (.slice (if c = t then q else q.map (·.add t)) n (c - t))).run Tryd.prog w' = .ok (.string S5) w') :=
        ⟨fun w' H => ⟨⟨by rw [H.it.box.cell]; rfl, by rw [H.it.box.cell]; rfl, by rw [H.it.box.cell]; rfl, by rw [H.it.box.cell]; rfl, by rw [H.it.box.cell]; rfl⟩, by rw [hS5]; exact FbAt.strs HR.it hle.it HSEG.it H⟩⟩
      have hcL' := hcL.it
      have hw2 : IntKind.i64.wrap ((t : Int) + n) = ((t + n : Nat) : Int) := by rw [IntWalk.i64_in _ (by omega)]; omega
      have s1 : t ≤ t + n := Nat.le_add_right _ _
      have s2 : t + n ≤ c := by omega
      have s3 : t + n - t = n := by omega
      have dA : decide ((L : Int) < (t : Int) + n) = false := decide_eq_false (by omega)
      have dA' : decide (L < t + n) = false := decide_eq_false (by omega)
      have hct : ¬ c = t := by
        have h1 := hn.it
        have h2 := H12.it
        rw [List.length_append] at h1
        omega
      clear hS5 hcL'
      rw [if_neg hct] at HS
      go_region_held_law (fun w' => (w'.cell? ⟨b, 0, none⟩ = some (.int .u8 (dV h)) ∧ w'.cell? ⟨b, 1, none⟩ = some (.int .u8 (dT h)) ∧ w'.cell? ⟨b, 2, none⟩ = some (.int .u16 (dF h)) ∧ w'.cell? ⟨b, 3, none⟩ = some (.int .u32 (dS h)) ∧ w'.cell? ⟨b, 4, none⟩ = some (.int .u32 (dL h))) ∧ (convert 29 9 (.slice xq n xc)).run Tryd.prog w' = .ok (.string S5) w' ∧ (convert 29 9 (.slice (q.map (·.add t)) n (c - t))).run Tryd.prog w' = .ok (.string S5) w') (exact HS.it _ (by with_reducible assumption)) (first
        | (go_at_call 21; with_reducible refine (CK.it _ (by with_reducible assumption)).mono ?_; rintro e w4 ⟨rfl, R4⟩)
        | fail)
      go_wp2_with fail
      go_roundw
      case rel => exact ⟨k + 1, t + n, by go_num, by go_num, by omega, ⟨HT3.it.symm⟩, ⟨R4.it.a⟩⟩
      case measure => simp [intOf]; omega
theorem feedAll_walkU (most : Int) (v : Value) (bs : List Int) (cv : Value) (zs : List Int) (w : World) (B : Base A w) (hz : BytesArgU w v bs) (hc : IntsArgU w cv zs) :
    Calls Tryd.prog 5 #[.int .i64 most, v, cv] w fun e w' => e = .returned (.bool true) ∧ Below w.heap.size w w' := by
  by_cases h : 1 ≤ most ∧ most ≤ 65536
  · exact feedAll_good B h.1 h.2 v bs hz.1 hz.2.1 hz.2.2 cv zs hc.1 hc.2
  · exact feedAll_bad B (by omega) v cv
end
end Go.Proofs.YtjopkefjknnnfaaDoor
