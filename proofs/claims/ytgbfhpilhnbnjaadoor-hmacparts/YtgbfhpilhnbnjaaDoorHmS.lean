/-
  The reference's k and block.
-/
import Derived.Test.YtgbfhpilhnbnjaaDoorHmR
import Derived.Test.YtgbfhpilhnbnjaaDoorHmF
namespace Go.Proofs.YtgbfhpilhnbnjaaDoor
open Go.RowKit

set_option maxRecDepth 100000 in
theorem Tryd.builtK (w : World) : (Instr.build 51 (kL.zipIdx.map fun (x, i) => (i, Value.int .u32 (x : Nat))).toArray).run Tryd.prog w = .ok (.agg (kL.map wordV).toArray) w := by kernel_rfl

set_option maxRecDepth 100000 in
theorem builtK_at (a : Act) (w : World) (parts : Array (Nat × Operand)) (hp : parts = (kL.zipIdx.map fun (x, i) => (i, Operand.const (.int .u32 (x : Nat)))).toArray) : (Instr.build 51 (parts.map fun (i, x) => (i, a.eval x))).run Tryd.prog w = .ok (.agg (kL.map wordV).toArray) w := by
  have e : (parts.map fun (i, x) => (i, a.eval x)) = (kL.zipIdx.map fun (x, i) => (i, Value.int .u32 (x : Nat))).toArray := by
    rw [hp, List.map_toArray, List.map_map]
    rfl
  rw [e]
  exact Tryd.builtK w

set_option maxRecDepth 100000 in
set_option maxHeartbeats 400000 in
theorem rk_any (w : World) : Calls Tryd.prog 27 #[] w fun e w' => e = .returned (.agg (kL.map wordV).toArray) ∧ Same w w' := by
  go_enter Tryd.func27, Tryd.ntmps27
  go_wp2_with (first
    | (with_reducible refine at_alloc 51 0 ?_; refine wpl_alloc 51 _ Tryd.zero64 ?_; intro w2 g2 hB2 hk2 hg2 hl2; have HB2 := hid hB2; have HK2 := hid hk2; clear hB2 hk2)
    | (with_reducible refine at_build 51 ?_; refine wpl_build 51 (.agg (kL.map wordV).toArray) (builtK_at _ _ _ (by kernel_rfl)) ?_)
    | (with_reducible refine at_store 51 0 ?_; refine wpl_store 51 64 Tryd.size64 rfl (cells := kL.map wordV) rfl HB2.out (by simp) (by simp [kL_wds.len]) (wordV_one _) ?_; intro w9 hB9 hk9 hs9; have HB9 := hid hB9; have HK9 := hid hk9; clear hB9 hk9 hs9))
  refine bodyPost_ret (results_cell15 rfl 64 _ Tryd.underlying51 rfl Tryd.size64 _ rfl HB9.out (by simp [kL_wds.len])) rfl ?_
  exact ⟨rfl, HK2.out.then HK9.out (fun x hx e => by omega)⟩

theorem sumW_comm (x y : List Nat) : sumW x y = sumW y x := by
  unfold sumW
  refine List.map_congr_left (fun i _ => ?_)
  unfold add3
  rw [Nat.add_comm]

theorem tsum_i (h wi ch k w : Nat) : (((h : Int) + (wi : Int) + (ch : Int) + (k : Int)) % 4294967296 + (w : Int)) % 4294967296 = ((add3 (add3 (add3 (add3 h wi) ch) k) w : Nat) : Int) := by
  unfold add3
  omega

/-- A round's eight words, read and written as an array. -/
theorem blk_L {w : World} {g : Nat} {s : S8} {t : TypeId} (h : Blk w g (s.L.map wordV).toArray t) : w.cell? ⟨g, 0, none⟩ = some (.int .u32 (s.a : Nat)) ∧ w.cell? ⟨g, 1, none⟩ = some (.int .u32 (s.b : Nat)) ∧ w.cell? ⟨g, 2, none⟩ = some (.int .u32 (s.c : Nat)) ∧ w.cell? ⟨g, 3, none⟩ = some (.int .u32 (s.d : Nat)) ∧
    w.cell? ⟨g, 4, none⟩ = some (.int .u32 (s.e : Nat)) ∧ w.cell? ⟨g, 5, none⟩ = some (.int .u32 (s.f : Nat)) ∧ w.cell? ⟨g, 6, none⟩ = some (.int .u32 (s.g : Nat)) ∧ w.cell? ⟨g, 7, none⟩ = some (.int .u32 (s.h : Nat)) :=
  ⟨h.wcell 0 (by simp [S8.L]), h.wcell 1 (by simp [S8.L]), h.wcell 2 (by simp [S8.L]), h.wcell 3 (by simp [S8.L]), h.wcell 4 (by simp [S8.L]), h.wcell 5 (by simp [S8.L]), h.wcell 6 (by simp [S8.L]), h.wcell 7 (by simp [S8.L])⟩

set_option maxRecDepth 100000 in
set_option maxHeartbeats 1000000 in
theorem rblock_any (w : World) (hs : List Nat) (v : Value) (I : Nat → Prop) (b : List Nat) (hw : Wds 8 hs) (hsrc : Src w I v b) (hI : ∀ k, I k → k < w.heap.size) (hb : ∀ x ∈ b, x < 256) (hl : b.length = 64) :
    Calls Tryd.prog 22 #[.agg (hs.map wordV).toArray, v] w fun e w' => e = .returned (.agg ((mixF hs b).map wordV).toArray) ∧ Same w w' := by
  have HW := hid hw
  have HS := hid hsrc
  have HI := hid hI
  have HB := hid hb
  have HL := hid hl
  have HSW := hid (schW_wds b hb)
  clear hw hsrc hI hb hl
  go_enter Tryd.func22, Tryd.ntmps22
  go_wp2_with (first
    | (with_reducible refine at_box 43 ?_; refine wpl_box 43 (hs.map wordV).toArray rfl ?_; intro w1 g1 hB1 hk1 hg1 hl1; have HB1 := hid hB1; have HK1 := hid hk1; clear hB1 hk1)
    | (with_reducible refine at_alloc 43 4 ?_; refine wpl_alloc 43 _ Tryd.zeroW8 ?_; intro w2 g2 hB2 hk2 hg2 hl2; have HB2 := hid hB2; have HK2 := hid (HK1.out.trans hk2); have HB12 := hid (HB1.out.kept hk2 (fun f => f)); clear hB2 hk2))
  have hsz2 := HK2.out.size
  have hsz1 := HK1.out.size
  refine (rsched_any w2 v I b (HS.out.kept HK2.out (fun _ _ _ f => f)) (fun k hk => by have := HI.out k hk; omega) HB.out HL.out).mono ?_
  rintro e w3 ⟨rfl, hk3⟩
  have HK3 := hid hk3
  have hsz3 := hk3.size
  clear hk3
  go_wp2_with (first
    | (with_reducible refine at_alloc 51 5 ?_; refine wpl_alloc 51 _ Tryd.zero64 ?_; intro w4 g4 hB4 hk4 hg4 hl4; have HB4 := hid hB4; have HK4 := hid hk4; clear hB4 hk4)
    | (with_reducible refine at_store 51 5 ?_; refine wpl_store 51 64 Tryd.size64 rfl (cells := (schW b).map wordV) rfl HB4.out (by simp) (by simp [HSW.out.len]) (wordV_one _) ?_; intro w5 hB5 hk5 hs5; have HB5 := hid hB5; have HK5 : Hid (Same w2 w5) := hid ((HK3.out.trans HK4.out).then hk5 (fun x hx e => by omega)); clear hB5 hk5 HB4 HK4))
  have hl5 : g4 < w5.heap.size := by omega
  have hsz5 : w2.heap.size ≤ w5.heap.size := HK5.out.size
  clear hs5 hl4
  refine (rk_any w5).mono ?_
  rintro e w6 ⟨rfl, hk6⟩
  have HK6 := hid hk6
  have hsz6 := hk6.size
  clear hk6
  go_wp2_with (first
    | (with_reducible refine at_alloc 51 6 ?_; refine wpl_alloc 51 _ Tryd.zero64 ?_; intro w7 g7 hB7 hk7 hg7 hl7; have HB7 := hid hB7; have HK7 := hid hk7; clear hB7 hk7)
    | (with_reducible refine at_store 51 6 ?_; refine wpl_store 51 64 Tryd.size64 rfl (cells := kL.map wordV) rfl HB7.out (by simp) (by simp [kL_wds.len]) (wordV_one _) ?_; intro w8 hB8 hk8 hs8; have HB8 := hid hB8; have HK8 : Hid (Same w5 w8) := hid ((HK6.out.trans HK7.out).then hk8 (fun x hx e => by omega)); have hl8 : g7 < w8.heap.size := (by omega); clear hB8 hk8 HB7 HK7 hs8)
    | (with_reducible refine at_load 43 17 ?_; refine wpl_load 43 8 _ Tryd.underlying43 rfl Tryd.sizeW8 rfl ((HB12.out.kept HK5.out (fun f => f)).kept HK8.out (fun f => f)) (hs.map wordV) (by simp [HW.out.len]) (take_all15 (by simp [HW.out.len])) ?_)
    | (with_reducible refine at_alloc 43 7 ?_; refine wpl_alloc 43 _ Tryd.zeroW8 ?_; intro w9 g9 hB9 hk9 hg9 hl9; have HB9 := hid hB9; have HK9 := hid hk9; clear hB9 hk9)
    | (with_reducible refine at_store 43 7 ?_; refine wpl_store 43 8 Tryd.sizeW8 rfl (cells := hs.map wordV) rfl HB9.out (by simp) (by simp [HW.out.len]) (wordV_one _) ?_; intro w10 hB10 hk10 hs10; have HB10 := hid hB10; have HK10 : Hid (Same w8 w10) := hid (HK9.out.then hk10 (fun x hx e => by omega)); clear hB10 hk10 HB9 HK9 hs10))
  have HB1x := hid (((HB12.out.kept HK5.out (fun f => f)).kept HK8.out (fun f => f)).kept HK10.out (fun f => f))
  have HB2x := hid (((HB2.out.kept HK5.out (fun f => f)).kept HK8.out (fun f => f)).kept HK10.out (fun f => f))
  have HBW := hid ((HB5.out.kept HK8.out (fun f => f)).kept HK10.out (fun f => f))
  have HBK := hid (HB8.out.kept HK10.out (fun f => f))
  have HKW : Hid (Same w w10) := hid (((HK2.out.trans HK5.out).trans HK8.out).trans HK10.out)
  have hsz8 := HK8.out.size
  have n1 : g1 ≠ g9 := by omega
  have n2 : g2 ≠ g9 := by omega
  have n3 : g4 ≠ g9 := by omega
  have n4 : g7 ≠ g9 := by omega
  have n5 : w.heap.size ≤ g9 := by omega
  have n6 : w.heap.size ≤ g2 := by omega
  clear HB1 HB12 HB2 HB5 HB8 HK1 HK2 HK3 HK5 HK6 HK8 HK10 hsz1 hsz2 hsz3 hsz5 hsz6 hsz8 hl1 hl2 hl5 hl7 hl8 hl9 hg1 hg2 hg4 hg7 hg9
  obtain ⟨s0, hs0⟩ : ∃ s0, s0 = S8.of hs := ⟨_, rfl⟩
  have HS0 := hid hs0
  have HOK : Hid (∀ i, (rnds s0 (schW b) i).Ok) := hid (fun i => rnds_ok (by rw [hs0]; exact S8.of_ok HW.out) _ i)
  have HB0 : Hid (Blk w10 g9 ((rnds s0 (schW b) 0).L.map wordV).toArray 43) := hid (by show Blk w10 g9 (s0.L.map wordV).toArray _; rw [hs0, S8.of_L HW.out.len]; exact HB10.out)
  clear hs0 HB10
  obtain ⟨V, hV⟩ : ∃ V : Value, V = .agg (hs.map wordV).toArray := ⟨_, rfl⟩
  obtain ⟨V2, hV2⟩ : ∃ V : Value, V = .agg ((schW b).map wordV).toArray := ⟨_, rfl⟩
  obtain ⟨V3, hV3⟩ : ∃ V : Value, V = .agg (kL.map wordV).toArray := ⟨_, rfl⟩
  rw [← hV, ← hV2, ← hV3]
  clear hV hV2 hV3
  go_loopg [8, 9, 10, 11, 12] 64 (fun k z _ _ _ _ wr => ∃ i : Nat, i ≤ 64 ∧ 64 - i ≤ k ∧ z = .int .i64 (i : Nat) ∧ Hid (Blk wr g9 ((rnds s0 (schW b) i).L.map wordV).toArray 43) ∧ Hid (Kept (· = g9) w10 wr))
  case atStart => exact ⟨0, by omega, by omega, rfl, HB0, hid (Kept.refl _ _)⟩
  case round =>
    clear HB0
    obtain ⟨i, hi, hik, rfl, HBi, HKi⟩ := hrel
    obtain ⟨s, hs'⟩ : ∃ s, s = rnds s0 (schW b) i := ⟨_, rfl⟩
    have HSS := hid hs'
    rw [← hs'] at HBi
    clear hs'
    by_cases hlt : i < 64
    · have hok := HOK.out i
      rw [← HSS.out] at hok
      have HCC := hid (fun (W : World) (hW : Same wr W) => blk_L (HBi.out.kept hW (fun f => f)))
      have HCT := hid (fun (W : World) (hW : Same wr W) => ((HBK.out.kept HKi.out n4).kept hW (fun f => f)).wcell i (by rw [kL_wds.len]; exact hlt))
      have HCW := hid (fun (W : World) (hW : Same wr W) => ((HBW.out.kept HKi.out n3).kept hW (fun f => f)).wcell i (by rw [HSW.out.len]; exact hlt))
      have HRN : Hid (rnds s0 (schW b) (i + 1) = rnd s (kL.getD i 0) ((schW b).getD i 0)) := hid (by rw [rnds, ← HSS.out])
      unfold rnd at HRN
      obtain ⟨kk, hkk⟩ : ∃ x, x = kL.getD i 0 := ⟨_, rfl⟩
      obtain ⟨ww, hww⟩ : ∃ x, x = (schW b).getD i 0 := ⟨_, rfl⟩
      rw [← hkk] at HCT HRN
      rw [← hww] at HCW HRN
      clear hkk hww
      obtain ⟨oa, ob, oc, od, oe, of_, og, oh⟩ := hok
      obtain ⟨sa, sb, sc, sd, se, sf, sg, sh⟩ := s
      simp only [] at oa ob oc od oe of_ og oh
      obtain ⟨x0, x1, x2, x3, x4, x5, x6, x7⟩ := HCC.out wr (Kept.refl _ _)
      try simp only [] at x0 x1 x2 x3 x4 x5 x6 x7
      have ck := HCT.out wr (Kept.refl _ _)
      have cw := HCW.out wr (Kept.refl _ _)
      have p1 : (0 : Int) ≤ (i : Int) := by omega
      have p2 : (i : Int) < 64 := by omega
      go_wp2_with fail
      go_quiet (first
        | (go_at_call 28; exact Calls.quiet_of (rturn_any _ se _ oe (by decide) (by decide))))
      rw [show (if IntKind.u32.signed = true then (-1 : Int) else IntKind.u32.max) = IntKind.u32.max from rfl, wid_i se oe, cho_i se sf sg oe of_ og, tsum_i]
      obtain ⟨tt, htt⟩ : ∃ x, x = add3 (add3 (add3 (add3 sh (widF se)) (choF se sf sg)) kk) ww := ⟨_, rfl⟩
      rw [← htt]
      obtain ⟨w7, hw7⟩ : ∃ w7, w7 = wr.drewN nq := ⟨_, rfl⟩
      rw [← hw7]
      have HK7 : Hid (Same wr w7) := hid (by rw [hw7]; exact (Kept.refl _ _).drewN _)
      clear hw7 x0 x1 x2 x3 x4 x5 x6 x7 ck cw
      obtain ⟨x0, x1, x2, x3, x4, x5, x6, x7⟩ := HCC.out w7 HK7.out
      try simp only [] at x0 x1 x2 x3 x4 x5 x6 x7
      have HTT := hid htt
      clear htt
      go_wp2_with fail
      go_quiet (first
        | (go_at_call 28; exact Calls.quiet_of (rturn_any _ sa _ oa (by decide) (by decide))))
      rw [nar_i sa oa, mos_i sa sb sc oa ob oc, add_m (narF sa) (mosF sa sb sc)]
      obtain ⟨uu, huu⟩ : ∃ x, x = add3 (narF sa) (mosF sa sb sc) := ⟨_, rfl⟩
      rw [← huu]
      have HUU := hid huu
      obtain ⟨w8, hw8⟩ : ∃ w8, w8 = w7.drewN nq := ⟨_, rfl⟩
      rw [← hw8]
      have HK8 : Hid (Same wr w8) := hid (by rw [hw8]; exact HK7.out.drewN _)
      clear hw8 x0 x1 x2 x3 x4 x5 x6 x7 huu
      obtain ⟨x0, x1, x2, x3, x4, x5, x6, x7⟩ := HCC.out w8 HK8.out
      try simp only [] at x0 x1 x2 x3 x4 x5 x6 x7
      have HNL : Hid ((rnds s0 (schW b) (i + 1)).L.map wordV = [.int .u32 (((tt : Int) + (uu : Int)) % 4294967296), .int .u32 (sa : Nat), .int .u32 (sb : Nat), .int .u32 (sc : Nat), .int .u32 (((sd : Int) + (tt : Int)) % 4294967296), .int .u32 (se : Nat), .int .u32 (sf : Nat), .int .u32 (sg : Nat)]) := hid (by
        rw [HRN.out, add_m, add_m, HTT.out, HUU.out]
        rfl)
      have HNB : Hid (Blk w8 g9 ((⟨sa, sb, sc, sd, se, sf, sg, sh⟩ : S8).L.map wordV).toArray 43) := hid (HBi.out.kept HK8.out (fun f => f))
      go_wp2_with (first
        | (with_reducible refine at_store 43 7 ?_; refine wpl_store 43 8 Tryd.sizeW8 rfl (cells := [.int .u32 (((tt : Int) + (uu : Int)) % 4294967296), .int .u32 (sa : Nat), .int .u32 (sb : Nat), .int .u32 (sc : Nat), .int .u32 (((sd : Int) + (tt : Int)) % 4294967296), .int .u32 (se : Nat), .int .u32 (sf : Nat), .int .u32 (sg : Nat)]) rfl HNB.out rfl rfl (by rw [← HNL.out]; exact wordV_one _) ?_; intro w9 hB9 hk9 hs9; have HB9 : Hid (Blk w9 g9 ((rnds s0 (schW b) (i + 1)).L.map wordV).toArray 43) := hid (by rw [HNL.out]; exact hB9); have HK9 := hid hk9; clear hB9 hk9 hs9))
      go_roundg (gk - 1)
      case measure => omega
      case rel => exact ⟨i + 1, by omega, by omega, by go_num, HB9, hid (Kept.trans (Kept.trans HKi.out HK8.out (fun _ _ e => e) (fun _ _ f => f.elim)) HK9.out (fun _ _ e => e) (fun _ _ e => e))⟩
    · have hin : i = 64 := by omega
      subst hin
      have HML : Hid (mixF hs b = sumW s.L hs) := hid (by unfold mixF; rw [HSS.out, HS0.out]; exact sumW_comm _ _)
      have HB7 : Hid (Blk wr g9 ((sumA s.L hs 0).map wordV).toArray 43) := hid (by
        have e : sumA s.L hs 0 = s.L := by simp [sumA]
        rw [e]; exact HBi.out)
      have HSLL : Hid (s.L.length = 8) := hid rfl
      clear HBi HOK
      go_wp2_with fail
      go_loopg [13] 8 (fun k z wr => ∃ i : Nat, i ≤ 8 ∧ 8 - i ≤ k ∧ z = .int .i64 (i : Nat) ∧ Hid (Blk wr g9 ((sumA s.L hs i).map wordV).toArray 43) ∧ Hid (Kept (· = g9) w10 wr))
      case atStart => exact ⟨0, by omega, by omega, rfl, HB7, HKi⟩
      case round =>
        clear HB7 HKi
        obtain ⟨i, hi, hik, rfl, HBi, HKi⟩ := hrel
        by_cases hlt : i < 8
        · have c1 := HBi.out.wcell i (by unfold sumA; rw [List.length_append, List.length_take, List.length_drop, (sumW_wds _ _).len, HSLL.out]; omega)
          have f1 := HBi.out.frozen i
          have c2 := (HB1x.out.kept HKi.out n1).wcell i (by rw [HW.out.len]; exact hlt)
          have HN : Hid (sumA s.L hs (i + 1) = (sumA s.L hs i).set i (add3 (s.L.getD i 0) (hs.getD i 0))) := hid (sumA_next s.L hs i hlt HSLL.out).symm
          rw [sumA_get s.L hs i hlt] at c1
          obtain ⟨x, hxe⟩ : ∃ x, x = s.L.getD i 0 := ⟨_, rfl⟩
          obtain ⟨y, hye⟩ : ∃ x, x = hs.getD i 0 := ⟨_, rfl⟩
          rw [← hxe] at c1 HN
          rw [← hye] at c2 HN
          have hw := add_w x y
          obtain ⟨z, hz⟩ : ∃ z, z = add3 x y := ⟨_, rfl⟩
          rw [← hz] at hw HN
          have p1 : (0 : Int) ≤ (i : Int) := by omega
          have p2 : (i : Int) < 8 := by omega
          clear hxe hye hz
          go_wp2_with fail
          go_region
          go_wp2_with fail
          go_roundg (gk - 1)
          case measure => omega
          case rel =>
            refine ⟨i + 1, by omega, by omega, by go_num, ?_, hid ((HKi.out.setCell _ _ (.inl rfl)).drew)⟩
            have h9 := HBi.out.wset i z
            rw [← HN.out] at h9
            exact hid h9
        · have hin : i = 8 := by omega
          subst hin
          rw [sumA_8 _ _ HSLL.out, ← HML.out] at HBi
          go_wp2_with (first
            | (with_reducible refine at_load 43 113 ?_; refine wpl_load 43 8 _ Tryd.underlying43 rfl Tryd.sizeW8 rfl HBi.out ((mixF hs b).map wordV) (by simp [(mixF_wds hs b).len]) (take_all15 (by simp [(mixF_wds hs b).len])) ?_)
            | (with_reducible refine at_store 43 4 ?_; refine wpl_store 43 8 Tryd.sizeW8 rfl (cells := (mixF hs b).map wordV) rfl (HB2x.out.kept HKi.out n2) (by simp) (by simp [(mixF_wds hs b).len]) (wordV_one _) ?_; intro w9 hB9 hk9 hs9; have HB9 := hid hB9; have HK9 := hid hk9; clear hB9 hk9 hs9))
          refine bodyPost_ret (results_cell15 rfl 8 _ Tryd.underlying43 rfl Tryd.sizeW8 _ rfl HB9.out (by simp [(mixF_wds hs b).len])) rfl ?_
          exact ⟨rfl, (HKW.out.then HKi.out (fun x hx e => by omega)).then HK9.out (fun x hx e => by omega)⟩

end Go.Proofs.YtgbfhpilhnbnjaaDoor
