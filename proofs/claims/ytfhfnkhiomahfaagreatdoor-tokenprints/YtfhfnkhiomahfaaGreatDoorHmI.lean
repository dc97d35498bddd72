/-
  The program's Sum of a hash, and Sum.
-/
import Derived.Test.YtfhfnkhiomahfaaGreatDoorHmH
namespace Go.Proofs.YtfhfnkhiomahfaaGreatDoor
open Go.RowKit

theorem Tryz.zeroHash : (Tryz.prog.info? 128).bind (·.zero) = some (.agg (hCells (List.replicate 8 0) (List.replicate 64 0) 0).toArray) := by kernel_rfl
theorem Tryz.sizeHash : (Tryz.prog.info? 128).map (·.size) = some 73 := by kernel_rfl

theorem hCells_one (ws bs : List Nat) (n : Nat) : ∀ v ∈ hCells ws bs n, v.oneCell' = true := by
  intro v hv
  rcases List.mem_append.1 hv with h | h
  · exact wordV_one _ v h
  · rcases List.mem_append.1 h with q | q
    · exact byteV_one _ v q
    · simp at q; rw [q]; rfl

theorem Row.cap {w : World} {v : Value} {bs : List Nat} (h : Row w v bs) : ∀ a n c, v = .slice a n c → n ≤ c := by
  intro a n c e
  rcases h.2 with ⟨rfl, hn⟩ | ⟨g, cap, cur, rfl, _, _, hle, _⟩
  · injection e with _ e2 e3; omega
  · injection e with _ e2 e3; omega

theorem Tab15.lt {w : World} (h : Tab15 w) : 2 < w.heap.size := World.block_lt_of_cell? w _ (h 0 (by omega))

theorem sha_of {all : List Nat} : digB (blkS (all ++ tailB all.length) ((all ++ tailB all.length).length / 64)) = shaF all := rfl

set_option maxRecDepth 100000 in
set_option maxHeartbeats 1000000 in
theorem hsum_any (w : World) (p : Nat) (all : List Nat) (h : Hs w p all) (hT : Tab15 w) (hlen : all.length ≤ 500000000) :
    Calls Tryz.prog 62 #[.pointer (some ⟨p, 0, none⟩)] w fun e w' => e = .returned (.agg ((shaF all).map byteV).toArray) ∧ Same w w' := by
  have H : Hid (Hs w p all) := h
  have HT : Hid (Tab15 w) := hT
  obtain ⟨⟨blk, hB, ht⟩, hby⟩ := h
  have HTK := hid ht
  have HBY := hid hby
  have HBL := hid hB
  obtain ⟨sz, hsz⟩ : ∃ x, x = all.length := ⟨_, rfl⟩
  have HSZ := hid hsz
  have HLE : Hid (sz ≤ 500000000) := hid (by omega)
  clear hT hB ht hby
  rw [← hsz] at HBL HTK
  obtain ⟨ws, hws⟩ : ∃ x, x = blkS all (sz / 64) := ⟨_, rfl⟩
  rw [← hws] at HBL
  have HWS := hid hws
  clear hws hsz hlen
  go_enter Tryz.func62, Tryz.ntmps62
  go_wp2_with (first
    | (with_reducible refine at_alloc 86 2 ?_; refine wpl_alloc 86 _ Tryz.zero32 ?_; intro w2 g2 hB2 hk2 hg2 hl2; have HB2 := hid hB2; have HK2 := hid hk2; clear hB2 hk2)
    | (with_reducible refine at_load 128 9 ?_; refine wpl_load 128 73 _ Tryz.underlying128 rfl Tryz.sizeHash rfl (HBL.out.kept HK2.out (fun f => f)).blk (hCells ws blk sz) (hCells_length HBL.out.wds.len HBL.out.len) (take_all15 (hCells_length HBL.out.wds.len HBL.out.len)) ?_)
    | (with_reducible refine at_alloc 128 3 ?_; refine wpl_alloc 128 _ Tryz.zeroHash ?_; intro w3 g3 hB3 hk3 hg3 hl3; have HB3 := hid hB3; have HK3 := hid hk3; clear hB3 hk3)
    | (with_reducible refine at_store 128 3 ?_; refine wpl_store 128 73 Tryz.sizeHash rfl (cells := hCells ws blk sz) rfl HB3.out (by simp [hCells]) (hCells_length HBL.out.wds.len HBL.out.len) (hCells_one _ _ _) ?_; intro w4 hB4 hk4 hs4; have HB4 := hid hB4; have HK4 : Hid (Same w2 w4) := hid (HK3.out.then hk4 (fun x hx e => by omega)); have c72 := ((HBL.out.kept HK2.out (fun f => f)).kept HK4.out (fun f => f)).ncell; clear hB4 hk4 HB3 HK3))
  refine (htail_any w4 sz (by have := HLE.out; omega)).mono ?_
  rintro e w5 ⟨v, rfl, hF⟩
  have HF := hid hF
  have HK5 := hid hF.kept
  have H5 : Hid (Hs w5 g3 all) := hid (by
    refine Hs.kept (w := w4) ⟨⟨blk, ?_, ?_⟩, HBY.out⟩ hF.kept (fun f => f)
    · rw [← HSZ.out, ← HWS.out]
      exact ⟨HB4.out, HBL.out.wds, HBL.out.len, HBL.out.byt⟩
    · rw [← HSZ.out]; exact HTK.out)
  have HT5 : Hid (Tab15 w5) := hid (((HT.out.kept HK2.out (fun f => f)).kept HK4.out (fun f => f)).kept HK5.out (fun f => f))
  have HGN : Hid (g3 ≠ 2) := hid (by have := (HT.out.kept HK2.out (fun f => f)).lt; omega)
  have HW := hwrite_any w5 g3 all v (fun k => v.ownBlock = some k) (tailB sz) H5.out (Src.ofRow hF.row) (fun k hk e => by have := hF.new k hk; omega) hF.row.cap (tailB_lt sz) HT5.out HGN.out (by rw [tailB_length, ← HSZ.out]; unfold zeN; have := HLE.out; omega)
  clear hF c72
  go_wp2_with fail
  refine HW.mono ?_
  rintro e w6 ⟨⟨u, rfl⟩, hH6, hk6⟩
  obtain ⟨⟨blk6, hB6, _⟩, _⟩ := hH6
  have HB6 := hid hB6
  have HK6 := hid hk6
  obtain ⟨ws6, hws6⟩ : ∃ x, x = blkS (all ++ tailB sz) ((all ++ tailB sz).length / 64) := ⟨_, rfl⟩
  rw [← hws6] at HB6
  have HD : Hid (digB ws6 = shaF all) := hid (by rw [hws6, HSZ.out]; rfl)
  clear hB6 hk6 HW hws6
  go_wp2_with (first
    | (with_reducible refine at_load 125 17 ?_; refine wpl_load 125 8 _ Tryz.underlying125 rfl Tryz.sizeW8 rfl HB6.out.blk (ws6.map wordV) (by simp [HB6.out.wds.len]) HB6.out.words ?_))
  refine (digest_any w6 ws6 HB6.out.wds).mono ?_
  rintro e w7 ⟨rfl, hk7⟩
  have HK7 := hid hk7
  clear hk7
  rw [HD.out]
  have HK26 : Hid (Same w2 w7) := hid (((HK4.out.trans HK5.out).then HK6.out (fun x hx e => by omega)).trans HK7.out)
  go_wp2_with (first
    | (with_reducible refine at_store 86 2 ?_; refine wpl_store 86 32 Tryz.size32 rfl (cells := (shaF all).map byteV) rfl (HB2.out.kept HK26.out (fun f => f)) (by simp) (by simp [shaF_length]) (byteV_one _) ?_; intro w9 hB9 hk9 hs9; have HB9 := hid hB9; have HK9 := hid hk9; clear hB9 hk9 hs9))
  refine bodyPost_ret (results_cell15 rfl 32 _ Tryz.underlying86 rfl Tryz.size32 _ rfl HB9.out (by simp [shaF_length])) rfl ?_
  exact ⟨rfl, (HK2.out.trans HK26.out).then HK9.out (fun x hx e => by omega)⟩

end Go.Proofs.YtfhfnkhiomahfaaGreatDoor
