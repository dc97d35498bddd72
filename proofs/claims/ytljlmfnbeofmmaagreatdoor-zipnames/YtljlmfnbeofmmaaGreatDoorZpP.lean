import Derived.Test.YtljlmfnbeofmmaaGreatDoorZpG
import Derived.Test.YtljlmfnbeofmmaaGreatDoorLPut
namespace Go.Proofs.YtljlmfnbeofmmaaGreatDoor
open Go.RowKit

def Nums (k : IntKind) (w : World) (g : Nat) (vs : List Nat) : Prop := ∀ j, j < vs.length → w.cell? ⟨g, j, none⟩ = some (.int k (vs.getD j 0 : Nat))

def les (n : Nat) (vs : List Nat) : List Nat := vs.flatMap (leOf · n)

theorem les_take (n : Nat) (vs : List Nat) (i : Nat) (hi : i < vs.length) : les n (vs.take (i + 1)) = les n (vs.take i) ++ leOf (vs.getD i 0) n := by
 unfold les
 rw [List.take_add_one, List.flatMap_append, List.getD_eq_getElem?_getD, List.getElem?_eq_getElem hi]
 simp

theorem les_length (n : Nat) (vs : List Nat) : (les n vs).length = vs.length * n := by
 unfold les
 induction vs with
 | nil => simp
 | cons a r ih => rw [List.flatMap_cons, List.length_append, ih, leOf_length, List.length_cons, Nat.succ_mul, Nat.add_comm]

set_option maxRecDepth 100000 in
set_option maxHeartbeats 400000 in
theorem put16s_any (w : World) (v : Value) (I : Nat → Prop) (cs : List Nat) (g : Nat) (vs : List Nat) (n : Nat) (hn : n = vs.length) (hs : Src w I v cs) (hl : Nums .u16 w g vs) (hv : ∀ x ∈ vs, x < 65536) (hlen : cs.length ≤ 10000000) (hvl : n ≤ 100) :
  Calls Tryz.prog 73 #[v, .slice (some ⟨g, 0, none⟩) n n] w fun e w' => ∃ v', e = .returned v' ∧ (∃ J, Src w' J v' (cs ++ les 2 vs)) ∧ Same w w' ∧ (1 ≤ n → Fresh w w' v' (cs ++ les 2 vs)) := by
 have HS : Hid (Src w I v cs) := hs
 have HL : Hid (Nums .u16 w g vs) := hl
 have HB : Hid (n = vs.length ∧ (∀ x ∈ vs, x < 65536) ∧ cs.length ≤ 10000000) := hid ⟨hn, hv, hlen⟩
 clear hs hl hv hlen hn
 go_enter Tryz.func73, Tryz.ntmps73
 go_wp2_with fail
 go_loopg [0, 9] n (fun qq z0 z9 wr => ∃ i : Nat, z9 = .int .i64 (i : Nat) ∧ i ≤ n ∧ n - i ≤ qq ∧ Hid ((∃ J, Src wr J z0 (cs ++ les 2 (vs.take i))) ∧ Same w wr ∧ (1 ≤ i → Fresh w wr z0 (cs ++ les 2 (vs.take i)))))
 case atStart => exact ⟨0, rfl, by omega, by omega, hid ⟨⟨I, by simpa [les] using HS.out⟩, Kept.refl _ _, fun h => by omega⟩⟩
 case round =>
  obtain ⟨i, rfl, hi1, hiq, HI⟩ := hrel
  obtain ⟨vb, hvb⟩ : ∃ vb, vb = u0 := ⟨_, rfl⟩
  rw [← hvb] at HI ⊢
  clear hvb
  by_cases hi : i < n
  ·have hli : decide (i < n) = true := by simp; omega
   obtain ⟨x, hx⟩ : ∃ x, x = vs.getD i 0 := ⟨_, rfl⟩
   have hc := HI.out.2.1.cell (HL.out i (by have := HB.out.1; omega)) (fun f => f)
   rw [← hx] at hc
   have hxv : x < 65536 := HB.out.2.1 x (by rw [hx, List.getD_eq_getElem?_getD, List.getElem?_eq_getElem (by have := HB.out.1; omega)]; exact List.getElem_mem _)
   have hiw : IntKind.i64.wrap ((i : Int) + 1) = ((i + 1 : Nat) : Int) := by rw [IntKind.wrap_i64]; omega
   have HX : Hid (x = vs.getD i 0) := hx
   obtain ⟨⟨J, hJ⟩, _, _⟩ := HI.out
   have HPU := put16_any wr vb J _ hJ x rfl hxv (by rw [List.length_append, les_length, List.length_take]; have := HB.out; omega)
   clear hx hJ
   go_wp2_with fail
   refine HPU.mono ?_
   rintro e w2 ⟨v2, rfl, hf⟩
   have HF : Hid (Fresh w w2 v2 (cs ++ les 2 (vs.take (i + 1)))) := hid (by
    rw [les_take 2 vs i (by have := HB.out.1; omega), ← List.append_assoc, ← HX.out]
    exact ⟨hf.row, Same.trans HI.out.2.1 hf.kept, fun k e => Nat.le_trans HI.out.2.1.size (hf.new k e)⟩)
   clear hf HPU
   go_wp2_with fail
   go_roundg (gk - 1)
   case measure => omega
   case rel => exact ⟨i + 1, by go_num, by omega, by omega, hid ⟨⟨_, Src.ofRow HF.out.row⟩, HF.out.kept, fun _ => HF.out⟩⟩
  ·have hli : decide (i < n) = false := by simp; omega
   obtain rfl : i = n := by omega
   go_wp2_with fail
   go_ret
   have ht : vs.take i = vs := List.take_of_length_le (by have := HB.out.1; omega)
   have h9 := HI.out
   rw [ht] at h9
   exact ⟨_, rfl, h9.1, h9.2.1, h9.2.2⟩

set_option maxRecDepth 100000 in
set_option maxHeartbeats 400000 in
theorem put32s_any (w : World) (v : Value) (I : Nat → Prop) (cs : List Nat) (g : Nat) (vs : List Nat) (n : Nat) (hn : n = vs.length) (hs : Src w I v cs) (hl : Nums .u32 w g vs) (hv : ∀ x ∈ vs, x < 4294967296) (hlen : cs.length ≤ 10000000) (hvl : n ≤ 100) :
  Calls Tryz.prog 76 #[v, .slice (some ⟨g, 0, none⟩) n n] w fun e w' => ∃ v', e = .returned v' ∧ (∃ J, Src w' J v' (cs ++ les 4 vs)) ∧ Same w w' ∧ (1 ≤ n → Fresh w w' v' (cs ++ les 4 vs)) := by
 have HS : Hid (Src w I v cs) := hs
 have HL : Hid (Nums .u32 w g vs) := hl
 have HB : Hid (n = vs.length ∧ (∀ x ∈ vs, x < 4294967296) ∧ cs.length ≤ 10000000) := hid ⟨hn, hv, hlen⟩
 clear hs hl hv hlen hn
 go_enter Tryz.func76, Tryz.ntmps76
 go_wp2_with fail
 go_loopg [0, 9] n (fun qq z0 z9 wr => ∃ i : Nat, z9 = .int .i64 (i : Nat) ∧ i ≤ n ∧ n - i ≤ qq ∧ Hid ((∃ J, Src wr J z0 (cs ++ les 4 (vs.take i))) ∧ Same w wr ∧ (1 ≤ i → Fresh w wr z0 (cs ++ les 4 (vs.take i)))))
 case atStart => exact ⟨0, rfl, by omega, by omega, hid ⟨⟨I, by simpa [les] using HS.out⟩, Kept.refl _ _, fun h => by omega⟩⟩
 case round =>
  obtain ⟨i, rfl, hi1, hiq, HI⟩ := hrel
  obtain ⟨vb, hvb⟩ : ∃ vb, vb = u0 := ⟨_, rfl⟩
  rw [← hvb] at HI ⊢
  clear hvb
  by_cases hi : i < n
  ·have hli : decide (i < n) = true := by simp; omega
   obtain ⟨x, hx⟩ : ∃ x, x = vs.getD i 0 := ⟨_, rfl⟩
   have hc := HI.out.2.1.cell (HL.out i (by have := HB.out.1; omega)) (fun f => f)
   rw [← hx] at hc
   have hxv : x < 4294967296 := HB.out.2.1 x (by rw [hx, List.getD_eq_getElem?_getD, List.getElem?_eq_getElem (by have := HB.out.1; omega)]; exact List.getElem_mem _)
   have hiw : IntKind.i64.wrap ((i : Int) + 1) = ((i + 1 : Nat) : Int) := by rw [IntKind.wrap_i64]; omega
   have HX : Hid (x = vs.getD i 0) := hx
   obtain ⟨⟨J, hJ⟩, _, _⟩ := HI.out
   have HPU := put32_any wr vb J _ hJ x rfl hxv (by rw [List.length_append, les_length, List.length_take]; have := HB.out; omega)
   clear hx hJ
   go_wp2_with fail
   refine HPU.mono ?_
   rintro e w2 ⟨v2, rfl, hf⟩
   have HF : Hid (Fresh w w2 v2 (cs ++ les 4 (vs.take (i + 1)))) := hid (by
    rw [les_take 4 vs i (by have := HB.out.1; omega), ← List.append_assoc, ← HX.out]
    exact ⟨hf.row, Same.trans HI.out.2.1 hf.kept, fun k e => Nat.le_trans HI.out.2.1.size (hf.new k e)⟩)
   clear hf HPU
   go_wp2_with fail
   go_roundg (gk - 1)
   case measure => omega
   case rel => exact ⟨i + 1, by go_num, by omega, by omega, hid ⟨⟨_, Src.ofRow HF.out.row⟩, HF.out.kept, fun _ => HF.out⟩⟩
  ·have hli : decide (i < n) = false := by simp; omega
   obtain rfl : i = n := by omega
   go_wp2_with fail
   go_ret
   have ht : vs.take i = vs := List.take_of_length_le (by have := HB.out.1; omega)
   have h9 := HI.out
   rw [ht] at h9
   exact ⟨_, rfl, h9.1, h9.2.1, h9.2.2⟩

end Go.Proofs.YtljlmfnbeofmmaaGreatDoor
