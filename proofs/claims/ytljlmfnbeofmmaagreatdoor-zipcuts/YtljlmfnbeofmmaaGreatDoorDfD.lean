import Derived.Test.YtljlmfnbeofmmaaGreatDoorDfC
import Derived.Test.YtljlmfnbeofmmaaGreatDoorFresh
namespace Go.Proofs.YtljlmfnbeofmmaaGreatDoor
open Go.RowKit

theorem pad_of (bs X : List Nat) (hb : ∀ b ∈ bs, b < 256) (hX : ∀ b ∈ X, b < 2) (hn : n256 bs = n2 X) (hl : bs.length = (X.length + 7) / 8) : Packs bs X := by
 refine ⟨⟨8 * bs.length - X.length, ?_⟩, hl⟩
 refine n2_inj _ _ (by rw [ofBytes_length, List.length_append, List.length_replicate]; omega) (ofBytes_lt bs) (fun x hx => ?_) ?_
 ·rcases List.mem_append.1 hx with h | h
  ·exact hX x h
  ·have := List.eq_of_mem_replicate h; omega
 ·rw [ofBytes_n2 bs hb, n2_align, hn]

structure NB (wb w : World) (v : Value) (bs : List Nat) : Prop where
 row : Row w v bs
 byte : ∀ b ∈ bs, b < 256
 same : Same wb w
 new : ∀ k, v.ownBlock = some k → wb.heap.size ≤ k

theorem NW.bytes (wb w : World) (p : Nat) (s : Value) (X : List Nat) (h : NW wb w p s X) (hc : X.length ≤ 1000000000) :
  Calls Tryz.prog 82 #[.pointer (some ⟨p, 0, none⟩)] w fun e w' => ∃ v bs, e = .returned v ∧ NB wb w' v bs ∧ n256 bs = n2 X ∧ bs.length = (X.length + 7) / 8 := by
 refine (wbytes_any p _ _ s w h.wr (by omega)).mono ?_
 rintro e w' ⟨g, bs, rfl, hr, hb, hn, hl, hk, hg⟩
 exact ⟨_, bs, rfl, ⟨hr, hb, Same.trans h.same hk, fun k e => by
  have e1 : g = k := by simpa [Value.ownBlock] using e
  have := h.same.size
  omega⟩, hn, hl⟩

theorem NW.align (wb w : World) (p : Nat) (s : Value) (X : List Nat) (h : NW wb w p s X) (hc : X.length ≤ 1000000000) :
  Calls Tryz.prog 80 #[.pointer (some ⟨p, 0, none⟩)] w fun e w' => e = .returned (.int .i64 0) ∧ NW wb w' p s (X ++ List.replicate ((X.length + 7) / 8 * 8 - X.length) 0) := by
 refine (walign_any p _ _ s w h.wr (by omega)).mono ?_
 rintro e w' ⟨rfl, hw, hk⟩
 refine ⟨rfl, ?_, fun b hb => ?_, Same.then h.same hk (fun k hk9 f => by have := h.own k f; omega), h.own⟩
 ·rw [n2_align, List.length_append, List.length_replicate, show X.length + ((X.length + 7) / 8 * 8 - X.length) = (X.length + 7) / 8 * 8 by omega]
  exact hw
 ·rcases List.mem_append.1 hb with h9 | h9
  ·exact h.bit b h9
  ·have := List.eq_of_mem_replicate h9; omega

theorem xor16 (x : Nat) (hx : x < 65536) : bits BinOp.xor IntKind.u32 (x : Int) 65535 = ((65535 - x : Nat) : Int) := by
 have e := u32_xor_nat x 65535 (by omega) (by decide)
 have h4 : (2 : Nat) ^ 16 - 1 = 65535 := by decide
 have h5 := BitVec.toNat_not (x := BitVec.ofNat 16 x)
 have h6 : (BitVec.ofNat 16 x ^^^ BitVec.allOnes 16).toNat = x ^^^ 65535 := by
  rw [BitVec.toNat_xor, BitVec.toNat_ofNat, BitVec.toNat_allOnes, Nat.mod_eq_of_lt (by omega)]
 have h7 : x ^^^ 65535 = 65535 - x := by
  rw [← h6, BitVec.xor_allOnes, h5, BitVec.toNat_ofNat, Nat.mod_eq_of_lt (by omega)]
 rw [show (65535 : Int) = ((65535 : Nat) : Int) from rfl, e, h7]

theorem stored_bits {bs : List Nat} {n : Nat} (hb : ∀ b ∈ bs, b < 256) (hn16 : n ≤ 16384) (hn : n256 bs = n2 ([1] ++ bitsOf 0 2 ++ List.replicate 5 0 ++ bitsOf n 16 ++ bitsOf (65535 - n) 16)) (hl : bs.length = 5) : bs = [1, n % 256, n / 256, 255 - n % 256, 255 - n / 256] := by
 refine n256_inj _ _ (by rw [hl]; rfl) hb (fun x hx => ?_) ?_
 ·simp at hx; omega
 ·rw [hn, n2_append, n2_append, bitsOf_n2, bitsOf_n2, Nat.mod_eq_of_lt (by omega), Nat.mod_eq_of_lt (by omega)]
  simp only [List.length_append, List.length_replicate, bitsOf_length, List.length_cons, List.length_nil]
  have e1 : n2 ([1] ++ bitsOf 0 2 ++ List.replicate 5 0) = 1 := by decide
  rw [e1]
  simp only [n256]
  omega

set_option maxRecDepth 100000 in
set_option maxHeartbeats 1000000 in
theorem stored_any (w : World) (v : Value) (I : Nat → Prop) (data : List Nat) (hs : Src w I v data) (hb : ∀ b ∈ data, b < 256) (hnil : ∀ n c, v = .slice none n c → n = 0 ∧ c = 0) (hlen : data.length ≤ 16384) :
  Calls Tryz.prog 42 #[v] w fun e w' => ∃ v', e = .returned v' ∧ NB w w' v' (storeB data) := by
 obtain ⟨av, cv, hvv, _⟩ := id hs
 obtain ⟨n, hn⟩ : ∃ n, data.length = n := ⟨_, rfl⟩
 rw [hn] at hvv hlen
 subst hvv
 have HS : Hid (Src w I (.slice av n cv) data) := hs
 have HB : Hid (∀ b ∈ data, b < 256) := hb
 have HN : Hid (∀ n' c, Value.slice av n cv = .slice none n' c → n' = 0 ∧ c = 0) := hnil
 have HL : Hid (data.length = n) := hn
 have H0 := begin_any w 0 (by decide)
 have hnw : IntKind.u32.wrap (n : Int) = (n : Int) := by rw [IntKind.wrap_u32']; omega
 have hxr := xor16 n (by omega)
 obtain ⟨m, hm⟩ : ∃ m, 65535 - n = m := ⟨_, rfl⟩
 rw [hm] at hxr
 have HM : Hid (65535 - n = m) := hm
 clear hs hb hnil hn hm
 go_enter Tryz.func42, Tryz.ntmps42
 go_wp2_with fail
 refine H0.mono ?_
 rintro e w1 ⟨p, s, rfl, hw1⟩
 have H1 := hw1.align w w1 p s _ (by simp [bitsOf])
 clear hw1 H0
 go_wp2_with fail
 refine H1.mono ?_
 rintro e w2 ⟨rfl, hw2⟩
 have hw2 : NW w w2 p s ([1] ++ bitsOf 0 2 ++ List.replicate 5 0) := hw2
 have H2 := hw2.put w w2 p s _ n 16 (by decide) (by omega) (by simp [bitsOf])
 clear hw2 H1
 go_wp2_with fail
 refine H2.mono ?_
 rintro e w3 ⟨rfl, _, _, s3, hw3⟩
 have H3 := hw3.put w w3 p s3 _ m 16 (by decide) (by have := HM.out; omega) (by simp [bitsOf_length])
 clear hw3 H2
 go_wp2_with fail
 refine H3.mono ?_
 rintro e w4 ⟨rfl, _, _, s4, hw4⟩
 have H4 := hw4.bytes w w4 p s4 _ (by simp [bitsOf_length])
 clear hw4 H3
 go_wp2_with fail
 refine H4.mono ?_
 rintro e w5 ⟨v5, bs, rfl, hnb, hn5, hl5⟩
 have hbs : bs = [1, n % 256, n / 256, 255 - n % 256, 255 - n / 256] := stored_bits hnb.byte hlen (by rw [HM.out]; exact hn5) (by rw [hl5]; simp [bitsOf_length])
 rw [hbs] at hnb
 have HNB : Hid (NB w w5 v5 [1, n % 256, n / 256, 255 - n % 256, 255 - n / 256]) := hnb
 have HR5 : Hid (Row w5 v5 [1, n % 256, n / 256, 255 - n % 256, 255 - n / 256]) := hid hnb.row
 have HS5 : Hid (Src w5 I (.slice av n cv) data) := hid (HS.out.kept hnb.same (fun _ _ _ f => f))
 have HLB : Hid (([1, n % 256, n / 256, 255 - n % 256, 255 - n / 256] : List Nat).length + data.length ≤ 1000000000000) := hid (by rw [HL.out]; simp; omega)
 obtain ⟨a5, c5, hv5, _⟩ := hnb.row.shape
 simp only [List.length_cons, List.length_nil] at hv5
 subst hv5
 clear hnb hn5 hl5 hbs H4 hxr hnw
 go_wp2_with (at_builtin; refine wpList_append_any _ rfl (.tmp 19) (.tmp 20) rfl _ [1, n % 256, n / 256, 255 - n % 256, 255 - n / 256] rfl HR5.out I (.slice av n cv) data rfl HN.out HS5.out HLB.out ?_)
 intro v6 w6 hr6 hg6 ho6
 have hk56 : Kept (fun k => (Value.slice a5 (0 + 1 + 1 + 1 + 1 + 1) c5).ownBlock = some k) w5 w6 := (Kept.refl _ w5).grown hg6 (fun k e => .inl e)
 have HF : Hid (NB w w6 v6 (storeB data)) := hid ⟨by unfold storeB; rw [HL.out]; exact hr6, fun b hb => by
  unfold storeB at hb
  rw [HL.out] at hb
  rcases List.mem_append.1 hb with h | h
  ·exact HNB.out.byte b h
  ·exact HB.out b h, Same.then HNB.out.same hk56 (fun k hk e => by have := HNB.out.new k e; omega), fun k e => by
   rcases ho6 with h | h
   ·rw [h] at e; exact HNB.out.new k e
   ·rw [h] at e; injection e with e; have := HNB.out.same.size; omega⟩
 obtain ⟨a6, c6, hv6, _⟩ := hr6.shape
 clear hr6 hg6 ho6 hk56
 go_wp2_with fail
 go_ret
 exact ⟨_, rfl, HF.out⟩

end Go.Proofs.YtljlmfnbeofmmaaGreatDoor
