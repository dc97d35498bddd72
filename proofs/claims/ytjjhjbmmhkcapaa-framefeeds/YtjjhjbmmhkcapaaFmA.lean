/-
  Layer 18: whole, sound, frameOf, bytes.Clone; a part of bytes.
-/
import Derived.Test.YtjjhjbmmhkcapaaFmM
import Derived.Test.YtjjhjbmmhkcapaaLGets
import Derived.Test.YtjjhjbmmhkcapaaLSum
import Derived.Test.YtjjhjbmmhkcapaaTxtW
import Derived.Test.YtjjhjbmmhkcapaaAppN
import Derived.Test.YtjjhjbmmhkcapaaBk2
import Derived.Test.YtjjhjbmmhkcapaaArr
import Derived.Test.YtjjhjbmmhkcapaaCln
import Derived.BigRegion
import Derived.Lib.SliceRun
import Derived.StillTailTactics
namespace Go.Proofs.Ytjjhjbmmhkcapaa
open Go.RowKit

/-- A part of bytes. -/
theorem Src.sub {w : World} {I : Nat → Prop} {a a' : Option Addr} {n c : Nat} {bs : List Nat} (hs : Src w I (.slice a n c) bs) (i j : Nat) (hj : i + j ≤ bs.length) (ha : 0 < j → ∀ b o, a = some ⟨b, o, none⟩ → a' = some ⟨b, o + i, none⟩) (c' : Nat) : Src w I (.slice a' j c') ((bs.drop i).take j) := by
  obtain ⟨ao, cp, e, h⟩ := hs
  simp only [Value.slice.injEq] at e
  obtain ⟨rfl, rfl, rfl⟩ := e
  have hl : ((bs.drop i).take j).length = j := by rw [List.length_take, List.length_drop]; omega
  refine ⟨a', c', by rw [hl], fun hne => ?_⟩
  obtain ⟨b, o, rfl, h2, h3⟩ := h (fun e => hne (by rw [e]; simp))
  have hj0 : 0 < j := by
    rcases Nat.eq_zero_or_pos j with e | e
    · exact absurd (by rw [e]; exact List.take_zero) hne
    · exact e
  refine ⟨b, o + i, ha hj0 b o rfl, h2, fun k hk => ?_⟩
  rw [hl] at hk
  rw [List.getElem_take, List.getElem_drop, Nat.add_assoc]
  exact h3 (i + k) (by omega)

theorem lenF_lt (cs : List Nat) (hb : ∀ b ∈ cs, b < 256) : lenF cs < 4294967296 := by
  unfold lenF
  split
  · omega
  · have h := n256_lt (cs.take 4) (fun b h => hb b (List.mem_of_mem_take h))
    exact Nat.lt_of_lt_of_le h (Nat.pow_le_pow_right (by omega) (List.length_take_le _ _))

theorem lenF_got (cs : List Nat) : gotV cs 0 4 = lenF cs := by
  unfold gotV lenF bytN
  by_cases h : cs.length < 4
  · rw [if_neg (by omega), if_pos h]
  · rw [if_pos (by omega), if_neg h]; simp

theorem gotE_zero (n : Nat) : gotE n 0 4 = if n < 4 then 20 else 0 := by
  unfold gotE
  by_cases h : n < 4
  · rw [if_neg (by omega), if_pos h]
  · rw [if_pos (by omega), if_neg h]

theorem nat_beq (a b : Nat) : ((a : Int) == (b : Int)) = (a == b) := by
  rw [Bool.eq_iff_iff]; simp; omega

theorem wrap64_small (m : Nat) (h : m ≤ 9000000000) : IntKind.i64.wrap (m : Int) = (m : Int) := by rw [IntKind.wrap_i64]; omega

theorem Same.bel {w w' : World} (h : Below w.heap.size w w') : Same w w' := Kept.ofBelow h

theorem whole_any (w : World) (v : Value) (I : Nat → Prop) (cs : List Nat) (hsrc : Src w I v cs) (hroom : ∀ a n c, v = .slice a n c → n ≤ c) (hb : ∀ b ∈ cs, b < 256) (hlen : cs.length ≤ 100000000) :
    Calls Try.prog 28 #[v] w fun e w' => e = .returned (.int .i64 ((lenF cs + 9 : Nat) : Int)) ∧ Same w w' := by
  have HC := get32_any w v I cs hsrc hroom hb hlen 0
  have hV := lenF_lt cs hb
  rw [lenF_got] at HC
  obtain ⟨V, hVV⟩ : ∃ V, V = lenF cs := ⟨_, rfl⟩
  obtain ⟨E, hEE⟩ : ∃ E, E = gotE cs.length 0 4 := ⟨_, rfl⟩
  rw [← hVV] at hV ⊢
  rw [← hVV, ← hEE] at HC
  clear hVV hEE hsrc hroom
  go_enter Try.func28, Try.ntmps28
  go_wp2_with fail
  refine HC.mono ?_
  rintro e w' ⟨rfl, hbel⟩
  have HK := hid (Same.bel hbel)
  clear hbel HC
  go_wp2_with fail
  go_ret
  refine ⟨?_, HK.out⟩
  first | rfl | (congr 2; omega)

/-- Is the check right? -/
def sndF (cs : List Nat) : Bool := n256 ((cs.drop (cs.length - 4)).take 4) == more 0 ((cs.drop 4).take (cs.length - 8))

theorem sound_any (w : World) (b o n c : Nat) (I : Nat → Prop) (cs : List Nat) (hsrc : Src w I (.slice (some ⟨b, o, none⟩) n c) cs) (hroom : n ≤ c) (hb : ∀ b ∈ cs, b < 256) (hlen : cs.length ≤ 100000000) (h8 : 9 ≤ n) :
    Calls Try.prog 29 #[.slice (some ⟨b, o, none⟩) n c] w fun e w' => e = .returned (.bool (sndF cs)) ∧ Same w w' := by
  have hcl : n = cs.length := (Src.at hsrc).1
  have HC := get32_any w _ I cs hsrc (fun a n' c' e => by injection e with _ e2 e3; omega) hb hlen ((n - 4 : Nat) : Int)
  have hV := gotV_lt cs hb ((n - 4 : Nat) : Int) 4
  have hVe : gotV cs ((n - 4 : Nat) : Int) 4 = n256 ((cs.drop (cs.length - 4)).take 4) := by
    unfold gotV bytN
    rw [if_pos (by omega)]
    simp [hcl]
  obtain ⟨V, hVV⟩ : ∃ V, V = gotV cs ((n - 4 : Nat) : Int) 4 := ⟨_, rfl⟩
  obtain ⟨E, hEE⟩ : ∃ E, E = gotE cs.length ((n - 4 : Nat) : Int) 4 := ⟨_, rfl⟩
  obtain ⟨m, hm⟩ : ∃ m, n = m + 4 := ⟨n - 4, by omega⟩
  have hm1 : n - 4 = m := by omega
  have hS : Src w I (.slice (some ⟨b, o + 4, none⟩) (m - 4) (c - 4)) ((cs.drop 4).take (cs.length - 8)) := by
    have e : cs.length - 8 = m - 4 := by omega
    rw [e]
    exact hsrc.sub 4 (m - 4) (by omega) (fun _ b' o' e => by injection e with e; injection e with e1 e2; subst e1 e2; rfl) _
  have HS : Hid (∀ W, Same w W → Calls Try.prog 24 #[.slice (some ⟨b, o + 4, none⟩) (m - 4) (c - 4)] W fun e w' => e = .returned (.int .u32 (more 0 ((cs.drop 4).take (cs.length - 8)) : Nat)) ∧ w' = W) := hid (fun W hk =>
    lsum_any W _ I _ (hS.kept hk (fun _ _ _ f => f)) (fun x hx => hb x (List.mem_of_mem_drop (List.mem_of_mem_take hx))) (by rw [List.length_take, List.length_drop]; omega))
  unfold sndF
  rw [← hVV] at hV hVe
  rw [← hVe]
  rw [← hVV, ← hEE, hm1] at HC
  obtain ⟨M, hM⟩ : ∃ M, M = more 0 ((cs.drop 4).take (cs.length - 8)) := ⟨_, rfl⟩
  rw [← hM] at HS ⊢
  have hV2 : V < 4294967296 := hV
  have hml : 5 ≤ m ∧ m + 4 ≤ c ∧ m ≤ 100000000 := by omega
  subst hm
  clear hV hVe hVV hEE hM hS hsrc hroom hcl hm1
  go_enter Try.func29, Try.ntmps29
  go_wp2_with fail
  refine HC.mono ?_
  rintro e w1 ⟨rfl, hbel⟩
  have HK := hid (Same.bel hbel)
  clear hbel HC
  go_wp2_with fail
  refine (HS.out _ HK.out).mono ?_
  rintro e w2 ⟨rfl, rfl⟩
  go_wp2_with fail
  go_ret
  refine ⟨?_, HK.out⟩
  rw [← nat_beq V M]
  rfl

/-- A frame's cells. -/
def fmE (f : Fm) : List Value := [.int .i64 f.k, .string f.s]
def fmV (f : Fm) : Value := .agg #[.int .i64 f.k, .string f.s]
theorem fmE_ok : EncOk fmE 2 := ⟨fun _ => rfl, fun x u hu => by simp [fmE] at hu; rcases hu with rfl | rfl <;> rfl, by decide⟩

theorem Try.zeroFm : (Try.prog.info? 23).bind (·.zero) = some (.agg #[.int .i64 0, .string ⟨#[]⟩]) := by kernel_rfl
theorem Try.sizeFm : (Try.prog.info? 23).map (·.size) = some 2 := by kernel_rfl

/-- Which frame its bytes are. -/
def ofF (cs : List Nat) : Fm := ⟨((cs[4]?.getD 0 : Nat) : Int), txt ((cs.drop 5).take (cs.length - 9))⟩

set_option maxRecDepth 100000 in
set_option maxHeartbeats 1000000 in
theorem frameOf_any (w : World) (b o n c : Nat) (I : Nat → Prop) (cs : List Nat) (hsrc : Src w I (.slice (some ⟨b, o, none⟩) n c) cs) (hroom : n ≤ c) (hb : ∀ b ∈ cs, b < 256) (hlen : cs.length ≤ 100000000) (h9 : 9 ≤ n) :
    Calls Try.prog 30 #[.slice (some ⟨b, o, none⟩) n c] w fun e w' => e = .returned (fmV (ofF cs)) ∧ Same w w' := by
  have hcl : n = cs.length := (Src.at hsrc).1
  obtain ⟨W1, hW1⟩ : ∃ W, W = w.alloc (.cells #[.int .i64 0, .string ⟨#[]⟩] 23) := ⟨_, rfl⟩
  obtain ⟨xb, hxb⟩ : ∃ b, b = w.heap.size := ⟨_, rfl⟩
  have HK1 : Hid (Same w W1 ∧ w.heap.size ≤ xb) := hid ⟨by rw [hW1]; exact (Kept.refl _ w).alloc _, by omega⟩
  have HB : Hid (Blk W1 xb #[.int .i64 0, .string ⟨#[]⟩] 23) := hid (by rw [hW1, hxb]; exact Blk.new w _ _)
  have hs1 := hsrc.kept HK1.out.1 (fun _ _ _ f => f)
  obtain ⟨k, hk⟩ : ∃ k, k = cs[4]'(by omega) := ⟨_, rfl⟩
  have hk2 : k < 256 := by rw [hk]; exact hb _ (List.getElem_mem _)
  obtain ⟨T, hT⟩ : ∃ T, T = txt ((cs.drop 5).take (cs.length - 9)) := ⟨_, rfl⟩
  have ck : W1.cell? ⟨b, o + 4, none⟩ = some (.int .u8 (k : Nat)) := by
    obtain ⟨ao, cp, e, h⟩ := hs1
    injection e with e1 e2 e3
    subst e1
    obtain ⟨b', o', e4, _, h3⟩ := h (by intro e; rw [e] at hcl; simp at hcl; omega)
    injection e4 with e4
    injection e4 with e4 e5
    subst e4 e5
    rw [h3 4 (by omega), hk]
  obtain ⟨m, hm⟩ : ∃ m, n = m + 4 := ⟨n - 4, by omega⟩
  subst hm
  have HCV : Hid (∀ W, Same W1 W → (convert 25 9 (.slice (some ⟨b, o + 5, none⟩) (m - 5) (c - 5))).run Try.prog W = .ok (.string T) W) := hid (fun W hkW => by
    rw [hT]
    refine str8 (I := I) ?_ (by rw [List.length_take, List.length_drop]; omega)
    have e : cs.length - 9 = m - 5 := by omega
    rw [e]
    exact (hs1.kept hkW (fun _ _ _ f => f)).sub 5 (m - 5) (by omega) (fun _ b' o' e => by injection e with e; injection e with e1 e2; subst e1 e2; rfl) _)
  have he : ofF cs = ⟨(k : Nat), T⟩ := by
    unfold ofF
    rw [List.getElem?_eq_getElem (by omega), hT, hk]; rfl
  rw [he]
  have hml : 5 ≤ m ∧ m + 4 ≤ c ∧ m ≤ 100000000 := by omega
  clear hs1 hsrc hk hT he hcl
  go_enter Try.func30, Try.ntmps30
  go_upto_region 1 with fail
  rw [← hW1, ← hxb]
  clear hW1 hxb
  obtain ⟨z0, z1, z2, z3⟩ := HB.out.two
  have hcv := HCV.out W1.drew ((Kept.refl _ _).drew)
  have i1 : (4 : Int) < (m : Int) + 4 := by omega
  have i2 : (5 : Int) ≤ (m : Int) := by omega
  have i3 : (m : Int) ≤ (c : Int) := by omega
  have i4 : IntKind.i64.wrap (m : Int) = (m : Int) := wrap64_small _ (by omega)
  have i5 : max (m : Int) 0 = (m : Int) := by omega
  have i6 : ¬ c = 5 := by omega
  have i7 := wrap64_small k (by omega)
  go_still_tail 11, (by kernel_rfl)
  go_wp2_with fail
  have hbf : Blk (((W1.setCell ⟨xb, 0, none⟩ (.int .i64 (k : Nat))).setCell ⟨xb, 1, none⟩ (.string T)).drew) xb #[.int .i64 (k : Nat), .string T] 23 := (set2 HB.out).1
  refine bodyPost_ret (v := fmV ⟨(k : Nat), T⟩) (by rw [results_c1 (p := 2) (ty := 23) rfl _ _ _ _ _ ⟨xb, 0, none⟩ _ rfl (run_load15 23 2 _ Try.underlying23 rfl Try.sizeFm hbf [.int .i64 (k : Nat), .string T] rfl rfl)]; rfl) rfl ?_
  exact ⟨rfl, HK1.out.1.then (set2 HB.out).2.drew (fun k hk e => by have := HK1.out.2; omega)⟩

/-- bytes.Clone of a slice that is there. -/
theorem clone_any (w : World) (ad : Addr) (n cap : Nat) (I : Nat → Prop) (cs : List Nat) (hsrc : Src w I (.slice (some ad) n cap) cs) (hlen : cs.length ≤ 100000000) :
    Calls Try.prog 31 #[.slice (some ad) n cap] w fun e w' => ∃ v', e = .returned v' ∧ Fresh w w' v' cs := by
  have HS := hid hsrc
  have q22 : ∀ (w : World) (a : Option Addr) (n c n' c' : Nat), (binOp .eql 25 (.slice a n c) (.slice none n' c')).run Try.prog w = .ok (.bool a.isNone) w := fun w a n c n' c' => Lib.run_eql_slice_nil w _ _ a n c n' c' Try.underlying25
  have HR0 : Hid (Row (w.alloc (.cells #[] 5)) (.slice (some ⟨w.heap.size, 0, none⟩) 0 0) []) := hid (row_none w)
  have HK0 : Hid (Same w (w.alloc (.cells #[] 5))) := hid ((Kept.refl _ w).alloc _)
  have HLN : Hid (([] : List Nat).length + cs.length ≤ 1000000000000) := hid (by simp; omega)
  clear hsrc hlen
  go_enter Try.func31, Try.ntmps31
  go_wp2_with (at_builtin; refine wpList_append_any _ rfl (.tmp 5) (.tmp 6) rfl (.slice (some ⟨w.heap.size, 0, none⟩) 0 0) [] rfl HR0.out I (.slice (some ad) n cap) cs rfl (fun n c e => by cases e) (HS.out.kept HK0.out (fun _ _ _ f => f)) HLN.out ?_)
  intro v3 w3 hr3 hg3 ho3
  have HF : Hid (Fresh w w3 v3 cs) := hid ⟨by simpa using hr3, HK0.out.grown hg3 (fun j e => .inr (by
    have e1 : w.heap.size = j := by simpa [Value.ownBlock] using e
    omega)), fun k e => by
      rcases ho3 with h9 | h9
      · rw [h9] at e
        have e1 : w.heap.size = k := by simpa [Value.ownBlock] using e
        omega
      · rw [h9] at e
        have e1 : (w.alloc (.cells #[] 5)).heap.size = k := by simpa using e
        rw [World.size_alloc] at e1
        omega⟩
  clear hr3 hg3 ho3
  go_wp2_with fail
  go_ret
  exact ⟨_, rfl, HF.out⟩

end Go.Proofs.Ytjjhjbmmhkcapaa
