/-
  Of the proof: parts DkQ, DkR, DkS, DkT, DkU.
-/
import Derived.Sort.Walk0
import Derived.Lib.SliceRun
import Derived.Test.YtjcobogajkfnmaaJ11
import Derived.Test.YtjcobogajkfnmaaJ12

/-
  Layer 9: Names.
-/
namespace Go.Proofs.Ytjcobogajkfnmaa
open Go.RowKit Go.Maps Go.Sort Go.Shelf

def strV (s : ByteArray) : Value := .string s

theorem sorts9 (m : Nat) : AnyZ.SortsIn Try.prog Try.sorted9_ren Fence.wide m :=
  ⟨fun blk off cap ss W hH hblk hsz => callsIn_wide.2 (AnyM.slices_Sort_string Try.sort9 blk off cap ss W hH hblk hsz),
   fun p cap W => callsIn_wide.2 (AnyM.slices_Sort_string_none Try.sort9 p cap W)⟩

theorem keys9_any (mb : Option Nat) (W : World) : CallsIn Fence.wide 5 Try.prog 63 #[.map mb] W fun e w' => e = .returned (.func (.func 76) #[] #[.pointer (some ⟨W.heap.size, 0, none⟩)]) ∧ w' = W.alloc (.cells #[.map mb] 59) :=
  AnyZ.keys_in Try.keys9 Fence.wide 5 trivial rfl mb W

set_option maxHeartbeats 1000000 in
theorem sorted9_any {H : Type} (b nn : Nat) (D0 : DataW H) (R : Value → Option (DataW H × List MemPlace)) (w : World) (hown : w.ownsMap Try.prog 9 R b nn D0) (hmax : Maps.size D0 ≤ maxLen) (hbytes : Maps.size D0 * 16 ≤ 140737488355328) :
    CallsIn Fence.wide 5 Try.prog 62 #[.func (.func 76) #[] #[.pointer (some ⟨w.heap.size, 0, none⟩)]] (w.alloc (.cells #[.map (some b)] 59)) fun e w' => ∃ (v : Value) (ss : List (List UInt8)), e = .returned v ∧ ss.Perm (strKeys D0) ∧
      w'.ownsRow (w.alloc (.cells #[.map (some b)] 59)).heap.size 9 1 v ss.length ((ss.mergeSort (fun x y => decide (x ≤ y))).map encStr) ∧ (v = .slice none 0 0 ↔ ss = []) ∧ Below (w.alloc (.cells #[.map (some b)] 59)).heap.size (w.alloc (.cells #[.map (some b)] 59)) w' := by
  have hbl := hown.lt
  have hseq : SeqGives Fence.wide 2 Try.prog 76 #[.pointer (some ⟨w.heap.size, 0, none⟩)] encStr (fun ss => ss.Perm (strKeys D0)) (Maps.size D0) (w.alloc (.cells #[.map (some b)] 59)) :=
    AnyZ.keys_gives (ρ := Try.keys9_ren) { Try.keys9 with } Fence.wide _ trivial rfl (by omega) w.heap.size b nn D0 _ (by simp) (by simp) (by
      obtain ⟨es, clock, hb, Ft, hs, hD⟩ := hown
      exact ⟨es, clock, (Below.heap_alloc _ _ b hbl).trans hb, Ft, hs, hD⟩)
  exact AnyZ.sorted_in Try.sorted9 Fence.wide 5 trivial trivial trivial trivial rfl (by omega) (sorts9 _) (enters_of Try.func75 (by kernel_rfl) rfl) 76 #[.pointer (some ⟨w.heap.size, 0, none⟩)] trivial (enters_of Try.func76 (by kernel_rfl) rfl) _ _ hmax hbytes _ hseq

theorem before_less : ∀ (x y : List UInt8), bytesBefore x y = Op.bytesLess x y
  | [], [] => rfl
  | [], _ :: _ => rfl
  | _ :: _, [] => rfl
  | a :: r, b :: s => by rw [bytesBefore, Op.bytesLess, before_less r s]

theorem before_lt {s t : ByteArray} (h : (litN s).before (litN t) = true) : s.data.toList < t.data.toList := by
  have h1 : bytesBefore s.data.toList t.data.toList = true := h
  rw [before_less, bytesLess_eq, decide_eq_true_eq] at h1
  exact h1

theorem keysN_sorted {L : Nms} (h : L.Pairwise (fun p q => (litN p.1).before (litN q.1) = true)) {ss : List (List UInt8)} (hp : ss.Perm (strKeys (nmD L))) :
    (ss.mergeSort (fun x y => decide (x ≤ y))).map encStr = (L.map (·.1)).map strV := by
  have e1 : strKeys (nmD L) = L.map (fun p => p.1.data.toList) := by
    unfold nmD strKeys
    dsimp only
    rw [List.map_map]
    rfl
  rw [e1] at hp
  have h2 : (L.map (fun p => p.1.data.toList)).Pairwise (fun x y => decide (x ≤ y) = true) := by
    rw [List.pairwise_map]
    exact h.imp (fun h => by simp only [decide_eq_true_eq]; exact List.le_of_lt (before_lt h))
  rw [mergeSort_of_perm hp, List.mergeSort_of_pairwise h2, List.map_map, List.map_map]
  refine List.map_congr_left (fun p _ => ?_)
  show Value.string ⟨p.1.data.toList.toArray⟩ = Value.string p.1
  rw [Array.toArray_toList]

def NamA (w : World) (L : List ByteArray) (e : Ending) (w' : World) : Prop := ∃ v, e = .returned v ∧ RowE w.heap.size 9 strV w' v L ∧ Same w w' ∧ (v = .slice none 0 0 ↔ L = [])

section
variable {N : Nat} {w : World} {d : Nat} {s : Ds} {ρ : Rho} {nb sb : Nat} {cv : Value}

/-- Names' answer. -/
def namS (s : Ds) : List ByteArray := if s.left = 0 then [] else s.names.map (·.1)

set_option maxRecDepth 100000 in
set_option maxHeartbeats 1000000 in
theorem dnames_any (h : Dk N w d s ρ nb sb cv) (hst : s.steps ≤ 1000000) :
    Calls Try.prog 24 #[.pointer (some ⟨d, 0, none⟩)] w fun e w' => NamA w (namS s) e w' := by
  have HRF := drefuse_any w d s.left (h.blk.cell 5)
  by_cases hl : s.left = 0
  · rw [show dwn s.left = 94 from if_pos hl] at HRF
    have HR : Hid (namS s = []) := hid (if_pos hl)
    clear h hl
    go_enter Try.func24, Try.ntmps24
    go_wp2_with fail
    refine HRF.mono ?_
    rintro e w1 ⟨rfl, hw1⟩
    subst hw1
    go_wp2_with fail
    go_ret
    rw [HR.out]
    exact ⟨_, rfl, RowE.nil, Kept.refl _ _, ⟨fun _ => rfl, fun _ => rfl⟩⟩
  · rw [show dwn s.left = 0 from if_neg hl] at HRF
    have HR : Hid (namS s = s.names.map (·.1)) := hid (if_neg hl)
    have c1 : w.cell? ⟨d, 1, none⟩ = some (.map (some nb)) := h.blk.cell 1
    have hsz : Maps.size (nmD s.names) ≤ 1000000 := by rw [nmD_size]; have := h.lens; omega
    have HK : Calls Try.prog 63 #[.map (some nb)] w fun e w' => e = .returned (.func (.func 76) #[] #[.pointer (some ⟨w.heap.size, 0, none⟩)]) ∧ w' = w.alloc (.cells #[.map (some nb)] 59) := callsIn_wide.1 (keys9_any (some nb) w)
    have HS := callsIn_wide.1 (sorted9_any nb s.names.length (nmD s.names) ptR w h.nm (by unfold maxLen; omega) (by omega))
    have HRI : Hid (s.names.Pairwise (fun p q => (litN p.1).before (litN q.1) = true)) := hid h.nm.rising
    clear h hl hsz hst
    go_enter Try.func24, Try.ntmps24
    go_wp2_with fail
    refine HRF.mono ?_
    rintro e w1 ⟨rfl, hw1⟩
    subst hw1
    clear HRF
    go_wp2_with fail
    refine HK.mono ?_
    rintro e w2 ⟨rfl, rfl⟩
    clear HK
    go_wp2_with fail
    refine HS.mono ?_
    rintro e w3 ⟨v, ss, rfl, hS, hrow, hnil, hb⟩
    rw [keysN_sorted HRI.out hS] at hrow
    have hl2 : ss.length = (s.names.map (·.1)).length := by rw [hS.length_eq]; unfold nmD strKeys; simp
    have HF : Hid (RowE w1.heap.size 9 strV w3 v (s.names.map (·.1)) ∧ Same w1 w3 ∧ (v = .slice none 0 0 ↔ s.names.map (·.1) = [])) := hid ⟨by
        rw [hl2] at hrow
        exact RowE.base (B := (w1.alloc (.cells #[.map (some nb)] 59)).heap.size) hrow (by simp), Same.trans (show Same w1 (w1.alloc (.cells #[.map (some nb)] 59)) from (Kept.refl _ w1).alloc _) (Kept.ofBelow hb), by
        rw [hnil]
        constructor
        · intro e; rw [e] at hl2; exact List.eq_nil_of_length_eq_zero hl2.symm
        · intro e; rw [e] at hl2; exact List.eq_nil_of_length_eq_zero hl2⟩
    obtain ⟨ao, cap, hv, _⟩ := HF.out.1.shape
    obtain ⟨n9, hn9⟩ : ∃ n, n = (s.names.map (·.1)).length := ⟨_, rfl⟩
    rw [← hn9] at hv
    clear hn9
    subst hv
    clear HS hS hrow hnil hb hl2
    go_wp2_with fail
    go_ret
    rw [HR.out]
    exact ⟨_, rfl, HF.out⟩

end

end Go.Proofs.Ytjcobogajkfnmaa

/-
  Layer 9: SyncDir.
-/
namespace Go.Proofs.Ytjcobogajkfnmaa
open Go.RowKit Go.Maps

/-- SyncDir's answer. -/
def sydS (s : Ds) : Except Nat Ds := if s.left = 0 then .error 94 else .ok (stepS { s with safe := s.names, chg := [] })

/-- What a call tells that is one step; the maps may be new ones. -/
def StpC (N : Nat) (w : World) (d : Nat) (ρ : Rho) (r : Except Nat Ds) (e : Ending) (w' : World) : Prop :=
  (∀ k, r = .error k → e = .returned (.int .i64 (k : Nat)) ∧ Same w w') ∧
  ∀ s', r = .ok s' → e = .returned (.int .i64 0) ∧ ∃ ρ' nb sb cv', Dk N w' d s' ρ' nb sb cv' ∧ (∀ k, ρ' k = 0 ∨ ρ' k = ρ k ∨ (w.heap.size ≤ k)) ∧ Kept (fun k => ρ k ≠ 0) w w'

theorem StpB.toC {N : Nat} {w : World} {d : Nat} {ρ : Rho} {nb sb : Nat} {r : Except Nat Ds} {e : Ending} {w' : World} (h : StpB N w d ρ nb sb r e w') : StpC N w d ρ r e w' :=
  ⟨h.1, fun s' hs => by
    obtain ⟨h1, ρ', cv', h2, h3, h4⟩ := h.2 s' hs
    refine ⟨h1, ρ', nb, sb, cv', h2, fun k => ?_, h4⟩
    rcases h3 k with h5 | h5
    · exact .inr (.inl h5)
    · exact .inr (.inr h5.1)⟩

section
variable {N : Nat} {w : World} {d : Nat} {s : Ds} {ρ : Rho} {nb sb : Nat} {cv : Value}

/-- The safe names are a new map, no changes are left. -/
theorem Dk.newSafe (h : Dk N w d s ρ nb sb cv) {w' : World} {s' : Ds} {b : Nat} (hN : N ≤ w.heap.size) (hb : w.heap.size ≤ b) (hk : Kept (· = d) w w') (hm : Mp w' b s'.safe)
    (hB : Blk w' d #[.int .i64 (s.room : Nat), .map (some nb), .map (some b), .slice none 0 0, .int .i64 (s'.steps : Nat), .int .i64 s'.left] 62)
    (he : s'.room = s.room ∧ s'.names = s.names ∧ s'.safe = s.names ∧ s'.chg = [] ∧ s'.fl = s.fl) (hst : s.steps ≤ s'.steps) (hl : -1 ≤ s'.left ∧ s'.left ≤ 9223372036854775807) :
    Dk N w' d s' (fun k => if k = b then 3 else if ρ k = 3 ∨ ρ k = 4 then 0 else ρ k) nb b (.slice none 0 0) := by
  obtain ⟨e1, e2, e3, e4, e5⟩ := he
  have hlt : ∀ k, ρ k ≠ 0 → k < w.heap.size := fun k hk => (h.new k hk).2
  have hnb : ∀ k, ρ k ≠ 0 → ¬ k = b := fun k h0 e => by have := hlt k h0; omega
  have hne : ∀ k, ρ k ≠ 1 → ¬ k = d := fun k h1 e => h1 (by rw [e]; exact h.rd)
  have toR : ∀ k y, ρ k = y → y ≠ 0 → y ≠ 3 → y ≠ 4 → (if k = b then 3 else if ρ k = 3 ∨ ρ k = 4 then 0 else ρ k) = y := fun k y e h0 h3 h4 => by
    rw [if_neg (hnb k (by rw [e]; exact h0)), if_neg (by omega)]; exact e
  have fro : ∀ k, (if k = b then 3 else if ρ k = 3 ∨ ρ k = 4 then 0 else ρ k) = 5 → ρ k = 5 := fun k e => by
    by_cases h1 : k = b
    · rw [if_pos h1] at e; cases e
    · rw [if_neg h1] at e
      by_cases h2 : ρ k = 3 ∨ ρ k = 4
      · rw [if_pos h2] at e; cases e
      · rwa [if_neg h2] at e
  refine ⟨by rw [e1]; exact hB, by rw [e2]; exact h.nm.kept hk (hne nb (by rw [h.rn]; decide)), hm, by rw [e4]; exact RowC.nil, fun f hf => ?_, by rw [e1, e5]; exact fun f hf => h.okf f (fro f hf), by rw [e2]; exact fun p hp => toR _ _ (h.nmf p hp) (by decide) (by decide) (by decide), by rw [e3]; exact fun p hp => toR _ _ (h.nmf p hp) (by decide) (by decide) (by decide), (by rw [e4]; intro c hc; cases hc), toR _ _ h.rd (by decide) (by decide) (by decide), toR _ _ h.rn (by decide) (by decide) (by decide), if_pos rfl, fun k e => (by cases e), fun k hk2 => ?_, by rw [e1]; exact h.room, by rw [e2, e3, e4]; have := h.lens; simp only [List.length_nil]; omega, hl, by rw [e2, e3, e4]; exact ⟨fun c hc => (by cases hc), h.txs.2.1, h.txs.2.1⟩⟩
  · have hf5 := fro f hf
    obtain ⟨v, h1, h2, h3⟩ := h.fil f hf5
    rw [e5]
    exact ⟨v, h1.kept hk (hne f (by rw [hf5]; decide)), h2.kept hk (fun k e => hne k (by rw [h3 k e]; omega)), fun k e => toR _ _ (h3 k e) (by omega) (by omega) (by omega)⟩
  · by_cases h1 : k = b
    · rw [h1]; exact ⟨Nat.le_trans hN hb, hm.lt⟩
    · rw [if_neg h1] at hk2
      have h2 : ρ k ≠ 0 := fun e => hk2 (by rw [e]; simp)
      have := h.new k h2
      have := hk.size
      omega

set_option maxRecDepth 100000 in
set_option maxHeartbeats 1000000 in
theorem dsyncdir_any (h : Dk N w d s ρ nb sb cv) (hst : s.steps ≤ 1000000) (hN : N ≤ w.heap.size) :
    Calls Try.prog 19 #[.pointer (some ⟨d, 0, none⟩)] w fun e w' => StpC N w d ρ (sydS s) e w' := by
  have HRF := drefuse_any w d s.left (h.blk.cell 5)
  by_cases hl : s.left = 0
  · rw [show dwn s.left = 94 from if_pos hl] at HRF
    have HR : Hid (sydS s = .error 94) := hid (if_pos hl)
    clear h hl
    go_enter Try.func19, Try.ntmps19
    go_wp2_with fail
    refine HRF.mono ?_
    rintro e w1 ⟨rfl, hw1⟩
    subst hw1
    go_wp2_with fail
    go_ret
    exact ⟨fun k e => by rw [HR.out] at e; cases e; exact ⟨rfl, Kept.refl _ _⟩, fun s' e => by rw [HR.out] at e; cases e⟩
  · rw [show dwn s.left = 0 from if_neg hl] at HRF
    have HR : Hid (sydS s = .ok (stepS { s with safe := s.names, chg := [] })) := hid (if_neg hl)
    have HD : Hid (Dk N w d s ρ nb sb cv) := h
    have HC := dmclone_any w nb s.names h.nm
    have c1 : w.cell? ⟨d, 1, none⟩ = some (.map (some nb)) := h.blk.cell 1
    have HQ : Hid (s.steps ≤ 1000000 ∧ N ≤ w.heap.size) := hid ⟨hst, hN⟩
    clear h hl hst hN
    go_enter Try.func19, Try.ntmps19
    go_wp2_with fail
    refine HRF.mono ?_
    rintro e w1 ⟨rfl, hw1⟩
    subst hw1
    clear HRF
    go_wp2_with fail
    refine HC.mono ?_
    rintro e w2 ⟨rfl, hm2, hk2, hs2⟩
    obtain ⟨b, hb⟩ : ∃ b, b = w1.heap.size := ⟨_, rfl⟩
    rw [← hb] at hm2 ⊢
    have HBB : Hid (b = w1.heap.size) := hb
    have HM2 : Hid (Mp w2 b s.names ∧ Same w1 w2) := hid ⟨hm2, hk2⟩
    have HB2 : Hid (Blk w2 d #[.int .i64 (s.room : Nat), .map (some nb), .map (some sb), cv, .int .i64 (s.steps : Nat), .int .i64 s.left] 62) := hid (HD.out.blk.kept hk2 (fun f => f))
    have z2 := HB2.out.frozen 2
    have z3 := HB2.out.frozen 3
    have f2 : w2.cell? ⟨d, 2, none⟩ = some (.map (some sb)) := HB2.out.cell 2
    have f3 : w2.cell? ⟨d, 3, none⟩ = some cv := HB2.out.cell 3
    obtain ⟨w4, hw4⟩ : ∃ W, W = (w2.setCell ⟨d, 2, none⟩ (.map (some b))).setCell ⟨d, 3, none⟩ (.slice none 0 0) := ⟨_, rfl⟩
    have HB4 : Hid (Blk w4 d #[.int .i64 (s.room : Nat), .map (some nb), .map (some b), .slice none 0 0, .int .i64 (s.steps : Nat), .int .i64 s.left] 62) := hid (by
      rw [hw4]
      have h9 := (HB2.out.set 2 (.map (some b))).set 3 (.slice none 0 0)
      simpa using h9)
    have HK4 : Hid (Kept (· = d) w2 w4) := hid (by rw [hw4]; exact ((Kept.refl (· = d) w2).setCell _ _ (.inl rfl)).setCell _ _ (.inl rfl))
    have HST := dstep_raw HB4.out (by have := HQ.out; omega) HD.out.left
    clear hm2 hk2 hs2 hb HC
    go_wp2_with fail
    rw [← hw4]
    refine HST.mono ?_
    rintro e w5 ⟨rfl, hb5, hk5⟩
    have H5 := hid (And.intro hb5 hk5)
    clear hb5 hk5 HST hw4 f2 f3 z2 z3
    go_wp2_with fail
    go_ret
    refine ⟨fun k e => (by rw [HR.out] at e; cases e), fun s' e => ?_⟩
    rw [HR.out] at e
    cases e
    have hk : Kept (· = d) w1 w5 := Kept.trans HM2.out.2 (Kept.trans HK4.out H5.out.2 (fun _ _ e => e) (fun _ _ e => e)) (fun _ _ f => f.elim) (fun _ _ e => e)
    have hm5 : Mp w5 b s.names := by
      have hbd : ¬ b = d := fun e => by have := HD.out.blk.lt; have := HBB.out; omega
      exact (HM2.out.1.kept HK4.out hbd).kept H5.out.2 hbd
    have hll := HD.out.left
    refine ⟨rfl, _, nb, b, .slice none 0 0, HD.out.newSafe (s' := stepS { s with safe := s.names, chg := [] }) HQ.out.2 (Nat.le_of_eq HBB.out.symm) hk hm5 H5.out.1 ⟨rfl, rfl, rfl, rfl, rfl⟩ (Nat.le_succ _) (by
      show -1 ≤ (if s.left = -1 then -1 else s.left - 1) ∧ (if s.left = -1 then -1 else s.left - 1) ≤ 9223372036854775807
      split <;> omega), fun k => ?_, hk.mono (fun k _ e => by rw [e, HD.out.rd]; decide)⟩
    by_cases h1 : k = b
    · exact .inr (.inr (by rw [h1, HBB.out]; exact Nat.le_refl _))
    · rw [if_neg h1]
      by_cases h2 : ρ k = 3 ∨ ρ k = 4
      · exact .inl (if_pos h2)
      · exact .inr (.inl (if_neg h2))

end

end Go.Proofs.Ytjcobogajkfnmaa

/-
  Layer 9: a file behind a crash.
-/
namespace Go.Proofs.Ytjcobogajkfnmaa
open Go.RowKit Go.Maps

/-- A file behind a crash, by a choice. -/
def crF (x : Fl) (c : Int) : Fl :=
  ⟨if c < 0 then x.bs.take x.safe ++ List.replicate (sayN c (x.bs.length - x.safe)) 0 else x.bs.take (x.safe + sayN c (x.bs.length - x.safe)), x.safe + sayN c (x.bs.length - x.safe)⟩

theorem sayN_le (c : Int) (n : Nat) : sayN c n ≤ n := by
  unfold sayN
  have := Nat.mod_lt (chN c) (show 0 < n + 1 by omega)
  omega

theorem crF_ok (x : Fl) (c : Int) (h : x.safe ≤ x.bs.length) : (crF x c).safe = (crF x c).bs.length ∧ (crF x c).bs.length ≤ x.bs.length ∧ ∀ b ∈ (crF x c).bs, b = 0 ∨ b ∈ x.bs := by
  have h1 := sayN_le c (x.bs.length - x.safe)
  unfold crF
  dsimp only
  refine ⟨?_, ?_, ?_⟩
  · split
    · rw [List.length_append, List.length_take, List.length_replicate]; omega
    · rw [List.length_take]; omega
  · split
    · rw [List.length_append, List.length_take, List.length_replicate]; omega
    · rw [List.length_take]; omega
  · intro b hb
    split at hb
    · rcases List.mem_append.1 hb with hb | hb
      · exact .inr (List.mem_of_mem_take hb)
      · exact .inl (List.eq_of_mem_replicate hb)
    · exact .inr (List.mem_of_mem_take hb)

/-- Noughts laid one behind the other. -/
def clr (bs : List Nat) (o : Nat) : Nat → List Nat
  | 0 => bs
  | n + 1 => clr (bs.set o 0) (o + 1) n

theorem clr_length (n : Nat) : ∀ (bs : List Nat) (o : Nat), (clr bs o n).length = bs.length := by
  induction n with
  | zero => intro bs o; rfl
  | succ n ih => intro bs o; rw [clr, ih, List.length_set]

theorem clr_take (n : Nat) : ∀ (bs : List Nat) (o : Nat), o + n ≤ bs.length → (clr bs o n).take (o + n) = bs.take o ++ List.replicate n 0 := by
  induction n with
  | zero => intro bs o _; simp [clr]
  | succ n ih =>
    intro bs o h
    rw [clr, show o + (n + 1) = o + 1 + n by omega, ih _ _ (by rw [List.length_set]; omega), List.replicate_succ]
    have : (bs.set o 0).take (o + 1) = bs.take o ++ [0] := by
      rw [List.take_add_one, List.take_set_of_le (Nat.le_refl o)]
      simp [List.getElem?_set]
      omega
    rw [this, List.append_assoc]
    rfl

theorem row_clr (n : Nat) : ∀ (w : World) (g len cap o : Nat) (bs : List Nat), Row w (.slice (some ⟨g, 0, none⟩) len cap) bs → Row (w.setCells g o (List.replicate n (.int .u8 0))) (.slice (some ⟨g, 0, none⟩) len cap) (clr bs o n) := by
  induction n with
  | zero => intro w g len cap o bs h; exact h
  | succ n ih =>
    intro w g len cap o bs h
    rw [List.replicate_succ]
    exact ih _ _ _ _ (o + 1) _ (RowE.lay (enc := byteV) h o 0)

theorem setCells_kept (n : Nat) : ∀ (w : World) (g o : Nat) (v : Value), Kept (· = g) w (w.setCells g o (List.replicate n v)) := by
  induction n with
  | zero => intro w g o v; exact Kept.refl _ w
  | succ n ih =>
    intro w g o v
    rw [List.replicate_succ]
    exact Kept.trans ((Kept.refl (· = g) w).setCell ⟨g, o, none⟩ v (.inl rfl)) (ih _ g (o + 1) v) (fun _ _ e => e) (fun _ _ e => e)

theorem clear_none (w : World) (a : Option Addr) (c : Nat) (ty : TypeId) : (Builtin.clear_ #[33] ty #[.slice a 0 c]).run Try.prog w = .ok (.tuple #[]) w := by
  cases a <;> simp [Builtin.clear_, run_underlying Try.underlying33]

set_option maxRecDepth 100000 in
set_option maxHeartbeats 1000000 in
theorem dfcrash_any (w : World) (f : Nat) (v : Value) (x : Fl) (c : Int) (hb : Blk w f #[v, .int .i64 (x.safe : Nat)] 73) (hr : Row w v x.bs) (hv : v.ownBlock ≠ some f) (hs : x.safe ≤ x.bs.length) (hn : x.bs.length ≤ 1000000000) (h1 : -9223372036854775808 ≤ c) (h2 : c ≤ 9223372036854775807) :
    Calls Try.prog 56 #[.pointer (some ⟨f, 0, none⟩), .int .i64 c] w fun e w' => e = .returned (.tuple #[]) ∧ ∃ v', Blk w' f #[v', .int .i64 ((crF x c).safe : Nat)] 73 ∧ Row w' v' (crF x c).bs ∧ v'.ownBlock = v.ownBlock ∧ Kept (fun k => k = f ∨ v.ownBlock = some k) w w' := by
  obtain ⟨bs, sf⟩ := x
  have hs : sf ≤ bs.length := hs
  have hn : bs.length ≤ 1000000000 := hn
  have hr : Row w v bs := hr
  have hb : Blk w f #[v, .int .i64 (sf : Nat)] 73 := hb
  obtain ⟨ao, cap, rfl, hne⟩ := hr.shape
  obtain ⟨n, hn0⟩ : ∃ n, n = bs.length := ⟨_, rfl⟩
  have hcap : n ≤ cap := by
    rcases hr.2 with ⟨e, h0⟩ | ⟨g, cap', cur, e, _, _, h3, _⟩
    · simp only [Value.slice.injEq] at e; omega
    · simp only [Value.slice.injEq] at e; omega
  rw [← hn0] at hr hb hv hn hs ⊢
  obtain ⟨df, hdf⟩ : ∃ d, d = n - sf := ⟨_, rfl⟩
  have HSD : Hid (∀ w, Calls Try.prog 52 #[.int .i64 c, .int .i64 (df : Nat)] w fun e w' => e = .returned (.int .i64 (sayN c df : Nat)) ∧ w' = w) := hid (fun w => dsaid_any w c df h1 h2 (by omega))
  have hk0 := sayN_le c df
  obtain ⟨k, hk⟩ : ∃ k, k = sayN c df := ⟨_, rfl⟩
  rw [← hk] at HSD hk0
  obtain ⟨en, hen⟩ : ∃ e, e = sf + k := ⟨_, rfl⟩
  have q1 : (n : Int) - (sf : Int) = (df : Int) := by omega
  have q1w : IntKind.i64.wrap (df : Int) = (df : Int) := by rw [IntKind.wrap_i64]; omega
  have q2 : (sf : Int) + (k : Int) = (en : Int) := by omega
  have q2w : IntKind.i64.wrap (en : Int) = (en : Int) := by rw [IntKind.wrap_i64]; omega
  have HCR : Hid ((crF ⟨bs, sf⟩ c).safe = en ∧ (c < 0 → (crF ⟨bs, sf⟩ c).bs = bs.take sf ++ List.replicate k 0) ∧ (¬ c < 0 → (crF ⟨bs, sf⟩ c).bs = bs.take en)) := hid (by
    refine ⟨?_, fun h => ?_, fun h => ?_⟩
    · show sf + sayN c (bs.length - sf) = en
      rw [← hn0, ← hdf, ← hk, hen]
    · show (if c < 0 then bs.take sf ++ List.replicate (sayN c (bs.length - sf)) 0 else _) = _
      rw [if_pos h, ← hn0, ← hdf, ← hk]
    · show (if c < 0 then _ else bs.take (sf + sayN c (bs.length - sf))) = _
      rw [if_neg h, ← hn0, ← hdf, ← hk, hen])
  have c0 : w.cell? ⟨f, 0, none⟩ = some (.slice ao n cap) := hb.cell 0
  have c1 : w.cell? ⟨f, 1, none⟩ = some (.int .i64 (sf : Nat)) := hb.cell 1
  have z0 := hb.frozen 0
  have z1 := hb.frozen 1
  have s1 : (0 : Int) ≤ (en : Int) := by omega
  have s2 : (en : Int) ≤ (cap : Int) := by omega
  have s3 : en ≤ cap := by omega
  have HB : Hid (Blk w f #[.slice ao n cap, .int .i64 (sf : Nat)] 73) := hb
  have HR : Hid (Row w (.slice ao n cap) bs) := hr
  have HQ : Hid (n = bs.length ∧ sf ≤ n ∧ k ≤ df ∧ df = n - sf ∧ en = sf + k ∧ (Value.slice ao n cap).ownBlock ≠ some f ∧ (bs ≠ [] → ∃ g, ao = some ⟨g, 0, none⟩)) := hid ⟨hn0, hs, hk0, hdf, hen, hv, hne⟩
  clear hb hr hv hne hn0 hk hdf hen
  have HCUT : Hid (∀ w' ls, Row w' (.slice ao n cap) ls → ls.length = n → Row w' (.slice ao en cap) (ls.take en)) := hid (fun w' ls hr9 hl9 => by
    have hq := HQ.out
    have hen : en ≤ n := by omega
    by_cases h0 : bs = []
    · have hn0 : n = 0 := by rw [hq.1, h0]; rfl
      have he0 : en = 0 := by omega
      have hls : ls = [] := List.eq_nil_of_length_eq_zero (by omega)
      subst hls
      rw [he0]
      rw [hn0] at hr9
      simpa using hr9
    · obtain ⟨g, rfl⟩ := hq.2.2.2.2.2.2 h0
      have e1 : ls = ls.take en ++ ls.drop en := (List.take_append_drop _ _).symm
      rw [e1] at hr9
      have h9 := Row.cut hr9
      rw [List.length_take, hl9, Nat.min_eq_left hen] at h9
      exact h9)
  have HOWN : Hid (∀ m m', (Value.slice ao m cap).ownBlock = (Value.slice ao m' cap).ownBlock) := hid (fun m m' => by cases ao <;> rfl)
  by_cases hc : c < 0
  · have b1 : decide (c < 0) = true := by simp; omega
    have HC : Hid (c < 0) := hc
    have HQ2 : Hid (n ≤ cap) := hcap
    clear hc hs hn hcap h1 h2 hk0
    by_cases hk0 : k = 0
    · have hes : en = sf := by have := HQ.out; omega
      subst hes
      have HK0 : Hid (k = 0) := hk0
      have s4 : (0 : Int) ≤ (en : Int) := by omega
      have hcl := clear_none
      obtain ⟨A9, hA9⟩ : ∃ A, (if cap = en then ao else Option.map (fun x => x.add en) ao) = A := ⟨_, rfl⟩
      clear hk0
      go_enter Try.func56, Try.ntmps56
      go_wp2_with fail
      go_region_held3 (fun w' => w'.cell? ⟨f, 0, none⟩ = some (.slice ao n cap) ∧ w'.cell? ⟨f, 1, none⟩ = some (.int .i64 (en : Nat)))
        (first | (go_split_ands; exact ⟨by assumption, by assumption⟩) | go_keep)
        (first | (go_at_call 52; refine (HSD.out _).mono ?_; rintro e w2 ⟨rfl, hw2⟩; subst hw2))
      all_goals
        go_upto_region 2 with fail
        go_region
        go_wp2_with fail
        go_end0
        obtain ⟨wz, hwz⟩ : ∃ W, W = (w.setCell ⟨f, 0, none⟩ (.slice ao en cap)).setCell ⟨f, 1, none⟩ (.int .i64 (en : Nat)) := ⟨_, rfl⟩
        rw [← hwz]
        have hq := HQ.out
        have hkz : Kept (· = f) w wz := by rw [hwz]; exact ((Kept.refl (· = f) w).setCell _ _ (.inl rfl)).setCell _ _ (.inl rfl)
        refine ⟨rfl, .slice ao en cap, ?_, ?_, HOWN.out _ _, (hkz.mono (fun k _ e => .inl e)).drew.drew⟩
        · have h9 := (HB.out.set 0 (.slice ao en cap)).set 1 (.int .i64 (en : Nat))
          have h10 : Blk wz f #[.slice ao en cap, .int .i64 (en : Nat)] 73 := by rw [hwz]; simpa using h9
          rw [HCR.out.1]
          exact h10
        · rw [HCR.out.2.1 HC.out, HK0.out]
          have h9 := (HCUT.out w bs HR.out hq.1.symm).kept hkz.drew.drew (fun j e e2 => hq.2.2.2.2.2.1 (by rw [HOWN.out n en, e, e2]))
          simpa using h9
    · have hq := HQ.out
      have hbs : bs ≠ [] := fun e => by rw [e] at hq; simp at hq; omega
      obtain ⟨g, hg⟩ := hq.2.2.2.2.2.2 hbs
      subst hg
      have hgf : ¬ g = f := fun e => hq.2.2.2.2.2.1 (by rw [← e]; rfl)
      have hcs : ¬ cap = sf := by have := HQ2.out; omega
      have hlen : ((en : Int) - (sf : Int)) = (k : Int) := by omega
      have HRW := HR.out
      obtain ⟨W9, hW9⟩ : ∃ W, W = (w.drew.drew).setCells g sf (List.replicate k (.int .u8 0)) := ⟨_, rfl⟩
      have hcl : ∀ ty, (Builtin.clear_ #[33] ty #[.slice (some ⟨g, sf, none⟩) k (cap - sf)]).run Try.prog w.drew.drew = .ok (.tuple #[]) W9 := fun ty => by
        rw [hW9]
        exact Lib.run_clear_slice w.drew.drew _ _ ty (.int .u8 0) Try.underlying33 (fun w => by kernel_rfl) rfl rfl g sf k _ (by omega) (fun j hj => by
          have h9 : w.cell? ⟨g, sf + j, none⟩ = some (.int .u8 (bs[sf + j]'(by omega) : Nat)) := by
            have h8 : Row w (.slice (some ⟨g, 0, none⟩) bs.length cap) bs := by rw [← hq.1]; exact HRW
            exact h8.cell (sf + j) (by omega)
          show (w.cell? ⟨g, sf + j, none⟩).isSome = true
          rw [h9]; rfl) (fun j hj => RowE.frozen (enc := byteV) HRW (sf + j))
      have hk9 : Kept (· = g) w W9 := by rw [hW9]; exact Kept.trans (Kept.refl (fun _ => False) w).drew.drew (setCells_kept k w.drew.drew g sf _) (fun _ _ f => f.elim) (fun _ _ e => e)
      have R9 : Row W9 (.slice (some ⟨g, 0, none⟩) n cap) (clr bs sf k) := by rw [hW9]; exact row_clr k w.drew.drew g n cap sf bs HRW
      have HB9 : Hid (Blk W9 f #[.slice (some ⟨g, 0, none⟩) n cap, .int .i64 (sf : Nat)] 73) := hid (HB.out.kept hk9 (fun e => hgf e.symm))
      have d0 : W9.cell? ⟨f, 0, none⟩ = some (.slice (some ⟨g, 0, none⟩) n cap) := HB9.out.cell 0
      have d1 : W9.cell? ⟨f, 1, none⟩ = some (.int .i64 (sf : Nat)) := HB9.out.cell 1
      have y0 := HB9.out.frozen 0
      have y1 := HB9.out.frozen 1
      have H9 : Hid (Kept (· = g) w W9 ∧ Row W9 (.slice (some ⟨g, 0, none⟩) n cap) (clr bs sf k) ∧ ¬ g = f) := hid ⟨hk9, R9, hgf⟩
      have s4 : (0 : Int) ≤ (sf : Int) := by omega
      have s5 : (sf : Int) ≤ (en : Int) := by omega
      have s6 : sf ≤ en := by omega
      have hsl : en - sf = k := by omega
      clear hk9 R9 hW9 HRW hgf hbs hk0 hq
      go_enter Try.func56, Try.ntmps56
      go_wp2_with fail
      go_region_held3 (fun w' => w'.cell? ⟨f, 0, none⟩ = some (.slice (some ⟨g, 0, none⟩) n cap) ∧ w'.cell? ⟨f, 1, none⟩ = some (.int .i64 (sf : Nat)))
        (first | (go_split_ands; exact ⟨by assumption, by assumption⟩) | go_keep)
        (first | (go_at_call 52; refine (HSD.out _).mono ?_; rintro e w2 ⟨rfl, hw2⟩; subst hw2))
      all_goals
        go_upto_region 2 with fail
        go_region
        go_wp2_with fail
        go_end0
        obtain ⟨wz, hwz⟩ : ∃ W, W = (W9.setCell ⟨f, 0, none⟩ (.slice (some ⟨g, 0, none⟩) en cap)).setCell ⟨f, 1, none⟩ (.int .i64 (en : Nat)) := ⟨_, rfl⟩
        rw [← hwz]
        have hq := HQ.out
        have h8 := H9.out
        have hkz : Kept (· = f) W9 wz := by rw [hwz]; exact ((Kept.refl (· = f) W9).setCell _ _ (.inl rfl)).setCell _ _ (.inl rfl)
        refine ⟨rfl, .slice (some ⟨g, 0, none⟩) en cap, ?_, ?_, HOWN.out _ _, Kept.trans h8.1 hkz (fun k _ e => .inr (by rw [e]; rfl)) (fun k _ e => .inl e)⟩
        · have h9 := (HB9.out.set 0 (.slice (some ⟨g, 0, none⟩) en cap)).set 1 (.int .i64 (en : Nat))
          have h10 : Blk wz f #[.slice (some ⟨g, 0, none⟩) en cap, .int .i64 (en : Nat)] 73 := by rw [hwz]; simpa using h9
          rw [HCR.out.1]
          exact h10
        · rw [HCR.out.2.1 HC.out, ← clr_take k bs sf (by omega), ← hq.2.2.2.2.1]
          exact (HCUT.out W9 (clr bs sf k) h8.2.1 (by rw [clr_length]; exact hq.1.symm)).kept hkz (fun j e e2 => hq.2.2.2.2.2.1 (by rw [HOWN.out n en, e, e2]))
  · have b1 : decide (c < 0) = false := by simp; omega
    have HC : Hid (¬ c < 0) := hc
    clear hc hs hn hk0 hcap h1 h2
    go_enter Try.func56, Try.ntmps56
    go_wp2_with fail
    go_region_held3 (fun w' => w'.cell? ⟨f, 0, none⟩ = some (.slice ao n cap) ∧ w'.cell? ⟨f, 1, none⟩ = some (.int .i64 (sf : Nat)))
      (first | (go_split_ands; exact ⟨by assumption, by assumption⟩) | go_keep)
      (first | (go_at_call 52; refine (HSD.out _).mono ?_; rintro e w2 ⟨rfl, hw2⟩; subst hw2))
    all_goals
      go_wp2_with fail
      go_end0
      obtain ⟨wz, hwz⟩ : ∃ W, W = (w.setCell ⟨f, 0, none⟩ (.slice ao en cap)).setCell ⟨f, 1, none⟩ (.int .i64 (en : Nat)) := ⟨_, rfl⟩
      rw [← hwz]
      have hq := HQ.out
      have hkz : Kept (· = f) w wz := by rw [hwz]; exact ((Kept.refl (· = f) w).setCell _ _ (.inl rfl)).setCell _ _ (.inl rfl)
      refine ⟨rfl, .slice ao en cap, ?_, ?_, HOWN.out _ _, (hkz.mono (fun k _ e => .inl e)).drew⟩
      · have h9 := (HB.out.set 0 (.slice ao en cap)).set 1 (.int .i64 (en : Nat))
        have h10 : Blk wz f #[.slice ao en cap, .int .i64 (en : Nat)] 73 := by rw [hwz]; simpa using h9
        rw [HCR.out.1]
        exact h10
      · rw [HCR.out.2.2 HC.out]
        exact (HCUT.out w bs HR.out hq.1.symm).kept hkz.drew (fun j e e2 => hq.2.2.2.2.2.1 (by rw [HOWN.out n en, e, e2]))

end Go.Proofs.Ytjcobogajkfnmaa

/-
  Layer 9: a disk behind a crash, as a state.
-/
namespace Go.Proofs.Ytjcobogajkfnmaa
open Go.RowKit Go.Maps

/-- The choice at a place. -/
def pkN (cs : List Int) (i : Nat) : Int := cs.getD i 0

/-- Names behind changes. -/
def foldN (L : Nms) (cs : List Chg) : Nms := cs.foldl (fun L c => appN c L) L

theorem foldN_snoc (L : Nms) (cs : List Chg) (c : Chg) : foldN L (cs ++ [c]) = appN c (foldN L cs) := by simp [foldN, List.foldl_append]

theorem foldN_take (L : Nms) (cs : List Chg) (i : Nat) (h : i < cs.length) : foldN L (cs.take (i + 1)) = appN cs[i] (foldN L (cs.take i)) := by
  rw [← foldN_snoc, List.take_add_one, List.getElem?_eq_getElem h]; rfl

theorem foldN_len (cs : List Chg) : ∀ L : Nms, (foldN L cs).length ≤ L.length + cs.length := by
  induction cs with
  | nil => intro L; exact Nat.le_refl _
  | cons c cs ih =>
    intro L
    have h1 := ih (appN c L)
    have h2 := appN_len c L
    show (foldN (appN c L) cs).length ≤ _
    rw [List.length_cons]
    omega

theorem foldN_mem (cs : List Chg) : ∀ (L : Nms) (p : ByteArray × Nat), p ∈ foldN L cs → p ∈ L ∨ ∃ c ∈ cs, p = (c.dst, c.f) := by
  induction cs with
  | nil => intro L p h; exact .inl h
  | cons c cs ih =>
    intro L p h
    rcases ih (appN c L) p h with h | ⟨c', h1, h2⟩
    · rcases appN_mem h with h | h
      · exact .inr ⟨c, List.mem_cons_self, h⟩
      · exact .inl h
    · exact .inr ⟨c', List.mem_cons_of_mem _ h1, h2⟩

/-- Files behind a crash, the names' one behind the other. -/
def craFl (cs : List Int) : Nat → Nms → (Nat → Fl) → (Nat → Fl)
  | _, [], fl => fl
  | i, p :: L, fl => craFl cs (i + 1) L (updF fl p.2 (crF (fl p.2) (pkN cs (i + 1))))

/-- How many changes survive. -/
def krN (s : Ds) (cs : List Int) : Nat := sayN (pkN cs 0) s.chg.length

def craN (s : Ds) (cs : List Int) : Nms := foldN s.safe (s.chg.take (krN s cs))

/-- Ahead of the files. -/
def cr0S (s : Ds) (cs : List Int) : Ds := { s with names := craN s cs, safe := craN s cs, chg := [], left := -1 }

def craS (s : Ds) (cs : List Int) : Ds := { cr0S s cs with fl := craFl cs 0 (craN s cs) s.fl }

theorem krN_le (s : Ds) (cs : List Int) : krN s cs ≤ s.chg.length := sayN_le _ _

section
variable {N : Nat} {w : World} {d : Nat} {s : Ds} {ρ : Rho} {nb sb : Nat} {cv : Value}

/-- The names are a new map, of the same as the safe ones are now; no changes are left. -/
theorem Dk.crashed (h : Dk N w d s ρ nb sb cv) {w' : World} {cs : List Int} {b : Nat} (hN : N ≤ w.heap.size) (hb : w.heap.size ≤ b) (hk : Kept (fun k => k = d ∨ k = sb) w w') (hm : Mp w' b (craN s cs)) (hs : Mp w' sb (craN s cs))
    (hB : Blk w' d #[.int .i64 (s.room : Nat), .map (some b), .map (some sb), .slice none 0 0, .int .i64 (s.steps : Nat), .int .i64 (-1)] 62) :
    Dk N w' d (cr0S s cs) (fun k => if k = b then 2 else if ρ k = 2 ∨ ρ k = 4 then 0 else ρ k) b sb (.slice none 0 0) := by
  have hlt : ∀ k, ρ k ≠ 0 → k < w.heap.size := fun k hk => (h.new k hk).2
  have hnb : ∀ k, ρ k ≠ 0 → ¬ k = b := fun k h0 e => by have := hlt k h0; omega
  have hne : ∀ k, ρ k ≠ 1 → ρ k ≠ 3 → ¬ (k = d ∨ k = sb) := fun k h1 h3 e => by
    rcases e with e | e
    · exact h1 (by rw [e]; exact h.rd)
    · exact h3 (by rw [e]; exact h.rs)
  have toR : ∀ k y, ρ k = y → y ≠ 0 → y ≠ 2 → y ≠ 4 → (if k = b then 2 else if ρ k = 2 ∨ ρ k = 4 then 0 else ρ k) = y := fun k y e h0 h3 h4 => by
    rw [if_neg (hnb k (by rw [e]; exact h0)), if_neg (by omega)]; exact e
  have fro : ∀ k, (if k = b then 2 else if ρ k = 2 ∨ ρ k = 4 then 0 else ρ k) = 5 → ρ k = 5 := fun k e => by
    by_cases h1 : k = b
    · rw [if_pos h1] at e; cases e
    · rw [if_neg h1] at e
      by_cases h2 : ρ k = 2 ∨ ρ k = 4
      · rw [if_pos h2] at e; cases e
      · rwa [if_neg h2] at e
  have hml : ∀ p ∈ craN s cs, ρ p.2 = 5 ∧ p.1.size ≤ 100000 := fun p hp => by
    rcases foldN_mem _ _ p hp with h1 | ⟨c, h1, h2⟩
    · exact ⟨h.sff p h1, h.txs.2.2 p h1⟩
    · rw [h2]
      exact ⟨h.chf c (List.mem_of_mem_take h1), (h.txs.1 c (List.mem_of_mem_take h1)).2⟩
  have hlen : (craN s cs).length ≤ s.steps := by
    have h1 := foldN_len (s.chg.take (krN s cs)) s.safe
    have h2 := h.lens
    have h3 : (s.chg.take (krN s cs)).length ≤ s.chg.length := List.length_take_le' _ _
    unfold craN
    omega
  refine ⟨hB, hm, hs, RowC.nil, fun f hf => ?_, fun f hf => h.okf f (fro f hf), fun p hp => toR _ _ (hml p hp).1 (by decide) (by decide) (by decide), fun p hp => toR _ _ (hml p hp).1 (by decide) (by decide) (by decide), (by intro c hc; cases hc), toR _ _ h.rd (by decide) (by decide) (by decide), if_pos rfl, toR _ _ h.rs (by decide) (by decide) (by decide), fun k e => (by cases e), fun k hk2 => ?_, h.room, ⟨hlen, by show (craN s cs).length + 0 ≤ s.steps; omega⟩, ⟨by show (-1 : Int) ≤ -1; omega, by show (-1 : Int) ≤ _; omega⟩, ⟨fun c hc => (by cases hc), fun p hp => (hml p hp).2, fun p hp => (hml p hp).2⟩⟩
  · have hf5 := fro f hf
    obtain ⟨v, h1, h2, h3⟩ := h.fil f hf5
    exact ⟨v, h1.kept hk (hne f (by rw [hf5]; decide) (by rw [hf5]; decide)), h2.kept hk (fun k e => hne k (by rw [h3 k e]; omega) (by rw [h3 k e]; omega)), fun k e => toR _ _ (h3 k e) (by omega) (by omega) (by omega)⟩
  · by_cases h1 : k = b
    · rw [h1]; exact ⟨Nat.le_trans hN hb, hm.lt⟩
    · rw [if_neg h1] at hk2
      have h2 : ρ k ≠ 0 := fun e => hk2 (by rw [e]; simp)
      have := h.new k h2
      have := hk.size
      omega

end

theorem getN_at {L : Nms} (h : L.Pairwise (fun p q => p.1 ≠ q.1)) (i : Nat) (hi : i < L.length) : getN L[i].1 L = some L[i].2 := by
  induction L generalizing i with
  | nil => simp at hi
  | cons p L ih =>
    rw [List.pairwise_cons] at h
    unfold getN
    rw [List.find?_cons]
    cases i with
    | zero => simp
    | succ i =>
      rw [List.getElem_cons_succ]
      have : decide (p.1 = (L[i]'(by simp at hi; omega)).1) = false := by
        simp only [decide_eq_false_iff_not]
        exact h.1 _ (List.getElem_mem _)
      rw [this]
      exact ih h.2 i (by simp at hi; omega)

theorem dpick_any (w : World) (I : Nat → Prop) (v : Value) (cs : List Int) (h : SrcE intV w I v cs) (k : Nat) :
    Calls Try.prog 53 #[v, .int .i64 (k : Nat)] w fun e w' => e = .returned (.int .i64 (pkN cs k)) ∧ w' = w := by
  obtain ⟨ao, cap, rfl, _, hc⟩ := h
  by_cases hk : k < cs.length
  · obtain ⟨b, o, rfl, _, h1⟩ := hc (fun e => by rw [e] at hk; simp at hk)
    have h2 : pkN cs k = cs[k] := by unfold pkN; simp [List.getD, hk]
    rw [h2]
    exact dpick_in w b o cs.length cap k hk _ (h1 k hk)
  · have h2 : pkN cs k = 0 := by unfold pkN; simp [List.getD, Nat.le_of_not_lt hk]
    rw [h2]
    exact dpick_out w ao cs.length cap k (Nat.le_of_not_lt hk)

end Go.Proofs.Ytjcobogajkfnmaa

/-
  Layer 9: Crash.
-/
namespace Go.Proofs.Ytjcobogajkfnmaa
open Go.RowKit Go.Maps

section
variable {N : Nat} {w : World} {d : Nat} {s : Ds} {ρ : Rho} {nb sb : Nat} {cv : Value}

theorem pkN_in {cs : List Int} (h : ∀ c ∈ cs, -9223372036854775808 ≤ c ∧ c ≤ 9223372036854775807) (i : Nat) : -9223372036854775808 ≤ pkN cs i ∧ pkN cs i ≤ 9223372036854775807 := by
  unfold pkN
  by_cases hi : i < cs.length
  · rw [List.getD_eq_getElem?_getD, List.getElem?_eq_getElem hi]
    exact h _ (List.getElem_mem hi)
  · rw [List.getD_eq_getElem?_getD, List.getElem?_eq_none (by omega)]
    simp

set_option maxRecDepth 100000 in
set_option maxHeartbeats 1000000 in
theorem dcrash_any (h : Dk N w d s ρ nb sb cv) (hst : s.steps ≤ 1000000) (hN : N ≤ w.heap.size) (I : Nat → Prop) (xv : Value) (cs : List Int) (hsrc : SrcE intV w I xv cs) (hr : ∀ c ∈ cs, -9223372036854775808 ≤ c ∧ c ≤ 9223372036854775807) (hI : ∀ k, I k → k < w.heap.size → ρ k = 0) :
    Calls Try.prog 17 #[.pointer (some ⟨d, 0, none⟩), xv] w fun e w' => StpC N w d ρ (.ok (craS s cs)) e w' := by
  obtain ⟨s0, hs0⟩ : ∃ s0 : Ds, s0 = { s with left := -1 } := ⟨_, rfl⟩
  have HE : Hid (craS s cs = craS s0 cs) := hid (by rw [hs0]; rfl)
  obtain ⟨w1, hw1⟩ : ∃ W, W = w.setCell ⟨d, 5, none⟩ (.int .i64 (-1)) := ⟨_, rfl⟩
  have hk1 : Kept (· = d) w w1 := by rw [hw1]; exact (Kept.refl (· = d) w).setCell _ _ (.inl rfl)
  have D1 : Dk N w1 d s0 ρ nb sb cv := by
    refine h.setBlk hk1 ?_ (by rw [hs0]; exact ⟨rfl, rfl, rfl, rfl, rfl⟩) (by rw [hs0]; exact Nat.le_refl _) (by rw [hs0]; exact ⟨Int.le_refl _, by show (-1 : Int) ≤ _; omega⟩)
    have h9 := h.blk.set 5 (.int .i64 (-1))
    rw [hw1, hs0]
    simpa using h9
  have c5 : w.cell? ⟨d, 5, none⟩ = some (.int .i64 s.left) := h.blk.cell 5
  have z5 := h.blk.frozen 5
  have hsr1 : ∀ w', Kept (fun k => ρ k ≠ 0) w w' → SrcE intV w' I xv cs := fun w' hk => hsrc.kept hk (fun k i1 i2 => by rw [hI k i1 i2]; exact fun h => h rfl)
  have HSR : Hid (∀ w', Kept (fun k => ρ k ≠ 0) w w' → SrcE intV w' I xv cs) := hsr1
  have HKW1 : Hid (Kept (fun k => ρ k ≠ 0) w w1) := hid (hk1.mono (fun k _ e => by rw [e, h.rd]; decide))
  have HRG : Hid (∀ i, -9223372036854775808 ≤ pkN cs i ∧ pkN cs i ≤ 9223372036854775807) := hid (pkN_in hr)
  obtain ⟨ao, cap, hxv, _⟩ := hsrc
  obtain ⟨L9, hL9⟩ : ∃ n, n = cs.length := ⟨_, rfl⟩
  rw [← hL9] at hxv
  subst hxv
  obtain ⟨a3, n3, q3, hcv⟩ : ∃ a n q, cv = .slice a n q := by
    obtain ⟨a, q, e, _⟩ := h.ch.shape
    exact ⟨a, _, q, e⟩
  subst hcv
  have hn3 : n3 = s0.chg.length ∧ n3 ≤ q3 := by
    obtain ⟨a, q, e, _, _, h8, _⟩ := D1.ch.shape
    simp only [Value.slice.injEq] at e
    omega
  obtain ⟨K, hK⟩ : ∃ k, k = krN s0 cs := ⟨_, rfl⟩
  have hKl : K ≤ n3 := by rw [hK, hn3.1]; exact krN_le _ _
  have c3 : w1.cell? ⟨d, 3, none⟩ = some (.slice a3 n3 q3) := D1.blk.cell 3
  have HPK : Hid (∀ w', Kept (fun k => ρ k ≠ 0) w w' → ∀ k : Nat, Calls Try.prog 53 #[.slice ao L9 cap, .int .i64 (k : Nat)] w' fun e w2 => e = .returned (.int .i64 (pkN cs k)) ∧ w2 = w') := hid (fun w' hk k => dpick_any w' I _ cs (HSR.out w' hk) k)
  have HSD : Hid (∀ w', Calls Try.prog 52 #[.int .i64 (pkN cs 0), .int .i64 (n3 : Nat)] w' fun e w2 => e = .returned (.int .i64 (K : Nat)) ∧ w2 = w') := hid (fun w' => by
    have h9 := dsaid_any w' (pkN cs 0) n3 (HRG.out 0).1 (HRG.out 0).2 (by have h7 := D1.lens; have h8 : s0.steps = s.steps := (by rw [hs0]); omega)
    rw [hK]
    unfold krN
    rw [← hn3.1]
    exact h9)
  have HD1 : Hid (Dk N w1 d s0 ρ nb sb (.slice a3 n3 q3)) := D1
  have HQ : Hid (s0.steps ≤ 1000000 ∧ N ≤ w.heap.size ∧ n3 = s0.chg.length ∧ n3 ≤ q3 ∧ K ≤ n3 ∧ K = krN s0 cs ∧ w.heap.size ≤ w1.heap.size) := hid ⟨by rw [hs0]; exact hst, hN, hn3.1, hn3.2, hKl, hK, hk1.size⟩
  have s1 : (0 : Int) ≤ (K : Int) := by omega
  have s2 : (K : Int) ≤ (q3 : Int) := by omega
  have s3 : K ≤ q3 := by omega
  have HP0 := HPK.out w1 HKW1.out 0
  have HL0 : s0.left = -1 := by rw [hs0]
  have HL0 : Hid (s0.left = -1) := HL0
  clear h D1 hk1 hst hN hr hI hsr1 hL9 hn3 hKl hK hs0
  go_enter Try.func17, Try.ntmps17
  go_wp2_with fail
  rw [← hw1]
  clear hw1
  go_region_held3 (fun w' => w'.cell? ⟨d, 3, none⟩ = some (.slice a3 n3 q3))
    (first | (go_split_ands; assumption) | go_keep)
    (first
      | (go_at_call 53; refine (HPK.out _ (by first | exact HKW1.out.drew | exact HKW1.out | exact HKW1.out.drewN _) 0).mono ?_; rintro e w4 ⟨rfl, hw4⟩; subst hw4)
      | (go_at_call 52; refine (HSD.out _).mono ?_; rintro e w5 ⟨rfl, hw5⟩; subst hw5))
  all_goals
    go_wp2_with fail
    have HW0 : Hid (Same w1 w1.drew) := hid (Kept.refl _ w1).drew
    go_loopg [30] K (fun qq z wr => ∃ (i : Nat), z = .int .i64 (i : Nat) ∧ i ≤ K ∧ K - i ≤ qq ∧ Hid (Mp wr sb (foldN s0.safe (s0.chg.take i)) ∧ Kept (· = sb) w1 wr))
    case atStart =>
      refine ⟨0, rfl, by omega, by omega, hid ⟨?_, (Kept.refl _ w1).drew⟩⟩
      exact HD1.out.sf.kept HW0.out (fun f => f)
    case round =>
      obtain ⟨i, rfl, hiK, hiq, HI⟩ := hrel
      by_cases hlt : i < K
      · have b1 : decide (i < K) = true := by simp; omega
        have hq := HQ.out
        obtain ⟨c, hc⟩ : ∃ c, c = s0.chg[i]'(by omega) := ⟨_, rfl⟩
        have hne : s0.chg ≠ [] := fun e => by rw [e] at hq; simp at hq; omega
        obtain ⟨g, hg⟩ : ∃ g, a3 = some ⟨g, 0, none⟩ := by
          obtain ⟨a, q, e, h8, _⟩ := HD1.out.ch.shape
          simp only [Value.slice.injEq] at e
          obtain ⟨g, hg⟩ := h8 hne
          exact ⟨g, by rw [e.1, hg]⟩
        subst hg
        have hsbg : ¬ g = sb := fun e => by have h8 := HD1.out.rc g rfl; have h9 := HD1.out.rs; rw [e, h9] at h8; cases h8
        have hRr : RowC N 78 3 chE wr (.slice (some ⟨g, 0, none⟩) n3 q3) s0.chg := HD1.out.ch.kept HI.out.2 (fun k e e2 => hsbg (by simp only [Value.ownBlock, Option.some.injEq] at e; omega))
        have k0 : wr.cell? ⟨g, i * 3, none⟩ = some (.string c.src) := by have h9 := hRr.cell chE_ok i 0 (by omega) (by decide); rw [← hc] at h9; exact h9
        have k1 : wr.cell? ⟨g, i * 3 + 1, none⟩ = some (.string c.dst) := by have h9 := hRr.cell chE_ok i 1 (by omega) (by decide); rw [← hc] at h9; exact h9
        have k2 : wr.cell? ⟨g, i * 3 + 2, none⟩ = some (.pointer (some ⟨c.f, 0, none⟩)) := by have h9 := hRr.cell chE_ok i 2 (by omega) (by decide); rw [← hc] at h9; exact h9
        have i1 : (0 : Int) ≤ (i : Int) := by omega
        have i2 : (i : Int) < (K : Int) := by omega
        have hiw : IntKind.i64.wrap ((i : Int) + 1) = ((i + 1 : Nat) : Int) := by rw [IntKind.wrap_i64]; have := HD1.out.lens; omega
        obtain ⟨wA, hwA⟩ : ∃ W, W = wr.alloc (.cells #[.string c.src, .string c.dst, .pointer (some ⟨c.f, 0, none⟩)] 78) := ⟨_, rfl⟩
        obtain ⟨xb, hxb⟩ : ∃ x, x = wr.heap.size := ⟨_, rfl⟩
        have HKA : Hid (Same wr wA) := hid (by rw [hwA]; exact (Kept.refl _ wr).alloc _)
        have BA : Hid (Blk wA xb #[.string c.src, .string c.dst, .pointer (some ⟨c.f, 0, none⟩)] 78) := hid (by rw [hwA, hxb]; exact Blk.new wr _ _)
        have hdb := (HD1.out.blk.kept HI.out.2 (fun e => by have h8 := HD1.out.rd; rw [e, HD1.out.rs] at h8; cases h8)).kept HKA.out (fun f => f)
        have d2 : wA.cell? ⟨d, 2, none⟩ = some (.map (some sb)) := hdb.cell 2
        have a0 : wA.cell? ⟨xb, 0, none⟩ = some (.string c.src) := BA.out.cell 0
        have a1 : wA.cell? ⟨xb, 1, none⟩ = some (.string c.dst) := BA.out.cell 1
        have a2 : wA.cell? ⟨xb, 2, none⟩ = some (.pointer (some ⟨c.f, 0, none⟩)) := BA.out.cell 2
        have HNE : Hid (¬ xb = sb ∧ ¬ d = sb) := hid ⟨fun e => by have := HI.out.1.lt; omega, fun e => by have h8 := HD1.out.rd; rw [e, HD1.out.rs] at h8; cases h8⟩
        have hcm : c ∈ s0.chg := by rw [hc]; exact List.getElem_mem _
        have hfl : (foldN s0.safe (s0.chg.take i)).length ≤ 100000000 := by
          have h7 := foldN_len (s0.chg.take i) s0.safe
          have h8 : (s0.chg.take i).length ≤ s0.chg.length := List.length_take_le' _ _
          have := HD1.out.lens
          omega
        have HAP : Hid (∀ w', Same wA w' → Calls Try.prog 54 #[.agg #[.string c.src, .string c.dst, .pointer (some ⟨c.f, 0, none⟩)], .map (some sb)] w' fun e w2 => e = .returned (.tuple #[]) ∧ Mp w2 sb (appN c (foldN s0.safe (s0.chg.take i))) ∧ Kept (· = sb) w' w2) := hid (fun w' hk => dapply_any w' sb _ ((HI.out.1.kept HKA.out (fun f => f)).kept hk (fun f => f)) c (HD1.out.txs.1 c hcm).1 (HD1.out.txs.1 c hcm).2 hfl)
        have HFO : Hid (foldN s0.safe (s0.chg.take (i + 1)) = appN c (foldN s0.safe (s0.chg.take i))) := hid (by rw [hc]; exact foldN_take _ _ _ _)
        clear hq hc hne hsbg hRr hdb hcm hfl
        go_wp2_with fail
        rw [← hwA, ← hxb]
        clear hwA hxb k0 k1 k2
        go_region_held3 (fun w' => w'.cell? ⟨xb, 0, none⟩ = some (.string c.src) ∧ w'.cell? ⟨xb, 1, none⟩ = some (.string c.dst) ∧ w'.cell? ⟨xb, 2, none⟩ = some (.pointer (some ⟨c.f, 0, none⟩)) ∧ w'.cell? ⟨d, 2, none⟩ = some (.map (some sb)))
          (first | (go_split_ands; exact ⟨hk6.cell (by assumption) HNE.out.1, hk6.cell (by assumption) HNE.out.1, hk6.cell (by assumption) HNE.out.1, hk6.cell (by assumption) HNE.out.2⟩) | go_keep)
          (first
            | (go_at_call 54; refine (HAP.out _ (by first | exact (Kept.refl _ _).drew | exact Kept.refl _ _ | exact (Kept.refl _ _).drewN _)).mono ?_; rintro e w6 ⟨rfl, hm6, hk6⟩))
        all_goals
          have H6 : Hid (Mp w6 sb (foldN s0.safe (s0.chg.take (i + 1))) ∧ Kept (· = sb) w1 w6) := hid ⟨by rw [HFO.out]; exact hm6, Kept.trans (Kept.trans HI.out.2 HKA.out (H := (· = sb)) (fun _ _ e => e) (fun _ _ f => f.elim)) (Kept.undrew9 hk6) (fun _ _ e => e) (fun _ _ e => e)⟩
          clear hm6 hk6
          go_wp2_with fail
          go_roundg (gk - 1)
          case measure => omega
          case rel => exact ⟨i + 1, by go_num, by omega, by omega, H6⟩
      · have b1 : decide (i < K) = false := by simp; omega
        have hiK2 : i = K := by omega
        subst hiK2
        have hq := HQ.out
        have hds : ¬ d = sb := fun e => by have h8 := HD1.out.rd; rw [e, HD1.out.rs] at h8; cases h8
        have HMr : Hid (Mp wr sb (craN s0 cs)) := hid (by have h9 := HI.out.1; rw [hq.2.2.2.2.2.1] at h9; exact h9)
        have HC := dmclone_any wr sb (craN s0 cs) HMr.out
        have HBr : Hid (Blk wr d #[.int .i64 (s0.room : Nat), .map (some nb), .map (some sb), .slice a3 n3 q3, .int .i64 (s0.steps : Nat), .int .i64 s0.left] 62) := hid (HD1.out.blk.kept HI.out.2 hds)
        have d2 : wr.cell? ⟨d, 2, none⟩ = some (.map (some sb)) := HBr.out.cell 2
        have HDS : Hid (¬ d = sb) := hds
        have HS0 : Hid (s0.left = -1) := hid HL0.out
        clear hq hds
        go_wp2_with fail
        refine HC.mono ?_
        rintro e w7 ⟨rfl, hm7, hk7, hs7⟩
        obtain ⟨b, hb⟩ : ∃ b, b = wr.heap.size := ⟨_, rfl⟩
        rw [← hb] at hm7 ⊢
        have HB7 : Hid (Blk w7 d #[.int .i64 (s0.room : Nat), .map (some nb), .map (some sb), .slice a3 n3 q3, .int .i64 (s0.steps : Nat), .int .i64 s0.left] 62) := hid (HBr.out.kept hk7 (fun f => f))
        have z1 := HB7.out.frozen 1
        have z3 := HB7.out.frozen 3
        have f1 : w7.cell? ⟨d, 1, none⟩ = some (.map (some nb)) := HB7.out.cell 1
        have f3 : w7.cell? ⟨d, 3, none⟩ = some (.slice a3 n3 q3) := HB7.out.cell 3
        obtain ⟨w8, hw8⟩ : ∃ W, W = (w7.setCell ⟨d, 1, none⟩ (.map (some b))).setCell ⟨d, 3, none⟩ (.slice none 0 0) := ⟨_, rfl⟩
        have hk8 : Kept (· = d) w7 w8 := by rw [hw8]; exact ((Kept.refl (· = d) w7).setCell _ _ (.inl rfl)).setCell _ _ (.inl rfl)
        have B8 : Blk w8 d #[.int .i64 (s0.room : Nat), .map (some b), .map (some sb), .slice none 0 0, .int .i64 (s0.steps : Nat), .int .i64 (-1)] 62 := by
          rw [hw8]
          have h9 := (HB7.out.set 1 (.map (some b))).set 3 (.slice none 0 0)
          rw [HS0.out] at h9
          simpa using h9
        have hbd : ¬ b = d := fun e => by have := HBr.out.lt; omega
        have D8 := HD1.out.crashed (cs := cs) (w' := w8) (b := b) (by have := HQ.out; omega) (by have := HI.out.2.size; omega) (Kept.trans (Kept.trans HI.out.2 hk7 (H := (· = sb)) (fun _ _ e => e) (fun _ _ f => f.elim)) hk8 (fun k _ e => .inr e) (fun k _ e => .inl e)) (hm7.kept hk8 hbd) ((HMr.out.kept hk7 (fun f => f)).kept hk8 (fun e => HDS.out e.symm)) B8
        obtain ⟨ρ1, hρ1⟩ : ∃ ρ1 : Rho, ρ1 = (fun k => if k = b then 2 else if ρ k = 2 ∨ ρ k = 4 then 0 else ρ k) := ⟨_, rfl⟩
        rw [← hρ1] at D8
        have HRH : Hid (∀ k, ρ1 k = 0 ∨ ρ1 k = ρ k ∨ w.heap.size ≤ k) := hid (fun k => by
          rw [hρ1]
          by_cases h1 : k = b
          · have := HI.out.2.size; have := HQ.out; exact .inr (.inr (by omega))
          · dsimp only
            rw [if_neg h1]
            by_cases h2 : ρ k = 2 ∨ ρ k = 4
            · exact .inl (if_pos h2)
            · exact .inr (.inl (if_neg h2)))
        have HK8 : Hid (Kept (fun k => ρ k ≠ 0) w w8) := hid (Kept.trans HKW1.out (Kept.trans (Kept.trans HI.out.2 hk7 (H := (· = sb)) (fun _ _ e => e) (fun _ _ f => f.elim)) hk8 (H := fun k => ρ k ≠ 0) (fun k _ e => by rw [e, HD1.out.rs]; decide) (fun k _ e => by rw [e, HD1.out.rd]; decide)) (fun _ _ e => e) (fun _ _ e => e))
        have HD8 : Hid (Dk N w8 d (cr0S s0 cs) ρ1 b sb (.slice none 0 0)) := D8
        have HNM := dnames_any D8 HQ.out.1
        rw [show namS (cr0S s0 cs) = (craN s0 cs).map (·.1) from if_neg (by show ¬ (-1 : Int) = 0; decide)] at HNM
        clear hm7 hk7 hs7 hb hk8 B8 hbd D8 hρ1 HC d2
        go_wp2_with fail
        rw [← hw8]
        clear hw8 f1 f3 z1 z3
        refine HNM.mono ?_
        rintro e w9 ⟨v9, rfl, hr9, hk9, _⟩
        obtain ⟨a9, c9, hv9, hg9, _⟩ := hr9.shape
        obtain ⟨S, hS⟩ : ∃ S, S = craN s0 cs := ⟨_, rfl⟩
        rw [← hS] at hr9 hv9 hg9
        rw [List.length_map] at hv9
        obtain ⟨M, hM⟩ : ∃ M, M = S.length := ⟨_, rfl⟩
        rw [← hM] at hv9
        subst hv9
        have HR9 : Hid (RowE w8.heap.size 9 strV w9 (.slice a9 M c9) (S.map (·.1)) ∧ Same w8 w9 ∧ (S.map (·.1) ≠ [] → ∃ g, a9 = some ⟨g, 0, none⟩) ∧ M = S.length ∧ S = craN s0 cs) := hid ⟨hr9, hk9, hg9, hM, hS⟩
        have HMl : Hid (M ≤ 1000000) := hid (by have h8 := HD8.out.lens.1; have h7 : (cr0S s0 cs).names = S := hS.symm; rw [h7] at h8; have := HQ.out.1; have h6 : (cr0S s0 cs).steps = s0.steps := rfl; omega)
        clear hr9 hk9 hg9 hM hS HNM
        go_wp2_with fail
        obtain ⟨K9, hK9⟩ : ∃ k, k = gk := ⟨_, rfl⟩
        clear hK9
        go_loopg [55] M (fun qq z wq => ∃ (j : Nat) (fl : Nat → Fl), z = .int .i64 (j : Nat) ∧ j ≤ M ∧ M - j ≤ qq ∧ Hid (Dk N wq d { cr0S s0 cs with fl := fl } ρ1 b sb (.slice none 0 0) ∧ craFl cs j (S.drop j) fl = craFl cs 0 S s0.fl ∧ Kept (fun k => ρ1 k ≠ 0) w9 wq))
        case atStart =>
          refine ⟨0, s0.fl, rfl, by omega, by omega, hid ⟨HD8.out.same HR9.out.2.1, rfl, Kept.refl _ _⟩⟩
        case round =>
          obtain ⟨j, fl, rfl, hjM, hjq, HJ⟩ := hrel
          by_cases hjl : j < M
          · have b2 : decide (j < M) = true := by simp; omega
            have hr9 := HR9.out
            have hjS : j < S.length := by omega
            obtain ⟨t, ht⟩ : ∃ t, t = S[j].1 := ⟨_, rfl⟩
            obtain ⟨f, hf⟩ : ∃ f, f = S[j].2 := ⟨_, rfl⟩
            obtain ⟨g, hg⟩ := hr9.2.2.1 (fun e => by rw [List.map_eq_nil_iff] at e; rw [e] at hjS; simp at hjS)
            subst hg
            have hSn : ({ cr0S s0 cs with fl := fl } : Ds).names = S := hr9.2.2.2.2.symm
            have hgt : getN t S = some f := by rw [ht, hf]; exact getN_at (by have h9 := HJ.out.1.nm.apart; rw [hSn] at h9; exact h9) j hjS
            have hρg : ρ1 g = 0 := Classical.byContradiction (fun h0 => by have h9 := (HD8.out.new g h0).2; have h8 := RowE.ge hr9.1 (k := g) rfl; omega)
            have k0 : wr.cell? ⟨g, j, none⟩ = some (.string t) := by
              have h9 := RowE.cell hr9.1 j (by rw [List.length_map]; exact hjS)
              rw [List.getElem_map, ← ht] at h9
              exact HJ.out.2.2.cell h9 (fun e => e hρg)
            have hmem : (t, f) ∈ S := getN_mem hgt
            have hts : t.size ≤ 100000 := HJ.out.1.txs.2.1 (t, f) (by rw [hSn]; exact hmem)
            have hlk := (HJ.out.1.nm.kept (show Same wr wr.drew from (Kept.refl _ wr).drew) (fun f => f)).look t (Nat.le_trans hts (by decide))
            rw [hSn, hgt] at hlk
            dsimp only at hlk
            have d1 : wr.cell? ⟨d, 1, none⟩ = some (.map (some b)) := HJ.out.1.blk.cell 1
            have hf5 : ρ1 f = 5 := HJ.out.1.nmf (t, f) (by rw [hSn]; exact hmem)
            obtain ⟨v, h1, h2, h3⟩ := HJ.out.1.fil f hf5
            have ok := HJ.out.1.okf f hf5
            have hrm := HJ.out.1.room
            have hvf : v.ownBlock ≠ some f := fun e => by have := h3 f e; omega
            obtain ⟨j1, hj1⟩ : ∃ j1, j1 = j + 1 := ⟨_, rfl⟩
            have hrg := HRG.out j1
            have HFC : Hid (∀ w', Same wr w' → Calls Try.prog 56 #[.pointer (some ⟨f, 0, none⟩), .int .i64 (pkN cs j1)] w' fun e w2 => e = .returned (.tuple #[]) ∧ ∃ v', Blk w2 f #[v', .int .i64 ((crF (fl f) (pkN cs j1)).safe : Nat)] 73 ∧ Row w2 v' (crF (fl f) (pkN cs j1)).bs ∧ v'.ownBlock = v.ownBlock ∧ Kept (fun k => k = f ∨ v.ownBlock = some k) w' w2) := hid (fun w' hk => dfcrash_any w' f v (fl f) (pkN cs j1) (h1.kept hk (fun f => f)) (h2.kept hk (fun _ _ f => f)) hvf ok.1 (Nat.le_trans ok.2.1 (Nat.le_trans hrm (by decide))) hrg.1 hrg.2)
            have hkq : Kept (fun k => ρ k ≠ 0) w wr := by
              refine Kept.trans HK8.out (Kept.trans HR9.out.2.1 HJ.out.2.2 (H := fun k => ρ1 k ≠ 0) (fun _ _ f => f.elim) (fun _ _ e => e)) (fun _ _ e => e) (fun k hk e => ?_)
              rcases HRH.out k with h7 | h7 | h7
              · exact absurd h7 e
              · rw [← h7]; exact e
              · omega
            have HKQ : Hid (Kept (fun k => ρ k ≠ 0) w wr) := hkq
            have q1 : (j : Int) + 1 = (j1 : Int) := by omega
            have q1w : IntKind.i64.wrap (j1 : Int) = (j1 : Int) := by rw [IntKind.wrap_i64]; have := HMl.out; omega
            have i1 : (0 : Int) ≤ (j : Int) := by omega
            have i2 : (j : Int) < (M : Int) := by omega
            have HJ1 : Hid (j1 = j + 1 ∧ j < M ∧ ρ1 f = 5) := hid ⟨hj1, hjl, hf5⟩
            have HFL : Hid (craFl cs j1 (S.drop j1) (updF fl f (crF (fl f) (pkN cs j1))) = craFl cs 0 S s0.fl) := hid (by
              have h9 := HJ.out.2.1
              rw [List.drop_eq_getElem_cons hjS, craFl, ← hf, ← hj1] at h9
              exact h9)
            have H3 : Hid (∀ k, v.ownBlock = some k → ρ1 k = 10 + f) := h3
            have HOK : Hid ((crF (fl f) (pkN cs j1)).safe ≤ (crF (fl f) (pkN cs j1)).bs.length ∧ (crF (fl f) (pkN cs j1)).bs.length ≤ (cr0S s0 cs).room ∧ ∀ b ∈ (crF (fl f) (pkN cs j1)).bs, b < 256) := hid (by
              have h9 := crF_ok (fl f) (pkN cs j1) ok.1
              refine ⟨Nat.le_of_eq h9.1, Nat.le_trans h9.2.1 ok.2.1, fun b hb => ?_⟩
              rcases h9.2.2 b hb with h8 | h8
              · omega
              · exact ok.2.2 b h8)
            have HND : Hid (¬ (d = f ∨ v.ownBlock = some d)) := hid (fun e => by
              have h9 := HJ.out.1.rd
              rcases e with e | e
              · rw [e] at h9; omega
              · have := h3 d e; omega)
            clear hr9 hjS ht hf hSn hgt hρg hmem hts hf5 h1 h2 h3 ok hrm hvf hrg hkq hj1
            go_upto_region 15 with fail
            go_region_held3 (fun w' => w'.cell? ⟨d, 1, none⟩ = some (.map (some b)))
              (first | (go_split_ands; assumption) | (go_split_ands; exact hK12.cell (by assumption) HND.out) | go_keep)
              (first
                | (go_at_call 53; refine (HPK.out _ (by first | exact HKQ.out.drew | exact HKQ.out | exact HKQ.out.drewN _) j1).mono ?_; rintro e w11 ⟨rfl, hw11⟩; subst hw11)
                | (go_at_call 56; refine (HFC.out _ (by first | exact (Kept.refl _ _).drew | exact Kept.refl _ _ | exact (Kept.refl _ _).drewN _)).mono ?_; rintro e w12 ⟨rfl, v12, hB12, hR12, hO12, hK12⟩))
            all_goals
              have hk12 : Kept (fun k => k = f ∨ ρ1 k = 10 + f) wr w12 := (Kept.undrew9 hK12).mono (fun k _ e => by rcases e with e | e; exact .inl e; exact .inr (H3.out k e))
              have D12 := HJ.out.1.setFile HJ1.out.2.2 hk12 (x := crF (fl f) (pkN cs j1)) (ρ' := ρ1) ⟨v12, hB12, hR12, fun k e => H3.out k (by rw [← hO12]; exact e)⟩ HOK.out (fun k => .inl rfl)
              have H12 : Hid (Dk N w12 d { cr0S s0 cs with fl := updF fl f (crF (fl f) (pkN cs j1)) } ρ1 b sb (.slice none 0 0) ∧ Kept (fun k => ρ1 k ≠ 0) w9 w12) := hid ⟨D12, Kept.trans HJ.out.2.2 hk12 (fun _ _ e => e) (fun k _ e => by have := HJ1.out.2.2; rcases e with e | e; rw [e]; omega; omega)⟩
              clear hB12 hR12 hO12 hK12 hk12 D12
              go_wp2_with fail
              go_roundg (gk - 1)
              case measure => have := HJ1.out; omega
              case rel => exact ⟨j1, _, rfl, by have := HJ1.out; omega, by have := HJ1.out; omega, hid ⟨H12.out.1, HFL.out, H12.out.2⟩⟩
          · have b2 : decide (j < M) = false := by simp; omega
            have hjE : j = M := by omega
            subst hjE
            go_wp2_with fail
            go_ret
            have hE : fl = craFl cs 0 S s0.fl := by
              have h9 := HJ.out.2.1
              rw [List.drop_eq_nil_of_le (by have := HR9.out; omega)] at h9
              exact h9
            have hD := HJ.out.1
            rw [hE] at hD
            refine ⟨fun k e => (by cases e), fun s' e => ?_⟩
            cases e
            rw [HE.out]
            refine ⟨rfl, ρ1, b, sb, .slice none 0 0, ?_, HRH.out, ?_⟩
            · have h8 : craS s0 cs = { cr0S s0 cs with fl := craFl cs 0 S s0.fl } := by rw [HR9.out.2.2.2.2]; rfl
              rw [h8]
              exact hD
            · refine Kept.trans HK8.out (Kept.trans HR9.out.2.1 HJ.out.2.2 (H := fun k => ρ1 k ≠ 0) (fun _ _ f => f.elim) (fun _ _ e => e)) (fun _ _ e => e) (fun k hk e => ?_)
              rcases HRH.out k with h7 | h7 | h7
              · exact absurd h7 e
              · rw [← h7]; exact e
              · omega

end

end Go.Proofs.Ytjcobogajkfnmaa
