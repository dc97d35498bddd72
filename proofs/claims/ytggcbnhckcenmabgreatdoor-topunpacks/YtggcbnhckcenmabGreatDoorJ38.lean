/-
  Of the proof: parts TpB, TpN, TpUnpLaw.
-/
import Derived.Test.YtggcbnhckcenmabGreatDoorJ36
import Derived.Test.YtggcbnhckcenmabGreatDoorJ23
import Derived.Test.YtggcbnhckcenmabGreatDoorJ33

namespace Go.Proofs.YtggcbnhckcenmabGreatDoor
open Go.RowKit

theorem Row.lenCap8 {w : World} {a : Option Addr} {n c : Nat} {bs : List Nat} (h : Row w (.slice a n c) bs) : n ≤ c := by
 rcases h.2 with ⟨e, _⟩ | ⟨g, cp, cu, e, _, _, h1, _⟩
 ·simp only [Value.slice.injEq] at e; omega
 ·simp only [Value.slice.injEq] at e; omega

set_option maxRecDepth 100000 in
set_option maxHeartbeats 1000000 in
theorem tunpacked_any (W : World) (I : Nat → Prop) (a2 sa : Option Addr) (L c2 sl sc M : Nat) (y data : List Nat) (sz : List Int) (hr : Src W I (.slice a2 L c2) y) (hcap : L ≤ c2) (hnilb : ∀ n c, Value.slice a2 L c2 = .slice none n c → n = 0 ∧ c = 0) (hly : L = y.length) (hyb : ∀ b ∈ y, b < 256) (hss : SrcE intV W (fun j => j < W.heap.size) (.slice sa sl sc) sz) (hls : sz.length = sl) (hL : L ≤ 100000) (hsl : sl ≤ 1000000) (hM : M ≤ 16384) (t0 : Ps) (he : Ends (ofBytes y) M ps0 t0 0) (ho : t0.out = data) (hc : (t0.c + 7) / 8 = y.length) (hT : Tab W) :
  Calls Tryz.prog 13 #[.slice a2 L c2, .slice sa sl sc, .int .i64 (M : Nat)] W fun e w' => ∃ v, e = .returned (.tuple #[v, .bool true]) ∧ Row w' v data ∧ Same W w' := by
 have HNW := pnewS_good W M hM
 have HT : Hid (Tab W) := hT
 have HRY : Hid (Src W I (.slice a2 L c2) y) := hr
 have HNB : Hid (∀ n c, Value.slice a2 L c2 = .slice none n c → n = 0 ∧ c = 0) := hnilb
 have HLY : Hid (L = y.length) := hly
 have HYB : Hid (∀ b ∈ y, b < 256) := hyb
 have HSZ : Hid (SrcE intV W (fun j => j < W.heap.size) (.slice sa sl sc) sz ∧ sz.length = sl) := hid ⟨hss, hls⟩
 have HE0 : Hid (Ends (ofBytes y) M ps0 t0 0 ∧ t0.out = data ∧ (t0.c + 7) / 8 = y.length) := hid ⟨he, ho, hc⟩
 clear hr hnilb hly hyb hss hls he ho hc hT
 go_enter Tryz.func13, Tryz.ntmps13
 go_wp2_with fail
 refine HNW.mono ?_
 rintro x w3 ⟨rfl, hsm3, hk3⟩
 have HK3 : Hid (Same W w3) := hk3
 obtain ⟨N, hNN⟩ : ∃ N, N = W.heap.size := ⟨_, rfl⟩
 obtain ⟨F0, hst0⟩ := StI.new W w3 M hM hsm3 HT.out hk3
 rw [← hNN] at hst0 ⊢
 have HON : Hid (0 < N ∧ N = W.heap.size) := hid ⟨by have := HT.out.lt; omega, hNN⟩
 have HT0 : Hid (Told N w3 N M (y.take 0) [] (.slice none 0 0) ps0 55 F0) := hid ⟨by rw [List.take_zero]; exact hst0, World.ownsRow_nil w3 0 5 1, fun _ => rfl, Nat.zero_le _, fun k e => by cases e⟩
 clear hsm3 hk3 hst0 hNN HNW
 go_wp2_with fail
 go_loopg [10, 11, 12] (sl + 1) (fun qq z10 z11 z12 wr => ∃ (i at' : Nat) (all : List Nat) (t : Ps) (er' : Nat) (F : Nat → Prop), z11 = .int .i64 (at' : Nat) ∧ z12 = .int .i64 (i : Nat) ∧ i ≤ sl + 1 ∧ sl + 1 - i ≤ qq ∧ at' ≤ L ∧ (i = sl + 1 → at' = L) ∧ Hid (Told N wr N M (y.take at') all z10 t er' F) ∧ Hid (Same W wr))
 case atStart => exact ⟨0, 0, [], ps0, 55, F0, rfl, rfl, by omega, by omega, by omega, fun h9 => by omega, HT0, HK3⟩
 case round =>
  clear HT0 HK3
  obtain ⟨i, at', all, t, er', F, rfl, rfl, hi1, hiq, hat, hend, HTO, HKi⟩ := hrel
  obtain ⟨va, hva⟩ : ∃ va, va = u10 := ⟨_, rfl⟩
  rw [← hva] at HTO ⊢
  clear hva
  by_cases hi : i ≤ sl
  ·have y1 : decide ((i : Int) ≤ (sl : Int)) = true := by simp; omega
   have HIL : Hid (i ≤ sl) := hi
   have HRYr : Hid (Src wr I (.slice a2 L c2) y) := hid (HRY.out.kept HKi.out (fun _ _ _ f => f))
   obtain ⟨d, hd⟩ : ∃ d, d = L - at' := ⟨_, rfl⟩
   have hdI : (L : Int) - (at' : Int) = (d : Int) := by omega
   have hdw : IntKind.i64.wrap (d : Int) = (d : Int) := by rw [IntKind.wrap_i64]; omega
   have HD : Hid (d = L - at') := hd
   have HPT := tpart_any wr d i _ sa sl sc sz (HSZ.out.1.same HKi.out) HSZ.out.2 (by omega)
   clear hd hi
   go_wp2_with fail
   refine HPT.mono ?_
   rintro x w4 ⟨n, rfl, hn, hlast, hk4⟩
   obtain ⟨e1, he1⟩ : ∃ e1, e1 = at' + n := ⟨_, rfl⟩
   have heI : (at' : Int) + (n : Int) = (e1 : Int) := by omega
   have hew : IntKind.i64.wrap (e1 : Int) = (e1 : Int) := by rw [IntKind.wrap_i64]; have := HD.out; omega
   have HE1 : Hid (at' ≤ e1 ∧ e1 ≤ y.length ∧ e1 ≤ L ∧ (i + 1 = sl + 1 → e1 = L)) := hid ⟨by omega, by have := HLY.out; have := HD.out; omega, by have := HD.out; omega, fun h9 => by have := hlast (by omega); have := HD.out; omega⟩
   have i1 : (0 : Int) ≤ (at' : Int) := by omega
   have i2 : (at' : Int) ≤ (e1 : Int) := by omega
   have i3 : (e1 : Int) ≤ (c2 : Int) := by have := HE1.out.2.2.1; omega
   have i4 : (at' : Int) ≤ (c2 : Int) := by omega
   have HTO4 : Hid (Told N w4 N M (y.take at') all va t er' F) := hid (HTO.out.kept hk4)
   have HK4 : Hid (Same W w4) := hid (Same.trans HKi.out hk4)
   have HRY4 : Hid (Src w4 I (.slice a2 L c2) y) := hid (HRYr.out.kept hk4 (fun _ _ _ f => f))
   have HFD : Hid (∀ (a' : Option Addr) (c' : Nat), (at' < e1 → ∃ b o, a2 = some ⟨b, o, none⟩ ∧ a' = some ⟨b, o + at', none⟩) → (∀ n c, Value.slice a' (e1 - at') c' = .slice none n c → n = 0 ∧ c = 0) → Calls Tryz.prog 20 #[.pointer (some ⟨N, 0, none⟩), .slice a' (e1 - at') c'] w4 fun x w' => ∃ u t' er2 F', FedA N w4 w' N M (y.take at' ++ (y.drop at').take (e1 - at')) t F x u t' er2 F') := hid (fun a' c' ha hnil => stI_feed w4 N M (y.take at') t er' F HTO4.out.st _ _ _ (Src.part HRY4.out HE1.out.1 HE1.out.2.1 ha) (fun b hb => HYB.out b (List.mem_of_mem_drop (List.mem_of_mem_take hb))) hnil (by rw [List.length_take, List.length_take, List.length_drop]; have := HLY.out; omega) HON.out.1)
   have HAD : Hid (at' < e1 → ∃ b o, a2 = some ⟨b, o, none⟩) := hid (fun h8 => by
    obtain ⟨ao, co, e9, h9⟩ := HRY4.out
    simp only [Value.slice.injEq] at e9
    obtain ⟨b, o, h1, _⟩ := h9 (fun e => by have := HE1.out.2.1; rw [e] at this; simp at this; omega)
    exact ⟨b, o, by rw [e9.1]; exact h1⟩)
   have HENDS : Hid (∀ (P rest : List Nat) (t4 : Ps) (er4 : Nat), P ++ rest = y → Ends (ofBytes P) M ps0 t4 er4 → er4 = 0 ∨ er4 = 55) := hid (fun P rest t4 er4 hP he => by
    by_cases h55 : er4 = 55
    ·exact .inr h55
    ·have h1 := ends_behind rest he h55
     rw [hP] at h1
     exact .inl (h1.det HE0.out.1).2)
   clear he1 hn hlast hk4 HPT HTO HKi HRYr
   go_wp2_with fail
   all_goals
    try
     have hcc := h.symm
     subst hcc
    refine (HFD.out _ _ ?_ ?_).mono ?_
    ·intro h9
     first
      | (exfalso; omega)
      | (obtain ⟨b9, o9, hab⟩ := HAD.out h9; exact ⟨b9, o9, hab, by rw [hab]; simp [addAt]⟩)
    ·intro n c e9
     first
      | (simp only [Value.slice.injEq] at e9; omega)
      | (cases a2 with
       | none => have := HNB.out _ _ rfl; omega
       | some x9 => simp at e9)
    rintro x w5 ⟨u, t4, er4, F4, hf4⟩
    have her := HENDS.out _ (y.drop e1) t4 er4 (by rw [take_part y at' e1 HE1.out.1, List.take_append_drop]) hf4.st.ends
    have hx := hf4.ret
    rw [show (if er4 = 55 then 0 else er4) = 0 by rcases her with h9 | h9 <;> simp [h9]] at hx
    subst hx
    obtain ⟨p4, hp4⟩ : ∃ p : List Nat, (if er4 = 0 ∨ er4 = 55 then t4.out.drop t.out.length else []) = p := ⟨_, rfl⟩
    have hr4 := hf4.row
    rw [hp4] at hr4
    obtain ⟨au, cu, hu, _⟩ := hr4.shape
    obtain ⟨nu, hnu⟩ : ∃ n, n = p4.length := ⟨_, rfl⟩
    rw [← hnu] at hu
    subst hu
    have HFA : Hid (∃ x, FedA N w4 w5 N M (y.take at' ++ (y.drop at').take (e1 - at')) t F x (.slice au nu cu) t4 er4 F4) := hid ⟨_, hf4⟩
    have HSU : Hid (Src w5 (fun k => (Value.slice au nu cu).ownBlock = some k) (.slice au nu cu) p4) := hid (Src.ofRow hr4)
    have HNU : Hid (∀ n c, Value.slice au nu cu = .slice none n c → n = 0 ∧ c = 0) := hid hr4.nil5
    have HVA4 : Hid (Row w5 va all) := hid (HTO4.out.row.kept hf4.kept (fun k e f9 => (HTO4.out.own k e).2 f9))
    have HP4 : Hid ((if er4 = 0 ∨ er4 = 55 then t4.out.drop t.out.length else []) = p4) := hp4
    have hpl : p4.length ≤ 16384 := by
     have h8 := (ends_in hf4.st.ends).2
     rw [← hp4, if_pos her, List.length_drop]
     omega
    have HLA : Hid (all.length + p4.length ≤ 1000000000000) := hid (by have := HTO4.out.ol; omega)
    have HK5 : Hid (Same W w5) := hid (Same.then HK4.out hf4.kept (fun k hk9 f9 => by have := HTO4.out.st.from' k f9; have := HON.out.2; omega))
    clear hf4 hr4 hp4 hpl hnu her
    go_wp2_with (at_builtin; refine wpList_append_any _ rfl (.tmp 53) (.tmp 54) rfl va all rfl HVA4.out _ (.slice au nu cu) p4 rfl HNU.out HSU.out HLA.out ?_)
    intro v6 w6 hr6 hg6 ho6
    have HTO6 : Hid (Told N w6 N M (y.take e1) (all ++ p4) v6 t4 er4 F4) := hid (by
     obtain ⟨x9, hfa⟩ := HFA.out
     have h9 := HTO4.out.fed hfa (w2 := w6) (v' := v6) (by rw [HP4.out]; exact hr6) hg6 ho6 (hfa.back HTO4.out.st) HON.out.1
     rw [HP4.out, take_part y at' e1 HE1.out.1] at h9
     exact h9)
    have HK6 : Hid (Same W w6) := hid (Same.then HK5.out ((Kept.refl (fun k => va.ownBlock = some k) w5).grown hg6 (fun k e => .inl e)) (fun k hk9 f9 => by have := (HTO4.out.own k f9).1; have := HON.out.2; omega))
    clear hr6 hg6 ho6
    go_wp2_with fail
    go_roundg (gk - 1)
    case measure => have := HIL.out; omega
    case rel => exact ⟨i + 1, e1, all ++ p4, t4, er4, F4, rfl, by go_num, by have := HIL.out; omega, by have := HIL.out; omega, HE1.out.2.2.1, HE1.out.2.2.2, HTO6, HK6⟩
  ·obtain rfl : i = sl + 1 := by omega
   have hatl : at' = L := hend rfl
   subst hatl
   have y1 : decide ((((sl + 1 : Nat) : Int)) ≤ (sl : Int)) = false := by simp; omega
   have y2 : decide (sl + 1 ≤ sl) = false := by simp
   have hbt : y.take at' = y := List.take_of_length_le (by rw [← HLY.out]; exact Nat.le_refl _)
   rw [hbt] at HTO
   obtain ⟨ht0, hee⟩ := HTO.out.st.ends.det HE0.out.1
   subst ht0 hee
   have hall : all = data := by rw [HTO.out.tell (.inl rfl)]; exact HE0.out.2.1
   subst hall
   obtain ⟨vd, hsd, hrd⟩ := HTO.out.st.isDone rfl
   rw [HE0.out.2.2, List.drop_eq_nil_of_le (Nat.le_refl _)] at hrd
   have HD1 : Hid (∀ W2, Same wr W2 → Sm W2 N 0 (.slice none 0 0) (.pointer none) vd 0 0 ∧ Row W2 vd []) := hid (fun W2 hk => ⟨hsd.kept hk (fun f => f), hrd.kept hk (fun _ _ f => f)⟩)
   have HDN := pdone_any wr N 0 (.slice none 0 0) (.pointer none) vd 0 0 hsd
   simp only [show ((0 : Nat) == 0) = true from by decide] at HDN
   have HRA : Hid (Row wr va all) := hid HTO.out.row
   obtain ⟨aa, ca, hva, _⟩ := HTO.out.row.shape
   obtain ⟨na, hna⟩ : ∃ n, n = all.length := ⟨_, rfl⟩
   rw [← hna] at hva
   subst hva
   clear hend hi hbt hna hsd hrd
   go_wp2_with fail
   refine HDN.mono ?_
   rintro x w5 ⟨rfl, m5, hw5⟩
   have hk5 : Same wr w5 := by rw [hw5]; exact (Kept.refl _ wr).drewN m5
   have HK5 : Hid (Same wr w5) := hk5
   have HRS := prest_any w5 N 0 (.slice none 0 0) (.pointer none) vd 0 [] (HD1.out w5 hk5).1 (HD1.out w5 hk5).2 (by decide)
   clear hk5 hw5 HDN
   go_wp2_with fail
   refine HRS.mono ?_
   rintro x w6 ⟨v6, rfl, hf6⟩
   have HK6 : Hid (Same wr w6) := hid (Same.trans HK5.out hf6.kept)
   have HCL := pclose_any w6 N 0 (.slice none 0 0) (.pointer none) vd 0 0 (HD1.out w6 HK6.out).1
   obtain ⟨a6, c6, hv6, _⟩ := hf6.row.shape
   simp only [List.length_nil] at hv6
   subst hv6
   clear hf6 HRS
   go_wp2_with fail
   refine HCL.mono ?_
   rintro x w7 ⟨rfl, hw7⟩
   subst hw7
   clear HCL
   go_wp2_with fail
   go_ret2
   exact ⟨_, rfl, HRA.out.kept HK6.out (fun _ _ f => f), Same.trans HKi.out HK6.out⟩

end Go.Proofs.YtggcbnhckcenmabGreatDoor

namespace Go.Proofs.YtggcbnhckcenmabGreatDoor

theorem stepP_byte {ls : List Nat} (hb : ∀ b ∈ ls, b < 2) {bk bk' : Bk} {c c' v : Nat} (h : stepP ls bk c = .ok ((.byte v, bk'), c')) : v < 256 := by
 cases bk with
 | raw last n =>
  cases n with
  | zero => rw [stepP_zero] at h; simp at h
  | succ n =>
   rw [stepP_raw] at h
   obtain ⟨x, c1, h1, h2⟩ := bindP_ok.1 h
   simp only [Except.ok.injEq, Prod.mk.injEq, Tok.byte.injEq] at h2
   obtain ⟨⟨rfl, _⟩, _⟩ := h2
   rw [(tkP_ok h1).1]
   exact numAt_bit ls hb c 8
 | sym last lit dist =>
  rw [stepP_sym] at h
  obtain ⟨y, c1, _, h2⟩ := bindP_ok.1 h
  unfold symP at h2
  split at h2
  ·simp only [Except.ok.injEq, Prod.mk.injEq, Tok.byte.injEq] at h2
   omega
  ·split at h2
   ·simp at h2
   ·obtain ⟨z, c2, _, h3⟩ := bindP_ok.1 h2
    simp at h3

theorem stP_byte {ls : List Nat} (hb : ∀ b ∈ ls, b < 2) {most : Nat} {s t : Ps} {d : Bool} (h : stP ls most s = .ok (t, d)) (hs : ∀ b ∈ s.out, b < 256) : ∀ b ∈ t.out, b < 256 := by
 cases hk : s.bk with
 | none =>
  cases hg : begP ls s.c with
  | error e => rw [stP_none_err hk hg] at h; cases h
  | ok x =>
   obtain ⟨b, c⟩ := x
   rw [stP_none_ok hk hg] at h
   simp only [Except.ok.injEq, Prod.mk.injEq] at h
   rw [← h.1]
   exact hs
 | some b =>
  cases hg : stepP ls b s.c with
  | error e => rw [stP_some_err hk hg] at h; cases h
  | ok x =>
   rw [stP_some_ok hk hg] at h
   obtain ⟨⟨tk, b'⟩, c⟩ := x
   rcases goP_cases h with ⟨_, _, h1⟩ | ⟨_, _, h1⟩ | ⟨ht, ⟨e, _, h1⟩ | ⟨out, hl, h1⟩⟩
   ·simp only [Except.ok.injEq, Prod.mk.injEq] at h1
    rw [h1.1]; exact hs
   ·simp only [Except.ok.injEq, Prod.mk.injEq] at h1
    rw [h1.1]; exact hs
   ·cases h1
   ·simp only [Except.ok.injEq, Prod.mk.injEq] at h1
    rw [h1.1]
    cases tk with
    | fin => exact absurd rfl ht
    | byte v =>
     simp only [layP] at hl
     split at hl
     ·cases hl
     ·simp only [Except.ok.injEq] at hl
      subst hl
      intro b hb'
      rcases List.mem_append.1 hb' with h9 | h9
      ·exact hs b h9
      ·simp only [List.mem_singleton] at h9
       subst h9
       exact stepP_byte hb hg
    | copy n far =>
     simp only [layP] at hl
     split at hl
     ·cases hl
     ·split at hl
      ·cases hl
      ·simp only [Except.ok.injEq] at hl
       subst hl
       exact cpL_bytes far n s.out hs

theorem Ends.byte {ls : List Nat} (hb : ∀ b ∈ ls, b < 2) {most : Nat} {s t : Ps} {e : Nat} (h : Ends ls most s t e) (hs : ∀ b ∈ s.out, b < 256) : ∀ b ∈ t.out, b < 256 := by
 induction h with
 | stop _ => exact hs
 | done h => exact stP_byte hb h hs
 | step h _ ih => exact ih (stP_byte hb h hs)

theorem ends_byte {x : List Nat} {most : Nat} {t : Ps} {e : Nat} (h : Ends (ofBytes x) most ps0 t e) : ∀ b ∈ t.out, b < 256 :=
 h.byte (ofBytes_lt x) (fun _ hb => nomatch hb)

end Go.Proofs.YtggcbnhckcenmabGreatDoor

namespace Go.Proofs.YtggcbnhckcenmabGreatDoor
open Go.RowKit

def lst7 (er : Nat) : Nat := if er = 55 then 0 else er

set_option maxRecDepth 100000 in
set_option maxHeartbeats 1000000 in
theorem tunpacks_good (W : World) (a sa : Option Addr) (L cap sl sc M : Nat) (bs : List Nat) (sz : List Int) (hs : Src W (fun j => j < W.heap.size) (.slice a L cap) bs) (hl : bs.length = L) (hb : ∀ x ∈ bs, x < 256) (hn : ∀ n c, Value.slice a L cap = .slice none n c → n = 0 ∧ c = 0) (hcap : L ≤ cap) (hss : SrcE intV W (fun j => j < W.heap.size) (.slice sa sl sc) sz) (hls : sz.length = sl) (hlen : L ≤ 1048576) (hsl : sl ≤ 200) (hM : M ≤ 16384) (hT : Tab W) :
  Calls Tryz.prog 5 #[.slice a L cap, .int .i64 (M : Nat), .slice sa sl sc] W fun e w' => e = .returned (.bool true) ∧ Same W w' := by
 have b1 : decide ((1048576 : Int) < (L : Int)) = false := by simp; omega
 have b2 : decide ((200 : Int) < (sl : Int)) = false := by simp; omega
 have b3 : decide ((M : Int) < 0) = false := by simp
 have b4 : decide ((16384 : Int) < (M : Int)) = false := by simp; omega
 have HT : Hid (Tab W) := hT
 have HS : Hid (Src W (fun j => j < W.heap.size) (.slice a L cap) bs) := hs
 have HSZ : Hid (SrcE intV W (fun j => j < W.heap.size) (.slice sa sl sc) sz ∧ sz.length = sl) := hid ⟨hss, hls⟩
 have HL : Hid (bs.length = L) := hl
 have HB : Hid (∀ x ∈ bs, x < 256) := hb
 have HNB : Hid (∀ n c, Value.slice a L cap = .slice none n c → n = 0 ∧ c = 0) := hn
 have HI := pinfl_any W (.slice a L cap) _ bs M hs hb hn (by omega) hM hT
 have HPK : Hid (∀ w, Same W w → Calls Tryz.prog 6 #[] w fun x w' => x = .returned (.bool true) ∧ Same w w') := hid (fun w hw => tpacks_any w (hT.kept hw (fun f => f)))
 clear hs hss hl hls hb hn hT
 go_enter Tryz.func5, Tryz.ntmps5
 go_wp2_with fail
 refine HI.mono ?_
 intro x w1 hi
 have hall : ∃ (t0 : Ps) (e0 : Nat) (v1 : Value) (out : List Nat) (n : Nat), Ends (ofBytes bs) M ps0 t0 e0 ∧ x = .returned (.tuple #[v1, .int .i64 (n : Nat), .int .i64 (e0 : Nat)]) ∧ Row w1 v1 out ∧ Same W w1 ∧ n ≤ L ∧ out.length ≤ M ∧ (e0 = 0 → out = t0.out ∧ n = (t0.c + 7) / 8) ∧ (e0 ≠ 0 → out = []) := by
  cases hi with
  | done t v' he hx hr hv hk hw =>
   have h9 := ends_in he
   exact ⟨t, 0, v', t.out, (t.c + 7) / 8, he, hx, hr, hk, by rw [HL.out] at h9; omega, h9.2, fun _ => ⟨rfl, rfl⟩, fun h => absurd rfl h⟩
  | fail t er he h0 hx hk => exact ⟨t, er, .slice none 0 0, [], 0, he, hx, nil_row7 _, hk, Nat.zero_le _, Nat.zero_le _, fun h => absurd h h0, fun _ => rfl⟩
 obtain ⟨t0, e0, v1, out, n, he0, rfl, hr1, hk1, hnL, hoM, hz0, hz1⟩ := hall
 have HE0 : Hid (Ends (ofBytes bs) M ps0 t0 e0 ∧ (e0 = 0 → out = t0.out ∧ n = (t0.c + 7) / 8) ∧ (e0 ≠ 0 → out = [])) := hid ⟨he0, hz0, hz1⟩
 have HK1 : Hid (Same W w1) := hk1
 have HR1 : Hid (Row w1 v1 out) := hr1
 obtain ⟨a1, c1, hv1, _⟩ := hr1.shape
 obtain ⟨no, hno⟩ : ∃ n, n = out.length := ⟨_, rfl⟩
 rw [← hno] at hv1 hoM
 subst hv1
 have HNO : Hid (no = out.length) := hno
 have HNW := pnewS_good w1 M hM
 clear hi he0 hr1 hk1 hz0 hz1 hno HI
 go_wp2_with fail
 refine HNW.mono ?_
 rintro x w3 ⟨rfl, hsm3, hk3⟩
 have HK3 : Hid (Same w1 w3) := hk3
 obtain ⟨N, hNN⟩ : ∃ N, N = w1.heap.size := ⟨_, rfl⟩
 obtain ⟨F0, hst0⟩ := StI.new w1 w3 M hM hsm3 (HT.out.kept HK1.out (fun f => f)) hk3
 rw [← hNN] at hst0 ⊢
 have HON : Hid (0 < N ∧ N = w1.heap.size) := hid ⟨by have := HT.out.lt; have := HK1.out.size; omega, hNN⟩
 have HT0 : Hid (Told N w3 N M (bs.take 0) [] (.slice none 0 0) ps0 55 F0) := hid ⟨by rw [List.take_zero]; exact hst0, World.ownsRow_nil w3 0 5 1, fun _ => rfl, Nat.zero_le _, fun k e => by cases e⟩
 have bo : decide (M < no) = false := by simp; omega
 have bl : decide (L < n) = false := by simp; omega
 clear hsm3 hk3 hst0 hNN HNW
 go_wp2_with fail
 go_loopg [12, 13, 14, 15] (sl + 1) (fun qq z12 z13 z14 z15 wr => ∃ (i at' : Nat) (all : List Nat) (t : Ps) (er' : Nat) (F : Nat → Prop), z13 = .int .i64 (at' : Nat) ∧ z14 = .int .i64 (lst7 er' : Nat) ∧ z15 = .int .i64 (i : Nat) ∧ i ≤ sl + 1 ∧ sl + 1 - i ≤ qq ∧ at' ≤ L ∧ (i = sl + 1 → at' = L) ∧ Hid (Told N wr N M (bs.take at') all z12 t er' F) ∧ Hid (Same w1 wr))
 case atStart => exact ⟨0, 0, [], ps0, 55, F0, rfl, rfl, rfl, by omega, by omega, by omega, fun h9 => by omega, HT0, HK3⟩
 case round =>
  clear HT0 HK3
  obtain ⟨i, at', all, t, er', F, rfl, rfl, rfl, hi1, hiq, hat, hend, HTO, HKi⟩ := hrel
  obtain ⟨va, hva⟩ : ∃ va, va = u12 := ⟨_, rfl⟩
  rw [← hva] at HTO ⊢
  clear hva
  have HKW : Hid (Same W wr) := hid (Same.trans HK1.out HKi.out)
  obtain ⟨la, hla⟩ : ∃ la, la = lst7 er' := ⟨_, rfl⟩
  rw [← hla]
  have HLA : Hid (la = lst7 er') := hla
  clear hla
  by_cases hgo : i ≤ sl ∧ la = 0
  ·obtain ⟨hi, hla0⟩ := hgo
   have y1' : decide ((i : Int) ≤ (sl : Int)) = true := by simp; omega
   have y2' : decide (i ≤ sl) = true := by simp; omega
   have HIL : Hid (i ≤ sl) := hi
   have HER : Hid (er' = 0 ∨ er' = 55) := hid (by have := HLA.out; unfold lst7 at this; split at this <;> omega)
   subst hla0
   obtain ⟨d, hd⟩ : ∃ d, d = L - at' := ⟨_, rfl⟩
   have hdI : (L : Int) - (at' : Int) = (d : Int) := by omega
   have hdw : IntKind.i64.wrap (d : Int) = (d : Int) := by rw [IntKind.wrap_i64]; omega
   have HD : Hid (d = L - at') := hd
   have HPT := tpart_any wr d i _ sa sl sc sz (HSZ.out.1.same HKW.out) HSZ.out.2 (by omega)
   clear hd hi
   go_wp2_with fail
   refine HPT.mono ?_
   rintro x w4 ⟨m, rfl, hm, hlast, hk4⟩
   obtain ⟨e1, he1⟩ : ∃ e1, e1 = at' + m := ⟨_, rfl⟩
   have heI : (at' : Int) + (m : Int) = (e1 : Int) := by omega
   have hew : IntKind.i64.wrap (e1 : Int) = (e1 : Int) := by rw [IntKind.wrap_i64]; have := HD.out; omega
   have HE1 : Hid (at' ≤ e1 ∧ e1 ≤ bs.length ∧ e1 ≤ L ∧ (i + 1 = sl + 1 → e1 = L)) := hid ⟨by omega, by have := HL.out; have := HD.out; omega, by have := HD.out; omega, fun h9 => by have := hlast (by omega); have := HD.out; omega⟩
   have i1 : (0 : Int) ≤ (at' : Int) := by omega
   have i2 : (at' : Int) ≤ (e1 : Int) := by omega
   have i3 : (e1 : Int) ≤ (cap : Int) := by have := HE1.out.2.2.1; omega
   have i4 : (at' : Int) ≤ (cap : Int) := by omega
   have HTO4 : Hid (Told N w4 N M (bs.take at') all va t er' F) := hid (HTO.out.kept hk4)
   have HK4 : Hid (Same w1 w4) := hid (Same.trans HKi.out hk4)
   have HS4 : Hid (Src w4 (fun j => j < W.heap.size) (.slice a L cap) bs) := hid (HS.out.kept (Same.trans HKW.out hk4) (fun _ _ _ f => f))
   have HFD : Hid (∀ (a' : Option Addr) (c' : Nat), (at' < e1 → ∃ b o, a = some ⟨b, o, none⟩ ∧ a' = some ⟨b, o + at', none⟩) → (∀ n c, Value.slice a' (e1 - at') c' = .slice none n c → n = 0 ∧ c = 0) → Calls Tryz.prog 20 #[.pointer (some ⟨N, 0, none⟩), .slice a' (e1 - at') c'] w4 fun x w' => ∃ u t' er2 F', FedA N w4 w' N M (bs.take at' ++ (bs.drop at').take (e1 - at')) t F x u t' er2 F') := hid (fun a' c' ha hnil => stI_feed w4 N M (bs.take at') t er' F HTO4.out.st _ _ _ (Src.part HS4.out HE1.out.1 HE1.out.2.1 ha) (fun b hb => HB.out b (List.mem_of_mem_drop (List.mem_of_mem_take hb))) hnil (by rw [List.length_take, List.length_take, List.length_drop]; have := HL.out; omega) HON.out.1)
   have HAD : Hid (at' < e1 → ∃ b o, a = some ⟨b, o, none⟩) := hid (fun h8 => by
    obtain ⟨ao, co, e9, h9⟩ := HS4.out
    simp only [Value.slice.injEq] at e9
    obtain ⟨b, o, h1, _⟩ := h9 (fun e => by have := HE1.out.2.1; rw [e] at this; simp at this; omega)
    exact ⟨b, o, by rw [e9.1]; exact h1⟩)
   clear he1 hm hlast hk4 HPT HTO HKi HKW
   go_wp2_with fail
   all_goals
    try
     have hcc := h.symm
     subst hcc
    refine (HFD.out _ _ ?_ ?_).mono ?_
    ·intro h9
     first
      | (exfalso; omega)
      | (obtain ⟨b9, o9, hab⟩ := HAD.out h9; exact ⟨b9, o9, hab, by rw [hab]; simp [addAt]⟩)
    ·intro n c e9
     first
      | (simp only [Value.slice.injEq] at e9; omega)
      | (cases a with
       | none => have := HNB.out _ _ rfl; omega
       | some x9 => simp at e9)
    rintro x w5 ⟨u, t4, er4, F4, hf4⟩
    have hx := hf4.ret
    obtain ⟨l4, hl4⟩ : ∃ l, l = lst7 er4 := ⟨_, rfl⟩
    rw [show (if er4 = 55 then 0 else er4) = l4 by rw [hl4]; rfl] at hx
    subst hx
    have HL4 : Hid (l4 = lst7 er4) := hl4
    obtain ⟨p4, hp4⟩ : ∃ p : List Nat, (if er4 = 0 ∨ er4 = 55 then t4.out.drop t.out.length else []) = p := ⟨_, rfl⟩
    have hr4 := hf4.row
    rw [hp4] at hr4
    obtain ⟨au, cu, hu, _⟩ := hr4.shape
    obtain ⟨nu, hnu⟩ : ∃ n, n = p4.length := ⟨_, rfl⟩
    rw [← hnu] at hu
    subst hu
    have HFA : Hid (∃ x, FedA N w4 w5 N M (bs.take at' ++ (bs.drop at').take (e1 - at')) t F x (.slice au nu cu) t4 er4 F4) := hid ⟨_, hf4⟩
    have HSU : Hid (Src w5 (fun k => (Value.slice au nu cu).ownBlock = some k) (.slice au nu cu) p4) := hid (Src.ofRow hr4)
    have HNU : Hid (∀ n c, Value.slice au nu cu = .slice none n c → n = 0 ∧ c = 0) := hid hr4.nil5
    have HVA4 : Hid (Row w5 va all) := hid (HTO4.out.row.kept hf4.kept (fun k e f9 => (HTO4.out.own k e).2 f9))
    have HP4 : Hid ((if er4 = 0 ∨ er4 = 55 then t4.out.drop t.out.length else []) = p4) := hp4
    have hpl : p4.length ≤ 16384 := by
     have h8 := (ends_in hf4.st.ends).2
     rw [← hp4]
     split
     ·rw [List.length_drop]; omega
     ·simp
    have HLN : Hid (all.length + p4.length ≤ 1000000000000) := hid (by have := HTO4.out.ol; omega)
    have HK5 : Hid (Same w1 w5) := hid (Same.then HK4.out hf4.kept (fun k hk9 f9 => by have := HTO4.out.st.from' k f9; have := HON.out.2; omega))
    clear hf4 hr4 hp4 hpl hnu hl4
    go_wp2_with (at_builtin; refine wpList_append_any _ rfl (.tmp 100) (.tmp 101) rfl va all rfl HVA4.out _ (.slice au nu cu) p4 rfl HNU.out HSU.out HLN.out ?_)
    intro v6 w6 hr6 hg6 ho6
    have HTO6 : Hid (Told N w6 N M (bs.take e1) (all ++ p4) v6 t4 er4 F4) := hid (by
     obtain ⟨x9, hfa⟩ := HFA.out
     have h9 := HTO4.out.fed hfa (w2 := w6) (v' := v6) (by rw [HP4.out]; exact hr6) hg6 ho6 (hfa.back HTO4.out.st) HON.out.1
     rw [HP4.out, take_part bs at' e1 HE1.out.1] at h9
     exact h9)
    have HK6 : Hid (Same w1 w6) := hid (Same.then HK5.out ((Kept.refl (fun k => va.ownBlock = some k) w5).grown hg6 (fun k e => .inl e)) (fun k hk9 f9 => by have := (HTO4.out.own k f9).1; have := HON.out.2; omega))
    clear hr6 hg6 ho6
    go_wp2_with fail
    go_roundg (gk - 1)
    case measure => have := HIL.out; omega
    case rel => exact ⟨i + 1, e1, all ++ p4, t4, er4, F4, rfl, by rw [HL4.out], by go_num, by have := HIL.out; omega, by have := HIL.out; omega, HE1.out.2.2.1, HE1.out.2.2.2, HTO6, HK6⟩
  ·have HEQ : Hid (er' = e0 ∧ t = t0 ∧ (e0 = 0 → bs.take at' = bs)) := hid (by
    by_cases h9 : i ≤ sl
    ·have hla : la ≠ 0 := fun e => hgo ⟨h9, e⟩
     have h8 := HLA.out
     unfold lst7 at h8
     have h55 : er' ≠ 55 := fun e => by rw [if_pos e] at h8; exact hla h8
     rw [if_neg h55] at h8
     have h7 := ends_behind (bs.drop at') HTO.out.st.ends h55
     rw [List.take_append_drop] at h7
     obtain ⟨h1, h2⟩ := h7.det HE0.out.1
     exact ⟨h2, h1, fun h0 => by omega⟩
    ·have hi' : i = sl + 1 := by omega
     have hbt : bs.take at' = bs := List.take_of_length_le (by rw [HL.out, hend hi']; exact Nat.le_refl _)
     have h7 := HTO.out.st.ends
     rw [hbt] at h7
     obtain ⟨h1, h2⟩ := h7.det HE0.out.1
     exact ⟨h2, h1, fun _ => hbt⟩)
   have hcase : (decide (i ≤ sl) = false) ∨ (decide (i ≤ sl) = true ∧ ((la : Int) == 0) = false) := by
    by_cases h9 : i ≤ sl
    ·have hla : la ≠ 0 := fun e => hgo ⟨h9, e⟩
     exact .inr ⟨by simp; exact h9, by simp; omega⟩
    ·exact .inl (by simp; omega)
   have hna := HTO.out.ol
   have HRA : Hid (Row wr va all) := hid HTO.out.row
   obtain ⟨aa, ca, hva, _⟩ := HTO.out.row.shape
   obtain ⟨na, hnal⟩ : ∃ n, n = all.length := ⟨_, rfl⟩
   rw [← hnal] at hva hna
   subst hva
   have HNA : Hid (na = all.length) := hnal
   have bM : decide (M < na) = false := by simp; omega
   obtain ⟨er2, het⟩ : ∃ e, e = er' := ⟨_, rfl⟩
   obtain ⟨he1, ht1, hbt⟩ := HEQ.out
   subst he1 ht1
   have HBT : Hid (er' = 0 → bs.take at' = bs) := hbt
   clear het hbt HEQ hnal hgo hi1 hiq hat hend
   by_cases h0 : er' = 0
   ·have hla0 : la = 0 := by have := HLA.out; rw [h0] at this; simpa [lst7] using this
    subst h0 hla0
    have hall : all = out := by rw [HTO.out.tell (.inl rfl), (HE0.out.2.1 rfl).1]
    have hnn : (t.c + 7) / 8 = n := ((HE0.out.2.1 rfl).2).symm
    have hd1 : decide (i ≤ sl) = false := by
     rcases hcase with h9 | ⟨_, h9⟩
     ·exact h9
     ·simp at h9
    subst hall
    have HOB : Hid (∀ b ∈ all, b < 256) := hid (by rw [(HE0.out.2.1 rfl).1]; exact ends_byte HE0.out.1)
    have hst := HTO.out.st
    rw [HBT.out rfl] at hst
    obtain ⟨vd, hsd, hrd⟩ := hst.isDone rfl
    rw [hnn] at hrd
    have HD1 : Hid (∀ W2, Same wr W2 → Sm W2 N 0 (.slice none 0 0) (.pointer none) vd 0 0 ∧ Row W2 vd (bs.drop n)) := hid (fun W2 hk => ⟨hsd.kept hk (fun f => f), hrd.kept hk (fun _ _ f => f)⟩)
    have HRS := prest_any wr N 0 (.slice none 0 0) (.pointer none) vd 0 (bs.drop n) hsd hrd (by rw [List.length_drop, HL.out]; omega)
    clear hst hsd hrd hcase hnn HTO HBT
    go_wp2_with fail
    refine HRS.mono ?_
    rintro x w5 ⟨v5, rfl, hf5⟩
    have HK5 : Hid (Same wr w5) := hid hf5.kept
    have HV5 : Hid (Row w5 v5 (bs.drop n)) := hid hf5.row
    obtain ⟨a5, c5, hv5, _⟩ := hf5.row.shape
    obtain ⟨n5, hn5⟩ : ∃ k, k = (bs.drop n).length := ⟨_, rfl⟩
    rw [← hn5] at hv5
    subst hv5
    have HKO : Hid (∀ w, Same wr w → Row w (.slice a1 no c1) all) := hid (fun w hw => HR1.out.kept (Same.trans HKi.out hw) (fun _ _ f => f))
    have HDF := deflate_any w5 (.slice a1 no c1) _ all (Src.ofRow (HKO.out w5 hf5.kept)) HOB.out (Row.nil5 HR1.out) (by rw [← HNO.out]; omega) (HT.out.kept (Same.trans HKW.out hf5.kept) (fun f => f))
    clear hf5 hn5 HRS
    go_wp2_with fail
    refine HDF.mono ?_
    rintro x w6 ⟨v6, y6, rfl, hn6, hp6⟩
    have HK6 : Hid (Same wr w6) := hid (Same.trans HK5.out hn6.same)
    obtain ⟨t6, het6, hto6, _⟩ := hp6.reads HOB.out (most := M) (by rw [← HNO.out]; exact hoM) hM
    have HE6 : Hid (Ends (ofBytes y6) M ps0 t6 0 ∧ t6.out = all) := hid ⟨het6, hto6⟩
    have hy6 := hp6.short.1
    rw [← HNO.out] at hy6
    have HI6 := fun (v : Value) (e : v6 = v) (hnil : ∀ n c, v = .slice none n c → n = 0 ∧ c = 0) => pinfl_any w6 v _ y6 M (e ▸ Src.ofRow hn6.row) hn6.byte hnil (by omega) hM (HT.out.kept (Same.trans HKW.out HK6.out) (fun f => f))
    have hrow6 := hn6.row
    have HV6 : Hid (Row w6 (.slice a5 n5 c5) (bs.drop n)) := hid (HV5.out.kept hn6.same (fun _ _ f => f))
    obtain ⟨a6, c6, hv6, _⟩ := hn6.row.shape
    obtain ⟨n6, hn6l⟩ : ∃ k, k = y6.length := ⟨_, rfl⟩
    rw [← hn6l] at hv6
    subst hv6
    have HI7 := HI6 _ rfl (Row.nil5 hrow6)
    clear hn6 hp6 hrow6 hn6l HI6 HDF het6 hto6 hy6 HV5 HK5
    go_wp2_with fail
    refine HI7.mono ?_
    rintro x w7 hi7
    obtain ⟨v7, rfl, hr7, _, hk7⟩ := hi7.is HE6.out.1
    rw [HE6.out.2] at hr7
    have HK7 : Hid (Same wr w7) := hid (Same.trans HK6.out hk7)
    have HR7 : Hid (Row w7 v7 all) := hr7
    have HV7 : Hid (Row w7 (.slice a5 n5 c5) (bs.drop n)) := hid (HV6.out.kept hk7 (fun _ _ f => f))
    obtain ⟨qc, hqc⟩ : ∃ q : Int, q = (((t6.c + 7) / 8 : Nat) : Int) := ⟨_, rfl⟩
    rw [← hqc]
    obtain ⟨a7, c7, hv7, _⟩ := hr7.shape
    rw [← HNO.out] at hv7
    subst hv7
    have HP7 := HPK.out w7 (Same.trans HKW.out HK7.out)
    clear hi7 hr7 hk7 HI7 HE6 HV6 HK6 hqc
    go_wp2_with fail
    refine HP7.mono ?_
    rintro x w8 ⟨rfl, hk8⟩
    have HK8 : Hid (Same wr w8) := hid (Same.trans HK7.out hk8)
    have HK78 : Hid (Same w7 w8) := hk8
    have HDN := pdone_any w8 N 0 (.slice none 0 0) (.pointer none) vd 0 0 (HD1.out w8 HK8.out).1
    simp only [show ((0 : Nat) == 0) = true from by decide] at HDN
    clear hk8 HP7 HK7
    go_wp2_with fail
    refine HDN.mono ?_
    rintro x w9 ⟨rfl, m9, hw9⟩
    have hk9 : Same w8 w9 := by rw [hw9]; exact (Kept.refl _ w8).drewN m9
    have HK9 : Hid (Same wr w9) := hid (Same.trans HK8.out hk9)
    have HK79 : Hid (Same w7 w9) := hid (Same.trans HK78.out hk9)
    have HB9 := keepBytes_same w9 (.slice aa na ca) (.slice a1 no c1) _ _ all (Src.ofRow (HRA.out.kept HK9.out (fun _ _ f => f))) (Src.ofRow (HKO.out w9 HK9.out)) (by rw [← HNO.out]; omega)
    clear hk9 hw9 HDN HK8 HK78
    go_wp2_with fail
    refine HB9.mono ?_
    rintro x w10 ⟨rfl, hk10⟩
    have HK10 : Hid (Same wr w10) := hid (Same.trans HK9.out hk10)
    have HK710 : Hid (Same w7 w10) := hid (Same.trans HK79.out hk10)
    have HSB : Hid (Src w10 (fun j => j < W.heap.size) (.slice a L cap) bs) := hid (HS.out.kept (Same.trans HKW.out HK10.out) (fun _ _ _ f => f))
    have HDL : Hid (((bs.drop n).take (L - n)) = bs.drop n) := hid (List.take_of_length_le (by rw [List.length_drop, HL.out]; exact Nat.le_refl _))
    have HBR : Hid (∀ (a' : Option Addr) (c' : Nat), (n < L → ∃ b o, a = some ⟨b, o, none⟩ ∧ a' = some ⟨b, o + n, none⟩) → Calls Tryz.prog 14 #[.slice a5 n5 c5, .slice a' (L - n) c'] w10 fun e w' => e = .returned (.bool true) ∧ Same w10 w') := hid (fun a' c' ha => by
     have h9 := Src.part (a' := a') (c' := c') HSB.out hnL (by rw [HL.out]; exact Nat.le_refl _) ha
     rw [HDL.out] at h9
     exact keepBytes_same w10 (.slice a5 n5 c5) _ _ _ (bs.drop n) (Src.ofRow (HV7.out.kept HK710.out (fun _ _ f => f))) h9 (by rw [List.length_drop, HL.out]; omega))
    have HAD : Hid (n < L → ∃ b o, a = some ⟨b, o, none⟩) := hid (fun h8 => by
     obtain ⟨ao, co, e9, h9⟩ := HSB.out
     simp only [Value.slice.injEq] at e9
     obtain ⟨b, o, h1, _⟩ := h9 (fun e => by have := HL.out; rw [e] at this; simp at this; omega)
     exact ⟨b, o, by rw [e9.1]; exact h1⟩)
    have j1 : (0 : Int) ≤ (n : Int) := by omega
    have j2 : (n : Int) ≤ (L : Int) := by omega
    have j3 : (n : Int) ≤ (cap : Int) := by omega
    have j4 : (L : Int) ≤ (cap : Int) := by omega
    have HB12 : Hid (∀ w, Same w10 w → Calls Tryz.prog 14 #[.slice a7 no c7, .slice a1 no c1] w fun e w' => e = .returned (.bool true) ∧ Same w w') := hid (fun w hw => keepBytes_same w (.slice a7 no c7) (.slice a1 no c1) _ _ all (Src.ofRow (HR7.out.kept (Same.trans HK710.out hw) (fun _ _ f => f))) (Src.ofRow (HKO.out w (Same.trans HK10.out hw))) (by rw [← HNO.out]; omega))
    clear hk10 HB9 HK79 HK9
    go_wp2_with fail
    all_goals
     try
      have hcc := h.symm
      subst hcc
     refine (HBR.out _ _ ?_).mono ?_
     ·intro h9
      first
       | (exfalso; omega)
       | (obtain ⟨b9, o9, hab⟩ := HAD.out h9; exact ⟨b9, o9, hab, by rw [hab]; simp [addAt]⟩)
     rintro x w11 ⟨rfl, hk11⟩
     have HK11 : Hid (Same w10 w11) := hk11
     have H12 := HB12.out w11 hk11
     clear hk11
     go_wp2_with fail
     refine H12.mono ?_
     rintro x w12 ⟨rfl, hk12⟩
     have HK12 : Hid (Same W w12) := hid (Same.trans HKW.out (Same.trans HK10.out (Same.trans HK11.out hk12)))
     clear hk12 H12
     go_wp2_with fail
     go_ret
     exact ⟨rfl, HK12.out⟩
   ·have hout : out = [] := HE0.out.2.2 h0
    have hno0 : no = 0 := by rw [HNO.out, hout]; rfl
    obtain ⟨mo, vl, bv, vah, go', hobj⟩ := HTO.out.st.obj
    have HOB : Hid (∀ W2, Same wr W2 → Sm W2 N mo vl bv vah go' er') := hid (fun W2 hk => hobj.kept hk (fun f => f))
    have HP7 := HPK.out wr HKW.out
    have bz : ((er' : Int) == 0) = false := by simp; omega
    have bn : (er' == 0) = false := by simp; omega
    subst hno0
    clear hobj hout HBT HTO
    by_cases h55 : er' = 55
    ·have hla0 : la = 0 := by have := HLA.out; rw [h55] at this; simpa [lst7] using this
     subst h55 hla0
     have hd1 : decide (i ≤ sl) = false := by
      rcases hcase with h9 | ⟨_, h9⟩
      ·exact h9
      ·simp at h9
     clear hcase
     go_wp2_with fail
     refine HP7.mono ?_
     rintro x w8 ⟨rfl, hk8⟩
     have HK8 : Hid (Same wr w8) := hk8
     have HDN := pdone_any w8 N mo vl bv vah go' 55 (HOB.out w8 hk8)
     simp only [show ((55 : Nat) == 0) = false from by decide] at HDN
     clear hk8 HP7
     go_wp2_with fail
     refine HDN.mono ?_
     rintro x w9 ⟨rfl, m9, hw9⟩
     have hk9 : Same w8 w9 := by rw [hw9]; exact (Kept.refl _ w8).drewN m9
     have HK9 : Hid (Same wr w9) := hid (Same.trans HK8.out hk9)
     have HCL := pclose_any w9 N mo vl bv vah go' 55 (HOB.out w9 HK9.out)
     clear hk9 hw9 HDN HK8
     go_wp2_with fail
     refine HCL.mono ?_
     rintro x w10 ⟨rfl, hw10⟩
     subst hw10
     clear HCL
     go_wp2_with fail
     go_ret
     exact ⟨rfl, Same.trans HKW.out HK9.out⟩
    ·have hlae : la = er' := by have := HLA.out; simpa [lst7, h55] using this
     subst hlae
     have b55 : ((la : Int) == 55) = false := by simp; omega
     rcases hcase with hd1 | ⟨hd1, _⟩
     all_goals
      go_wp2_with fail
      refine HP7.mono ?_
      rintro x w8 ⟨rfl, hk8⟩
      have HK8 : Hid (Same wr w8) := hk8
      have HDN := pdone_any w8 N mo vl bv vah go' la (HOB.out w8 hk8)
      rw [bn] at HDN
      clear hk8 HP7
      go_wp2_with fail
      refine HDN.mono ?_
      rintro x w9 ⟨rfl, m9, hw9⟩
      have hk9 : Same w8 w9 := by rw [hw9]; exact (Kept.refl _ w8).drewN m9
      have HK9 : Hid (Same wr w9) := hid (Same.trans HK8.out hk9)
      clear hk9 hw9 HDN HK8
      go_wp2_with fail
      go_ret
      exact ⟨by simp, Same.trans HKW.out HK9.out⟩

set_option maxRecDepth 100000 in
set_option maxHeartbeats 400000 in
theorem topUnpacks_all (a : Option Addr) (len cap : Nat) (zs : List Int) (m : Int) (sa : Option Addr) (sl sc : Nat) (zo : List Int) (W : World) (h : IsRow .u8 W a len cap zs) (_hm : (Lit.int .i64 m).wf = true) (ho : IsRow .i64 W sa sl sc zo) (hT : Tab W) :
  Calls Tryz.prog 5 #[.slice a len cap, .int .i64 m, .slice sa sl sc] W fun e w' => e = .returned (.bool true) ∧ Below W.heap.size W w' := by
 suffices H : Calls Tryz.prog 5 #[.slice a len cap, .int .i64 m, .slice sa sl sc] W fun e w' => e = .returned (.bool true) ∧ Same W w' from H.mono (fun e w' h => ⟨h.1, h.2.bel⟩)
 obtain ⟨bs, hs, hl, hb⟩ := h.src
 by_cases hbig : 1048576 < len ∨ 200 < sl ∨ m < 0 ∨ 16384 < m
 ·have HP := tpacks_any W hT
  have hc : (decide ((1048576 : Int) < (len : Int)) = true) ∨ (decide ((1048576 : Int) < (len : Int)) = false ∧ decide ((200 : Int) < (sl : Int)) = true) ∨ (decide ((1048576 : Int) < (len : Int)) = false ∧ decide ((200 : Int) < (sl : Int)) = false ∧ decide (m < 0) = true) ∨ (decide ((1048576 : Int) < (len : Int)) = false ∧ decide ((200 : Int) < (sl : Int)) = false ∧ decide (m < 0) = false ∧ decide (16384 < m) = true) := by
   simp only [decide_eq_true_eq, decide_eq_false_iff_not]; omega
  clear hbig hT h ho hs hl hb
  rcases hc with b1 | ⟨b1, b2⟩ | ⟨b1, b2, b3⟩ | ⟨b1, b2, b3, b4⟩
  all_goals
   go_enter Tryz.func5, Tryz.ntmps5
   go_wp2_with fail
   refine HP.mono ?_
   rintro x w2 ⟨rfl, hk2⟩
   have HK2 : Hid (Same W w2) := hk2
   clear hk2 HP
   go_wp2_with fail
   go_ret
   exact ⟨rfl, HK2.out⟩
 ·obtain ⟨M, rfl⟩ : ∃ k : Nat, m = (k : Int) := ⟨m.toNat, by omega⟩
  exact tunpacks_good W a sa len cap sl sc M bs _ hs hl hb h.nil5 h.lenCap ho.ints.1 ho.ints.2 (by omega) (by omega) (by omega) hT

end Go.Proofs.YtggcbnhckcenmabGreatDoor
