/-
  Layer 18: Feed.
-/
import Derived.Test.YtjjhjbmmhkcapaaFmB
import Derived.Test.YtjjhjbmmhkcapaaScJ
import Derived.Test.YtjjhjbmmhkcapaaApt
import Derived.WalkMore
namespace Go.Proofs.Ytjjhjbmmhkcapaa
open Go.RowKit

/-- Feed's frame: what it holds between its labels. -/
def frmA (p bv vo vr : Value) (us : Nat → Value) : Act := { tmps := #[p, bv, us 2, us 3, us 4, us 5, vo, vr, us 8, us 9, us 10, us 11, us 12, us 13, us 14, us 15, us 16, us 17, us 18, us 19, us 20, us 21, us 22, us 23, us 24, us 25, us 26, us 27, us 28, us 29, us 30, us 31, us 32, us 33, us 34, us 35, us 36, us 37, us 38, us 39, us 40, us 41, us 42, us 43, us 44, us 45, us 46, us 47, us 48, us 49, us 50, us 51, us 52, us 53, us 54, us 55, us 56, us 57, us 58, us 59, us 60, us 61, us 62, us 63, us 64, us 65, us 66, us 67, us 68, us 69, us 70, us 71, us 72, us 73, us 74, us 75, us 76, us 77, us 78, us 79, us 80, us 81, us 82, us 83, us 84, us 85, us 86, us 87, us 88, us 89, us 90, us 91, us 92, us 93], defers := [] }

set_option maxRecDepth 100000 in
theorem frm_us {x0 x1 x2 x3 x4 x5 x6 x7 x8 x9 x10 x11 x12 x13 x14 x15 x16 x17 x18 x19 x20 x21 x22 x23 x24 x25 x26 x27 x28 x29 x30 x31 x32 x33 x34 x35 x36 x37 x38 x39 x40 x41 x42 x43 x44 x45 x46 x47 x48 x49 x50 x51 x52 x53 x54 x55 x56 x57 x58 x59 x60 x61 x62 x63 x64 x65 x66 x67 x68 x69 x70 x71 x72 x73 x74 x75 x76 x77 x78 x79 x80 x81 x82 x83 x84 x85 x86 x87 x88 x89 x90 x91 x92 x93 : Value} : ({ tmps := #[x0, x1, x2, x3, x4, x5, x6, x7, x8, x9, x10, x11, x12, x13, x14, x15, x16, x17, x18, x19, x20, x21, x22, x23, x24, x25, x26, x27, x28, x29, x30, x31, x32, x33, x34, x35, x36, x37, x38, x39, x40, x41, x42, x43, x44, x45, x46, x47, x48, x49, x50, x51, x52, x53, x54, x55, x56, x57, x58, x59, x60, x61, x62, x63, x64, x65, x66, x67, x68, x69, x70, x71, x72, x73, x74, x75, x76, x77, x78, x79, x80, x81, x82, x83, x84, x85, x86, x87, x88, x89, x90, x91, x92, x93], defers := [] } : Act) = frmA x0 x1 x6 x7 (fun k => (#[x0, x1, x2, x3, x4, x5, x6, x7, x8, x9, x10, x11, x12, x13, x14, x15, x16, x17, x18, x19, x20, x21, x22, x23, x24, x25, x26, x27, x28, x29, x30, x31, x32, x33, x34, x35, x36, x37, x38, x39, x40, x41, x42, x43, x44, x45, x46, x47, x48, x49, x50, x51, x52, x53, x54, x55, x56, x57, x58, x59, x60, x61, x62, x63, x64, x65, x66, x67, x68, x69, x70, x71, x72, x73, x74, x75, x76, x77, x78, x79, x80, x81, x82, x83, x84, x85, x86, x87, x88, x89, x90, x91, x92, x93] : Array Value).getD k undef) := rfl

theorem snd_sum {r : List Nat} (h : lenF r + 9 ≤ r.length) : sndF (r.take (lenF r + 9)) = sumF r := by
  have hl : (r.take (lenF r + 9)).length = lenF r + 9 := by rw [List.length_take]; omega
  unfold sndF sumF
  rw [hl, show lenF r + 9 - 4 = lenF r + 5 by omega, show lenF r + 9 - 8 = lenF r + 1 by omega, List.drop_take, List.drop_take, List.take_take, List.take_take,
    show min 4 (lenF r + 9 - (lenF r + 5)) = 4 by omega, show min (lenF r + 1) (lenF r + 9 - 4) = lenF r + 1 by omega]

theorem of_frm {r : List Nat} (h : lenF r + 9 ≤ r.length) : ofF (r.take (lenF r + 9)) = frmF r := by
  have hl : (r.take (lenF r + 9)).length = lenF r + 9 := by rw [List.length_take]; omega
  unfold ofF frmF
  rw [hl, show lenF r + 9 - 9 = lenF r by omega, List.drop_take, List.take_take, List.getElem?_take_of_lt (by omega), show min (lenF r) (lenF r + 9 - 5) = lenF r by omega]

theorem cellsAt_fm (W : World) (f : Fm) : CellsAt (W.alloc (.cells #[.int .i64 f.k, .string f.s] 23)) ⟨W.heap.size, 0, none⟩ ([f].flatMap fmE) := by
  have hb := Blk.new W #[.int .i64 f.k, .string f.s] 23
  intro j u hu
  rw [addAt, Nat.zero_add]
  simp only [List.flatMap_cons, List.flatMap_nil, List.append_nil, fmE] at hu
  match j, hu with
  | 0, hu => exact (hb.cell 0).trans hu
  | 1, hu => exact (hb.cell 1).trans hu
  | j + 2, hu => simp at hu

theorem Try.infoFm : (Try.prog.info? 23).map (fun i => (i.zero, i.size, i.bytes)) = some (some (.agg #[.int .i64 0, .string ⟨#[]⟩]), 2, 24) := by kernel_rfl

/-- What Feed tells. -/
def FedA (w : World) (d : Nat) (v : Value) (fs : List Fm) (q : List Nat) (e : Int) (x : Ending) (w' : World) : Prop :=
  ∃ vo v', x = .returned (.tuple #[vo, .int .i64 e]) ∧ RowC w.heap.size 23 2 fmE w' vo fs ∧ Dc w' d v' (if e = 0 then q else []) e ∧ Kept (Fd d v) w w' ∧ (∀ k, Fd d v' k → Fd d v k ∨ w.heap.size ≤ k)

/-- What is so between Feed's labels: what is told so far, what is left. -/
structure Ps (w0 : World) (d : Nat) (v : Value) (r0 : List Nat) (vi : Value) (fs : List Fm) (q : List Nat) (e : Int) (w : World) (vo vr : Value) (gs : List Fm) (r : List Nat) : Prop where
  kept : Kept (Fd d v) w0 w
  blk : Blk w d #[v, .int .i64 0] 56
  out : RowC w0.heap.size 23 2 fmE w vo gs
  row : Row w vi r0
  src : Src w (fun k => vi.ownBlock = some k) vr r
  room : ∃ a n c, vr = .slice a n c ∧ n ≤ c
  old : ∀ k, vi.ownBlock = some k → Fd d v k ∨ w0.heap.size ≤ k
  ne : vi.ownBlock ≠ some d
  byt : ∀ b ∈ r, b < 256
  len : r.length ≤ 100000000
  beg : (gs = [] ∧ vr = vi ∧ r = r0) ∨ (gs ≠ [] ∧ ∃ ad n c, vr = .slice (some ad) n c)
  rd : ∃ hs, fs = gs ++ hs ∧ Rd r hs q e

/-- What is so where something is wrong. -/
structure Pw (w0 : World) (d : Nat) (v : Value) (fs : List Fm) (e : Int) (w : World) (vo : Value) : Prop where
  kept : Kept (Fd d v) w0 w
  blk : Blk w d #[v, .int .i64 e] 56
  out : RowC w0.heap.size 23 2 fmE w vo fs
  err : e ≠ 0

section
variable {w0 : World} {d : Nat} {v : Value} {r0 : List Nat} {vi : Value} {fs : List Fm} {q : List Nat} {e : Int} {w : World} {vo vr : Value} {gs : List Fm} {r : List Nat}

theorem Ps.same {w' : World} (h : Ps w0 d v r0 vi fs q e w vo vr gs r) (hk : Same w w') : Ps w0 d v r0 vi fs q e w' vo vr gs r :=
  ⟨Kept.trans h.kept hk (fun _ _ f => f) (fun _ _ f => f.elim), h.blk.kept hk (fun f => f), h.out.kept hk (fun _ _ f => f), h.row.kept hk (fun _ _ f => f), h.src.kept hk (fun _ _ _ f => f), h.room, h.old, h.ne, h.byt, h.len, h.beg, h.rd⟩

theorem Ps.wrong (h : Ps w0 d v r0 vi fs q e w vo vr gs r) {z : Int} (hz : nx r = .stop z) (h0 : z ≠ 0) : Pw w0 d v fs e (w.setCell ⟨d, 1, none⟩ (.int .i64 z)) vo ∧ e = z := by
  obtain ⟨hs, hf, hr⟩ := h.rd
  obtain ⟨rfl, _, rfl⟩ := hr.det (.stop hz)
  rw [List.append_nil] at hf
  subst hf
  refine ⟨⟨h.kept.setCell _ _ (.inl (.inl rfl)), ?_, ?_, h0⟩, rfl⟩
  · have := h.blk.set 1 (.int .i64 e)
    simpa using this
  · exact h.out.kept ((Kept.refl (· = d) w).setCell _ _ (.inl rfl)) (fun j hj e => h.out.offB h.blk (by decide) (by rw [hj, e]))

theorem owns_off {B B' t t' k k' : Nat} {w : World} {v v' : Value} {n n' : Nat} {xs xs' : List Value} (h : w.ownsRow B t k v n xs) (h' : w.ownsRow B' t' k' v' n' xs') (hne : t ≠ t') : ∀ j, v.ownBlock = some j → v'.ownBlock ≠ some j := by
  intro j e e'
  rcases h.2 with ⟨rfl, _⟩ | ⟨g, cap, cur, rfl, _, hg, _⟩
  · cases e
  rcases h'.2 with ⟨rfl, _⟩ | ⟨g', cap', cur', rfl, _, hg', _⟩
  · cases e'
  cases e
  cases e'
  rw [hg] at hg'
  injection hg' with hg'
  injection hg' with _ hg' _
  exact hne hg'

theorem Ps.push (h : Ps w0 d v r0 vi fs q e w vo vr gs r) {w5 : World} {vo' : Value} {f : Fm} {r' : List Nat} (hn : nx r = .one f r') (hr : RowC w0.heap.size 23 2 fmE w5 vo' (gs ++ [f])) (hg : w.grownBy w5 vo.ownBlock)
    {br o n c m : Nat} {a' : Option Addr} (hv : vr = .slice (some ⟨br, o, none⟩) n c) (hm : m = lenF r + 9) (ha : a' = if c = m then some ⟨br, o, none⟩ else some ⟨br, o + m, none⟩) : Ps w0 d v r0 vi fs q e w5 vo' (.slice a' (n - m) (c - m)) (gs ++ [f]) r' := by
  obtain ⟨h4, _, _, h9, _, rfl, rfl⟩ := nx_one hn
  have hk : Kept (fun k => vo.ownBlock = some k) w w5 := (Kept.refl (fun k => vo.ownBlock = some k) w).grown hg (fun k e => .inl e)
  have hoff : ∀ k, vi.ownBlock = some k → ¬ vo.ownBlock = some k := fun k e e' => owns_off h.out h.row (by decide) k e' e
  obtain ⟨ar, nr, cr, hvr, hrc⟩ := h.room
  rw [hv] at hvr
  injection hvr with _ e2 e3
  have hsrc := h.src
  rw [hv] at hsrc
  have hnl : n = r.length := (Src.at hsrc).1
  obtain ⟨hs, hf, hrd⟩ := h.rd
  subst hm
  refine ⟨Kept.trans h.kept hk (fun _ _ f => f) (fun x hx g => absurd (h.out.ge g) (by omega)), h.blk.kept hk (h.out.offB h.blk (by decide)), hr, h.row.kept hk hoff, ?_, ⟨a', _, _, rfl, by omega⟩, h.old, h.ne, fun b hb => h.byt b (List.mem_of_mem_drop hb), by rw [List.length_drop]; have := h.len; omega, ?_, ?_⟩
  · have h9 := (hsrc.kept hk (fun k e _ => hoff k e)).sub (a' := a') (lenF r + 9) (n - (lenF r + 9)) (by omega) (fun hj b' o' e => by
      injection e with e
      injection e with e4 e5
      subst e4 e5
      rw [ha, if_neg (by omega)]) (c - (lenF r + 9))
    rw [List.take_of_length_le (by rw [List.length_drop]; omega)] at h9
    exact h9
  · refine .inr ⟨by simp, ?_⟩
    by_cases hc : c = lenF r + 9
    · rw [if_pos hc] at ha
      exact ⟨_, _, _, by rw [ha]⟩
    · rw [if_neg hc] at ha
      exact ⟨_, _, _, by rw [ha]⟩
  · cases hrd with
    | stop h7 => rw [hn] at h7; exact Nx.noConfusion h7
    | one h7 h8 =>
      rw [hn] at h7
      injection h7 with e7 e8
      subst e7 e8
      exact ⟨_, by rw [hf, List.append_assoc]; rfl, h8⟩

theorem Ps.srcG (h : Ps w0 d v r0 vi fs q e w vo vr gs r) {w5 : World} (hg : w.grownBy w5 vo.ownBlock) : Src w5 (fun k => vi.ownBlock = some k) vr r := by
  have hk : Kept (fun k => vo.ownBlock = some k) w w5 := (Kept.refl (fun k => vo.ownBlock = some k) w).grown hg (fun k e => .inl e)
  exact h.src.kept hk (fun k e _ e' => owns_off h.out h.row (by decide) k e' e)

/-- Nothing more: what is left. -/
theorem Ps.rest (h : Ps w0 d v r0 vi fs q e w vo vr gs r) (hz : nx r = .stop 0) : gs = fs ∧ r = q ∧ e = 0 := by
  obtain ⟨hs, hf, hr⟩ := h.rd
  obtain ⟨rfl, rfl, rfl⟩ := hr.det (.stop hz)
  rw [List.append_nil] at hf
  exact ⟨hf.symm, rfl, rfl⟩

theorem Ps.fed (h : Ps w0 d v r0 vi fs q e w vo vr gs r) (hz : nx r = .stop 0) {v' : Value} (hr : Row w v' r) (hne : v'.ownBlock ≠ some d) (hold : ∀ k, v'.ownBlock = some k → Fd d v k ∨ w0.heap.size ≤ k) :
    FedA w0 d v fs q e (.returned (.tuple #[vo, .int .i64 0])) (w.setCell ⟨d, 0, none⟩ v') := by
  obtain ⟨rfl, rfl, rfl⟩ := h.rest hz
  have hk : Kept (· = d) w (w.setCell ⟨d, 0, none⟩ v') := (Kept.refl _ _).setCell _ _ (.inl rfl)
  refine ⟨vo, v', rfl, h.out.kept hk (fun j hj e => h.out.offB h.blk (by decide) (by rw [hj, e])), ?_, Kept.trans h.kept hk (fun _ _ f => f) (fun _ _ f => .inl f), ?_⟩
  · rw [if_pos rfl]
    refine ⟨?_, hr.kept hk (fun k hk e => hne (by rw [hk, e])), hne, h.byt, fun _ => hz, fun h0 => absurd rfl h0⟩
    have h9 := h.blk.set 0 v'
    simpa using h9
  · intro k hk
    rcases hk with rfl | hk
    · exact .inl (.inl rfl)
    · exact hold k hk

end

/-- What holds at Feed's labels. -/
def JF (w0 : World) (d : Nat) (v bv : Value) (r0 : List Nat) (fs : List Fm) (q : List Nat) (e : Int) (l m : Nat) (a : Act) (w : World) : Prop :=
  ∃ (vo vr : Value) (us : Nat → Value), a = frmA (.pointer (some ⟨d, 0, none⟩)) bv vo vr us ∧
    ((l = 0 ∧ m = 0 ∧ Pw w0 d v fs e w vo) ∨
     ∃ vi gs r, Ps w0 d v r0 vi fs q e w vo vr gs r ∧
      ((l = 3 ∧ m = 4 * r.length + 3) ∨ (l = 2 ∧ m = 4 * r.length + 2 ∧ 5 ≤ r.length ∧ lenF r ≤ 20000) ∨ (l = 4 ∧ m = 4 * r.length + 1 ∧ lenF r + 9 ≤ r.length ∧ lenF r ≤ 20000 ∧ r[4]? ≠ some 0) ∨ (l = 1 ∧ m = 0 ∧ nx r = .stop 0)))

set_option maxRecDepth 100000 in
set_option maxHeartbeats 4000000 in
theorem dfeed_zero (w : World) (d : Nat) (v : Value) (q : List Nat) (h : Dc w d v q 0) (I : Nat → Prop) (bv : Value) (bs : List Nat) (hb : Src w I bv bs) (hI : ∀ k, I k → ¬ Fd d v k) (hbl : ∀ b ∈ bs, b < 256) (hnil : ∀ n c, bv = .slice none n c → n = 0 ∧ c = 0) (hlen : bs.length ≤ 90000000)
    (fs : List Fm) (q2 : List Nat) (e : Int) (hr : Rd (q ++ bs) fs q2 e) :
    Calls Try.prog 16 #[.pointer (some ⟨d, 0, none⟩), bv] w fun x w' => FedA w d v fs q2 e x w' := by
  obtain ⟨c0, c1, f0, f1⟩ := h.blk.two
  obtain ⟨a0, n0, hv, _⟩ := h.row.shape
  obtain ⟨ab, cb, hbv, _⟩ := id hb
  obtain ⟨nq, hnq⟩ : ∃ n, n = q.length := ⟨_, rfl⟩
  obtain ⟨nb, hnb⟩ : ∃ n, n = bs.length := ⟨_, rfl⟩
  rw [← hnq] at hv
  rw [← hnb] at hbv
  subst hv hbv
  have hs := h.short
  have HR := hid h.row
  have HB := hid h.blk
  have HBY : Hid (∀ b ∈ q ++ bs, b < 256) := hid (fun b hm => (List.mem_append.1 hm).elim (h.byt b) (hbl b))
  have HS := hid hb
  have HRD := hid hr
  have HNIL := hid hnil
  have HI := hid hI
  have HL : Hid (q.length + bs.length ≤ 100000000) := hid (by omega)
  have HNE := hid h.ne
  have HLN := hid (And.intro hnq hnb)
  clear h hb hbl hnil hlen hr hnq hnb hs hI
  go_enter Try.func16, Try.ntmps16
  go_wp2_with fail
  refine wp_scope_many (JF w d (.slice a0 nq n0) (.slice ab nb cb) (q ++ bs) fs q2 e) ?pass ?first
  case pass =>
    rintro l m a wr ⟨vo, vr, us, rfl, (⟨rfl, rfl, hp⟩ | ⟨vi, gs, r, hp, (⟨rfl, rfl⟩ | ⟨rfl, rfl, h5, hL⟩ | ⟨rfl, rfl, h9, hL, h4⟩ | ⟨rfl, rfl, hz⟩)⟩)⟩
    · refine ⟨_, rfl, ?_⟩
      obtain ⟨x0, x1, g0, g1⟩ := hp.blk.two
      have HP := hid hp
      clear hp c0 c1 f0 f1
      unfold frmA
      obtain ⟨W2, hW2⟩ : ∃ W, W = wr.setCell ⟨d, 0, none⟩ (.slice none 0 0) := ⟨_, rfl⟩
      have HB2 : Hid (Blk W2 d #[.slice none 0 0, .int .i64 e] 56) := hid (by
        rw [hW2]
        have h9 := HP.out.blk.set 0 (.slice none 0 0)
        simpa using h9)
      have hk2 : Kept (· = d) wr W2 := by rw [hW2]; exact (Kept.refl _ _).setCell _ _ (.inl rfl)
      have HK2 := hid hk2
      have y1 := HB2.out.two.2.1
      clear hk2
      go_upto_region 24 with fail
      rw [← hW2]
      clear hW2
      go_region_held3 (fun w' => w'.cell? ⟨d, 1, none⟩ = some (.int .i64 e)) (go_keep) (fail)
      go_wp2_with fail
      rw [Exit.jumps_ret]
      go_ret2
      refine ⟨vo, .slice none 0 0, rfl, (HP.out.out.kept HK2.out (fun j hj e => HP.out.out.offB HP.out.blk (by decide) (by rw [hj, e]))).kept ((Kept.refl (fun _ => False) _).drew) (fun _ _ f => f), ?_, (Kept.trans HP.out.kept HK2.out (fun _ _ f => f) (fun _ _ f => .inl f)).drew, ?_⟩
      · rw [if_neg HP.out.err]
        exact ⟨HB2.out, World.ownsRow_nil _ 0 5 1, (fun e => by cases e), (fun b hb => by simp at hb), fun h0 => absurd h0 HP.out.err, fun _ => rfl⟩
      · intro k hk
        rcases hk with rfl | hk
        · exact .inl (.inl rfl)
        · cases hk
    · refine ⟨_, rfl, ?_⟩
      obtain ⟨x0, x1, g0, g1⟩ := hp.blk.two
      obtain ⟨ar, nr, cr, hvr, hrc⟩ := hp.room
      have hrn : nr = r.length := (by have h9 := hp.src; rw [hvr] at h9; exact (Src.at h9).1)
      have HG := get32_any wr vr _ r hp.src (fun a n c e => by rw [hvr] at e; injection e with _ e2 e3; omega) hp.byt hp.len 0
      rw [lenF_got, gotE_zero, hvr] at HG
      have HP := hid hp
      have hl := lenF_lt r hp.byt
      obtain ⟨L, hL⟩ : ∃ L, L = lenF r := ⟨_, rfl⟩
      rw [← hL] at HG hl
      have HL1 := hid hL
      have HRN := hid hrn
      have hnr : nr ≤ 100000000 := by have := hp.len; omega
      have HVR := hid hvr
      rw [← hrn] at HG
      clear hp c0 c1 f0 f1 hL hrn
      unfold frmA
      rw [hvr]
      clear hvr
      by_cases h4 : nr < 4
      · rw [if_pos h4] at HG
        go_wp2_with fail
        refine HG.mono ?_
        rintro x w2 ⟨rfl, hbel⟩
        have HK := hid (Same.bel hbel)
        clear hbel HG
        go_wp2_with fail
        go_step3
        exact ⟨0, by omega, _, _, _, frm_us, .inr ⟨vi, gs, r, (by rw [← HVR.out]; exact HP.out.same HK.out), .inr (.inr (.inr ⟨rfl, rfl, by unfold nx; rw [if_pos (by have := HRN.out; omega)]⟩))⟩⟩
      · rw [if_neg h4] at HG
        by_cases h5 : 20000 < L
        · go_wp2_with fail
          refine HG.mono ?_
          rintro x w2 ⟨rfl, hbel⟩
          have HK := hid (Same.bel hbel)
          obtain ⟨y0, y1, k0, k1⟩ := (HP.out.blk.kept HK.out (fun f => f)).two
          clear hbel HG
          go_wp2_with fail
          go_step3
          have hw := (HP.out.same HK.out).wrong (z := 180) (by unfold nx; rw [if_neg (by have := HRN.out; omega), if_pos (by have := HL1.out; omega)]) (by decide)
          exact ⟨0, by omega, _, _, _, frm_us, .inl ⟨rfl, rfl, hw.1⟩⟩
        · by_cases h6 : 4 < nr
          · go_wp2_with fail
            refine HG.mono ?_
            rintro x w2 ⟨rfl, hbel⟩
            have HK := hid (Same.bel hbel)
            clear hbel HG
            go_wp2_with fail
            go_step3
            exact ⟨4 * r.length + 2, by omega, _, _, _, frm_us, .inr ⟨vi, gs, r, (by rw [← HVR.out]; exact HP.out.same HK.out), .inr (.inl ⟨rfl, rfl, by have := HRN.out; omega, by have := HL1.out; omega⟩)⟩⟩
          · go_wp2_with fail
            refine HG.mono ?_
            rintro x w2 ⟨rfl, hbel⟩
            have HK := hid (Same.bel hbel)
            clear hbel HG
            go_wp2_with fail
            go_step3
            exact ⟨0, by omega, _, _, _, frm_us, .inr ⟨vi, gs, r, (by rw [← HVR.out]; exact HP.out.same HK.out), .inr (.inr (.inr ⟨rfl, rfl, by
              have h1 := HRN.out
              have h2 := HL1.out
              unfold nx
              rw [if_neg (by omega), if_neg (by omega), if_neg (by rw [List.getElem?_eq_none (by omega)]; exact fun e => by cases e), if_pos (by omega)]⟩))⟩⟩
    · refine ⟨_, rfl, ?_⟩
      obtain ⟨x0, x1, g0, g1⟩ := hp.blk.two
      obtain ⟨ar, nr, cr, hvr, hrc⟩ := hp.room
      have hrn : nr = r.length := (by have h9 := hp.src; rw [hvr] at h9; exact (Src.at h9).1)
      have HW : Hid (∀ W, Same wr W → Calls Try.prog 28 #[.slice ar nr cr] W fun e w' => e = .returned (.int .i64 ((lenF r + 9 : Nat) : Int)) ∧ Same W w') := hid (fun W hk => by
        have h9 := whole_any W vr _ r (hp.src.kept hk (fun _ _ _ f => f)) (fun a n c e => by rw [hvr] at e; injection e with _ e2 e3; omega) hp.byt hp.len
        rw [hvr] at h9
        exact h9)
      have HP := hid hp
      have hl := lenF_lt r hp.byt
      obtain ⟨L, hL⟩ : ∃ L, L = lenF r := ⟨_, rfl⟩
      rw [← hL] at HW hl
      have HL1 := hid hL
      have HRN := hid hrn
      have hnr : nr ≤ 100000000 := by have := hp.len; omega
      have HVR := hid hvr
      obtain ⟨k, hk⟩ : ∃ k, k = r[4]'(by omega) := ⟨_, rfl⟩
      have hk2 : k < 256 := by rw [hk]; exact hp.byt _ (List.getElem_mem _)
      have HKK : Hid (r[4]? = some k) := hid (by rw [hk]; exact List.getElem?_eq_getElem _)
      obtain ⟨br, or', har, ck⟩ : ∃ b o, ar = some ⟨b, o, none⟩ ∧ wr.cell? ⟨b, o + 4, none⟩ = some (.int .u8 (k : Nat)) := by
        obtain ⟨ao, cp, e, h9⟩ := hp.src
        rw [hvr] at e
        injection e with e1 e2 e3
        obtain ⟨b', o', e4, _, h3⟩ := h9 (by intro e; rw [e] at h5; simp at h5)
        refine ⟨b', o', e1.trans e4, ?_⟩
        rw [h3 4 (by omega), hk]
      subst har
      clear hp c0 c1 f0 f1 hL hrn hk
      have h5n : 5 ≤ nr := by have := HRN.out; omega
      have hLn : L ≤ 20000 := by have := HL1.out; omega
      clear h5 hL
      unfold frmA
      rw [hvr]
      clear hvr
      by_cases hk0 : k = 0
      · subst hk0
        obtain ⟨y0, y1, k0, k1⟩ := HP.out.blk.two
        go_wp2_with fail
        go_step3
        have hw := HP.out.wrong (z := 182) (by
          unfold nx
          rw [if_neg (by have := HRN.out; omega), if_neg (by have := HL1.out; omega), if_pos (by rw [HKK.out])]) (by decide)
        exact ⟨0, by omega, _, _, _, frm_us, .inl ⟨rfl, rfl, hw.1⟩⟩
      · by_cases hge : L + 9 ≤ nr
        · go_wp2_with fail
          refine (HW.out _ (Kept.refl _ _)).mono ?_
          rintro x w2 ⟨rfl, hk2⟩
          have HK := hid hk2
          clear hk2
          go_wp2_with fail
          go_step3
          exact ⟨4 * r.length + 1, by omega, _, _, _, frm_us, .inr ⟨vi, gs, r, (by rw [← HVR.out]; exact HP.out.same HK.out), .inr (.inr (.inl ⟨rfl, rfl, by have := HRN.out; have := HL1.out; omega, by have := HL1.out; omega, by rw [HKK.out]; intro e; injection e with e; exact hk0 e⟩))⟩⟩
        · go_wp2_with fail
          refine (HW.out _ (Kept.refl _ _)).mono ?_
          rintro x w2 ⟨rfl, hk2⟩
          have HK := hid hk2
          clear hk2
          go_wp2_with fail
          go_step3
          exact ⟨0, by omega, _, _, _, frm_us, .inr ⟨vi, gs, r, (by rw [← HVR.out]; exact HP.out.same HK.out), .inr (.inr (.inr ⟨rfl, rfl, by
              have h1 := HRN.out
              have h2 := HL1.out
              unfold nx
              rw [if_neg (by omega), if_neg (by omega), if_neg (by rw [HKK.out]; intro e; injection e with e; exact hk0 e), if_pos (by omega)]⟩))⟩⟩
    · refine ⟨_, rfl, ?_⟩
      obtain ⟨x0, x1, g0, g1⟩ := hp.blk.two
      obtain ⟨ar, nr, cr, hvr, hrc⟩ := hp.room
      have hrn : nr = r.length := (by have h9 := hp.src; rw [hvr] at h9; exact (Src.at h9).1)
      have HW : Hid (∀ W, Same wr W → Calls Try.prog 28 #[.slice ar nr cr] W fun e w' => e = .returned (.int .i64 ((lenF r + 9 : Nat) : Int)) ∧ Same W w') := hid (fun W hk => by
        have h10 := whole_any W vr _ r (hp.src.kept hk (fun _ _ _ f => f)) (fun a n c e => by rw [hvr] at e; injection e with _ e2 e3; omega) hp.byt hp.len
        rw [hvr] at h10
        exact h10)
      obtain ⟨br, or', har⟩ : ∃ b o, ar = some ⟨b, o, none⟩ := by
        obtain ⟨ao, cp, e, h10⟩ := hp.src
        rw [hvr] at e
        injection e with e1 e2 e3
        obtain ⟨b', o', e4, _, h3⟩ := h10 (by intro e; rw [e] at h9; simp at h9)
        exact ⟨b', o', e1.trans e4⟩
      subst har
      have hpart : ∀ W, Same wr W → Src W (fun k => vi.ownBlock = some k) (.slice (some ⟨br, or', none⟩) (lenF r + 9) cr) (r.take (lenF r + 9)) := fun W hk => by
        have h10 := hp.src.kept hk (fun _ _ _ f => f)
        rw [hvr] at h10
        exact h10.sub 0 (lenF r + 9) (by omega) (fun _ b o e => e) cr
      have hb9 : ∀ b ∈ r.take (lenF r + 9), b < 256 := fun b hb => hp.byt b (List.mem_of_mem_take hb)
      have hl9 : (r.take (lenF r + 9)).length ≤ 100000000 := by rw [List.length_take]; have := hp.len; omega
      have HSO : Hid (∀ W, Same wr W → Calls Try.prog 29 #[.slice (some ⟨br, or', none⟩) (lenF r + 9) cr] W fun e w' => e = .returned (.bool (sumF r)) ∧ Same W w') := hid (fun W hk => by
        rw [← snd_sum h9]
        exact sound_any W br or' _ cr _ _ (hpart W hk) (by omega) hb9 hl9 (by omega))
      have HFO : Hid (∀ W, Same wr W → Calls Try.prog 30 #[.slice (some ⟨br, or', none⟩) (lenF r + 9) cr] W fun e w' => e = .returned (.agg #[.int .i64 (frmF r).k, .string (frmF r).s]) ∧ Same W w') := hid (fun W hk => by
        have h10 := frameOf_any W br or' _ cr _ _ (hpart W hk) (by omega) hb9 hl9 (by omega)
        rw [of_frm h9] at h10
        exact h10)
      have HP := hid hp
      have HNX : Hid (sumF r = true → nx r = .one (frmF r) (r.drop (lenF r + 9))) := hid (fun hs => nx_is (by omega) hL h4 h9 hs)
      have HNW : Hid (sumF r = false → nx r = .stop 181) := hid (fun hs => by
        unfold nx
        rw [if_neg (by omega), if_neg (by omega), if_neg h4, if_neg (by omega), if_pos hs])
      have HMA : Hid (gs.length + 1 ≤ 1000000000) := hid (by
        have h1 := HRD.out.many
        have h2 := HL.out
        rw [List.length_append] at h1
        obtain ⟨hs, hf, _⟩ := hp.rd
        have h3 : fs.length = gs.length + hs.length := by rw [hf, List.length_append]
        omega)
      have HDL : Hid (4 * (r.drop (lenF r + 9)).length + 3 < 4 * r.length + 1) := hid (by rw [List.length_drop]; omega)
      obtain ⟨L, hL1⟩ : ∃ L, L = lenF r := ⟨_, rfl⟩
      obtain ⟨S, hS⟩ : ∃ S, S = sumF r := ⟨_, rfl⟩
      obtain ⟨F, hF⟩ : ∃ F, F = frmF r := ⟨_, rfl⟩
      rw [← hL1] at HW HSO HFO HNX HDL h9 hL
      rw [← hS] at HSO HNX HNW
      rw [← hF] at HFO HNX
      have HL1 := hid hL1
      have HRN := hid hrn
      have hnr : nr ≤ 100000000 := by have := hp.len; omega
      have HVR := hid hvr
      have h9n : L + 9 ≤ nr := by omega
      clear hp c0 c1 f0 f1 hL1 hrn hS hF hpart hb9 hl9 h9 h4
      unfold frmA
      rw [hvr]
      clear hvr
      cases S with
      | false =>
        go_wp2_with fail
        refine (HW.out _ (Kept.refl _ _)).mono ?_
        rintro x w2 ⟨rfl, hk2⟩
        have HK := hid hk2
        clear hk2
        go_wp2_with fail
        refine (HSO.out _ HK.out).mono ?_
        rintro x w3 ⟨rfl, hk3⟩
        have HK3 := hid (Same.trans HK.out hk3)
        obtain ⟨y0, y1, k0, k1⟩ := (HP.out.blk.kept HK3.out (fun f => f)).two
        clear hk3
        go_wp2_with fail
        go_step3
        have hw := (HP.out.same HK3.out).wrong (z := 181) (HNW.out trivial) (by decide)
        exact ⟨0, by omega, _, _, _, frm_us, .inl ⟨rfl, rfl, hw.1⟩⟩
      | true =>
        go_wp2_with fail
        refine (HW.out _ (Kept.refl _ _)).mono ?_
        rintro x w2 ⟨rfl, hk2⟩
        have HK := hid hk2
        clear hk2
        go_wp2_with fail
        refine (HSO.out _ HK.out).mono ?_
        rintro x w3 ⟨rfl, hk3⟩
        have HK3 := hid (Same.trans HK.out hk3)
        clear hk3
        go_wp2_with fail
        refine (HW.out _ HK3.out).mono ?_
        rintro x w4 ⟨rfl, hk4⟩
        have HK4 := hid (Same.trans HK3.out hk4)
        clear hk4
        go_wp2_with fail
        refine (HFO.out _ HK4.out).mono ?_
        rintro x w5 ⟨rfl, hk5⟩
        have HK5 := hid (Same.trans HK4.out hk5)
        have HP6 : Hid (Ps w d (.slice a0 nq n0) (q ++ bs) vi fs q2 e (w5.alloc (.cells #[.int .i64 F.k, .string F.s] 23)) vo vr gs r) := hid (HP.out.same (Same.trans HK5.out ((Kept.refl _ _).alloc _)))
        clear hk5
        go_wp2_with (at_builtin; refine wpList_append_12 _ fmE 2 fmE_ok (by decide) w.heap.size 36 23 (.agg #[.int .i64 0, .string ⟨#[]⟩]) 24 Try.underlying36 Try.infoFm rfl (by decide) rfl (.tmp 64) (.tmp 70) rfl vo gs rfl HP6.out.out (some ⟨w5.heap.size, 0, none⟩) 1 1 [F] rfl rfl (fun ad e => by injection e with e; subst e; exact cellsAt_fm w5 F) (fun e => by cases e) HMA.out HP6.out.kept.size ?_)
        intro vo' w7 hr7 hg7
        have HP7 : Hid (∀ a', a' = (if cr = L + 9 then some ⟨br, or', none⟩ else some ⟨br, or' + (L + 9), none⟩) → Ps w d (.slice a0 nq n0) (q ++ bs) vi fs q2 e w7 vo' (.slice a' (nr - (L + 9)) (cr - (L + 9))) (gs ++ [F]) (r.drop (L + 9))) := hid (fun a' ha => HP6.out.push (HNX.out trivial) hr7 hg7 HVR.out (by rw [HL1.out]) ha)
        have HW7 : Calls Try.prog 28 #[.slice (some ⟨br, or', none⟩) nr cr] w7 fun e w' => e = .returned (.int .i64 ((L + 9 : Nat) : Int)) ∧ Same w7 w' := by
          have h10 := whole_any w7 vr _ r (HP6.out.srcG hg7) (fun a n c e => by rw [HVR.out] at e; injection e with _ e2 e3; omega) HP6.out.byt HP6.out.len
          rw [HVR.out, ← HL1.out] at h10
          exact h10
        clear hr7 hg7
        by_cases hcap : cr = L + 9
        · have HP8 := hid (HP7.out _ (if_pos hcap).symm)
          subst hcap
          go_wp2_with fail
          refine HW7.mono ?_
          rintro x w8 ⟨rfl, hk8⟩
          have HP9 := hid (HP8.out.same hk8)
          clear hk8 HW7
          go_wp2_with fail
          go_step3
          exact ⟨_, HDL.out, _, _, _, frm_us, .inr ⟨vi, _, _, HP9.out, .inl ⟨rfl, rfl⟩⟩⟩
        · have HP8 := hid (HP7.out _ (if_neg hcap).symm)
          go_wp2_with fail
          refine HW7.mono ?_
          rintro x w8 ⟨rfl, hk8⟩
          have HP9 := hid (HP8.out.same hk8)
          clear hk8 HW7
          go_wp2_with fail
          go_step3
          exact ⟨_, HDL.out, _, _, _, frm_us, .inr ⟨vi, _, _, HP9.out, .inl ⟨rfl, rfl⟩⟩⟩
    · refine ⟨_, rfl, ?_⟩
      obtain ⟨x0, x1, g0, g1⟩ := hp.blk.two
      obtain ⟨ar, nr, cr, hvr, hrc⟩ := hp.room
      obtain ⟨ao, co, hvo, _⟩ := hp.out.shape
      obtain ⟨hgs, hq, he⟩ := hp.rest hz
      have HGS := hid hgs
      have HQ := hid hq
      have HZ := hid hz
      subst he
      have HP := hid hp
      obtain ⟨m, hm⟩ : ∃ m, m = gs.length := ⟨_, rfl⟩
      rw [← hm] at hvo
      have HVR := hid hvr
      have HVO := hid hvo
      have HM := hid hm
      have hbeg := hp.beg
      unfold frmA
      rcases hbeg with ⟨hg0, hvi, hr0⟩ | ⟨hg1, ad, na, ca, hva⟩
      · have hm0 : m = 0 := by rw [hm, hg0]; rfl
        subst hm0
        have HVI := hid hvi
        have HR0 := hid hr0
        rw [hvr, hvo]
        clear hp c0 c1 f0 f1 hm hgs hq hvr hvo hvi hr0 hg0 hz
        go_wp2_with fail
        rw [Exit.jumps_ret]
        go_ret2
        have h9 := HP.out.fed (v' := .slice ar nr cr) HZ.out (by
          rw [← HVR.out, HVI.out, HR0.out]
          exact HP.out.row) (by rw [← HVR.out, HVI.out]; exact HP.out.ne) (by rw [← HVR.out, HVI.out]; exact HP.out.old)
        rw [HVO.out] at h9
        exact h9
      · have hm0 : 0 < m := by
          rw [hm]
          rcases Nat.eq_zero_or_pos gs.length with e | e
          · exact absurd (List.eq_nil_of_length_eq_zero e) hg1
          · exact e
        obtain rfl : ar = some ad := by rw [hva] at hvr; injection hvr with e _ _; exact e.symm
        have HCL : Hid (Calls Try.prog 31 #[.slice (some ad) nr cr] wr fun e w' => ∃ v', e = .returned v' ∧ Fresh wr w' v' r) := hid (by
          refine clone_any wr ad nr cr (fun k => vi.ownBlock = some k) r ?_ hp.len
          rw [← hvr]
          exact hp.src)
        rw [hvr, hvo]
        clear hp c0 c1 f0 f1 hm hgs hq hvr hvo hg1 hz hva
        go_wp2_with fail
        refine HCL.out.mono ?_
        rintro x w2 ⟨v', rfl, hF⟩
        obtain ⟨a5, c5, hv5, _⟩ := hF.row.shape
        obtain ⟨n5, hn5⟩ : ∃ n, n = r.length := ⟨_, rfl⟩
        rw [← hn5] at hv5
        subst hv5
        clear hn5
        have HF := hid hF
        have HP2 := hid (HP.out.same hF.kept)
        obtain ⟨y0, y1, k0, k1⟩ := HP2.out.blk.two
        clear hF HCL
        go_wp2_with fail
        rw [Exit.jumps_ret]
        go_ret2
        have hdl := World.block_lt_of_cell? wr _ (HP.out.blk.cell 0)
        have h9 := HP2.out.fed (v' := .slice a5 n5 c5) HZ.out HF.out.row (fun e => by have := HF.out.new d e; simp only at hdl; omega) (fun k e => .inr (Nat.le_trans HP.out.kept.size (HF.out.new k e)))
        rw [HVO.out] at h9
        exact h9
  case first =>
    intro pass
    have HPASS := hid pass
    clear pass
    go_wp2_with (at_builtin; refine wpList_append_any _ rfl (.tmp 20) (.tmp 21) rfl (.slice a0 nq n0) q rfl HR.out I (.slice ab nb cb) bs rfl HNIL.out HS.out (by have := HL.out; omega) ?_)
    intro vi w1 hr1 hg1 ho1
    have HR1 := hid hr1
    have HG1 := hid hg1
    have HO1 := hid ho1
    clear hr1 hg1 ho1
    go_wp2_with fail
    go_step3
    refine (‹∀ (a : Act) (w : World), Code.wp _ _ _ a w → _› _ _ ?_)
    refine fall_in HPASS.out rfl (m := 4 * (q ++ bs).length + 3) ⟨_, _, _, frm_us, .inr ⟨vi, [], q ++ bs, ?_, .inl ⟨rfl, rfl⟩⟩⟩
    have hk1 : Kept (Fd d (.slice a0 nq n0)) w w1 := (Kept.refl _ w).grown HG1.out (fun k e => .inl (.inr e))
    have hlt := World.block_lt_of_cell? w _ (HB.out.cell 0)
    have hne : vi.ownBlock ≠ some d := by
      rcases HO1.out with e | e
      · rw [e]; exact HNE.out
      · rw [e]; intro e2; injection e2 with e2; simp only at hlt; omega
    refine ⟨hk1, ?_, RowC.nil, HR1.out, Src.ofRow HR1.out, ?_, ?_, hne, HBY.out, by rw [List.length_append]; exact HL.out, .inl ⟨rfl, rfl, rfl⟩, fs, rfl, HRD.out⟩
    · exact HB.out.kept ((Kept.refl (fun k => (Value.slice a0 nq n0).ownBlock = some k) w).grown HG1.out (fun k e => .inl e)) HNE.out
    · obtain ⟨a, c, e, _⟩ := HR1.out.shape
      exact ⟨a, _, c, e, Row.cap18 HR1.out _ _ _ e⟩
    · intro k e
      rcases HO1.out with e1 | e1
      · exact .inl (.inr (e1.symm.trans e))
      · exact .inr (by rw [e1] at e; injection e with e; omega)

set_option maxRecDepth 100000 in
set_option maxHeartbeats 1000000 in
theorem dfeed_bad (w : World) (d : Nat) (v : Value) (q : List Nat) (e : Int) (h : Dc w d v q e) (he : e ≠ 0) (bv : Value) :
    Calls Try.prog 16 #[.pointer (some ⟨d, 0, none⟩), bv] w fun x w' => FedA w d v [] [] e x w' := by
  obtain ⟨c0, c1, f0, f1⟩ := h.blk.two
  have hne : (e != 0) = true := by simp [bne, he]
  have H := hid h
  clear h
  go_enter Try.func16, Try.ntmps16
  go_wp2_with fail
  refine wp_scope_many (fun l m a w' => l = 0 ∧ m = 0 ∧ w' = w ∧ ∃ vr us, a = frmA (.pointer (some ⟨d, 0, none⟩)) bv (.slice none 0 0) vr us) ?pass ?first
  case pass =>
    rintro l m a wr ⟨rfl, rfl, rfl, vr, us, rfl⟩
    refine ⟨_, rfl, ?_⟩
    unfold frmA
    obtain ⟨W2, hW2⟩ : ∃ W, W = wr.setCell ⟨d, 0, none⟩ (.slice none 0 0) := ⟨_, rfl⟩
    have HB2 : Hid (Blk W2 d #[.slice none 0 0, .int .i64 e] 56) := hid (by
      rw [hW2]
      have h9 := H.out.blk.set 0 (.slice none 0 0)
      simpa using h9)
    have HK2 : Hid (Kept (Fd d v) wr W2) := hid (by rw [hW2]; exact (Kept.refl _ _).setCell _ _ (.inl (.inl rfl)))
    have y1 := HB2.out.two.2.1
    go_upto_region 24 with fail
    rw [← hW2]
    clear hW2
    go_region_held3 (fun w' => w'.cell? ⟨d, 1, none⟩ = some (.int .i64 e)) (go_keep) (fail)
    go_wp2_with fail
    rw [Exit.jumps_ret]
    go_ret2
    refine ⟨.slice none 0 0, .slice none 0 0, rfl, RowC.nil, ?_, HK2.out.drew, ?_⟩
    · rw [if_neg he]
      exact ⟨HB2.out, World.ownsRow_nil _ 0 5 1, (fun e => by cases e), (fun b hb => by simp at hb), fun h0 => absurd h0 he, fun _ => rfl⟩
    · intro k hk
      rcases hk with rfl | hk
      · exact .inl (.inl rfl)
      · cases hk
  case first =>
    intro pass
    clear pass
    go_wp2_with fail
    go_step3
    exact ⟨0, rfl, rfl, rfl, _, _, frm_us⟩

/-- Feed of any decoder. -/
theorem dfeed_any {w : World} {d : Nat} {v : Value} {q : List Nat} {c : Int} (h : Dc w d v q c) {I : Nat → Prop} {bv : Value} {bs : List Nat} (hb : Src w I bv bs) (hI : ∀ k, I k → ¬ Fd d v k) (hbl : ∀ b ∈ bs, b < 256) (hnil : ∀ n c, bv = .slice none n c → n = 0 ∧ c = 0) (hlen : bs.length ≤ 90000000)
    {fs : List Fm} {q2 : List Nat} {e : Int} (hr : c = 0 → Rd (q ++ bs) fs q2 e) (hc : c ≠ 0 → fs = [] ∧ e = c) :
    Calls Try.prog 16 #[.pointer (some ⟨d, 0, none⟩), bv] w fun x w' => FedA w d v fs q2 e x w' := by
  by_cases h0 : c = 0
  · subst h0
    exact dfeed_zero w d v q h I bv bs hb hI hbl hnil hlen fs q2 e (hr rfl)
  · obtain ⟨rfl, rfl⟩ := hc h0
    refine (dfeed_bad w d v q e h h0 bv).mono ?_
    rintro x w' ⟨vo, v', h1, h2, h3, h4, h5⟩
    rw [if_neg h0] at h3
    exact ⟨vo, v', h1, h2, by rw [if_neg h0]; exact h3, h4, h5⟩

end Go.Proofs.Ytjjhjbmmhkcapaa
