/-
  The law's awake: the document's examples hold.
-/
import Derived.Test.YtjebfekkaohimaaMtD
import Derived.Test.YtjebfekkaohimaaMtI
import Derived.Test.YtjebfekkaohimaaMtJ
import Derived.Laws.BytesArg
import Derived.Laws.StructEq
import Derived.Lib.SlBytesConst
namespace Go.Proofs.Ytjebfekkaohimaa
open Go.RowKit

theorem mcell_mark (w : World) (C : Array Value) (t : TypeId) (fr : Nat × Nat) (j : Nat) : (w.alloc (.cells C t fr)).cell? ⟨w.heap.size, j, none⟩ = C[j]? := by
  have : (w.alloc (.cells C t fr)).heap[w.heap.size]? = some (.cells C t fr) := by
    show (w.heap.push _)[w.heap.size]? = _
    simp
  simp only [World.cell?, this]
  simp

/-- A constant text's bytes. -/
theorem msrc_mark (w : World) (cs : List Nat) (n : Nat) (fr : Nat × Nat) (hn : cs.length = n) : Src (w.alloc (.cells (cs.map byteV).toArray 5 fr)) (fun k => k = w.heap.size) (.slice (some ⟨w.heap.size, 0, none⟩) n n) cs := by
  subst hn
  refine ⟨_, _, rfl, fun _ => ⟨_, _, rfl, rfl, fun j hj => ?_⟩⟩
  rw [Nat.zero_add, mcell_mark]
  simp [byteV, hj]

/-- A literal row of tokens. -/
theorem tlit_src (w : World) (ts : List TK) (n : Nat) (hn : ts.length = n) : TkSrc (w.alloc (.cells (ts.flatMap tkC).toArray 38)) (fun j => j = w.heap.size) (.slice (some ⟨w.heap.size, 0, none⟩) n n) ts := by
  refine ⟨_, n, by rw [hn], by omega, fun _ => ⟨w.heap.size, 0, rfl, rfl, fun j hj i hi => ?_⟩⟩
  rw [Nat.zero_add, (Blk.new w (ts.flatMap tkC).toArray 38).cell (j * 3 + i)]
  rw [List.getElem?_toArray, flat_get tkC_ok ts j i hj hi]

theorem find_one : findM [97, 98, 99, 97, 98, 99, 97, 98, 99] = [⟨97, 0, 0⟩, ⟨98, 0, 0⟩, ⟨99, 0, 0⟩, ⟨0, 6, 3⟩] := by decide +kernel
theorem find_two : findM [97, 98, 99, 121, 98, 99, 100, 101, 122, 97, 98, 99, 100, 101] = [⟨97, 0, 0⟩, ⟨98, 0, 0⟩, ⟨99, 0, 0⟩, ⟨121, 0, 0⟩, ⟨98, 0, 0⟩, ⟨99, 0, 0⟩, ⟨100, 0, 0⟩, ⟨101, 0, 0⟩, ⟨122, 0, 0⟩, ⟨97, 0, 0⟩, ⟨0, 4, 6⟩] := by decide +kernel

/-- A token of a row of one's own. -/
theorem TkRow.tok {B : Nat} {w : World} {g n cap : Nat} {ts : List TK} (h : TkRow B w (.slice (some ⟨g, 0, none⟩) n cap) ts) (j : Nat) (hj : j < ts.length) :
    w.cell? ⟨g, j * 3, none⟩ = some (.int .u8 (ts[j].lit : Nat)) ∧ w.cell? ⟨g, j * 3 + 1, none⟩ = some (.int .i64 ts[j].len) ∧ w.cell? ⟨g, j * 3 + 2, none⟩ = some (.int .i64 ts[j].dist) :=
  ⟨h.cell tkC_ok j 0 hj (by decide), h.cell tkC_ok j 1 hj (by decide), h.cell tkC_ok j 2 hj (by decide)⟩

set_option maxRecDepth 100000 in
set_option maxHeartbeats 4000000 in
theorem mawake_any (w : World) : Calls Try.prog 9 #[] w fun x w' => x = .returned (.bool true) ∧ Same w w' := by
  have H1 := mfind_any _ _ _ _ (msrc_mark w [97, 98, 99, 97, 98, 99, 97, 98, 99] 9 (9, 10) rfl) (by decide) (by decide)
  rw [find_one] at H1
  have kc := fun (w : World) (C : Array Value) (n c : Nat) => Lib.run_convert_bytes_const (P := Try.prog) w 25 5 C n c Try.underlying25 Try.underlying5
  go_enter Try.func9, Try.ntmps9
  go_wp2_with fail
  refine H1.mono ?_
  rintro x w1 ⟨v1, rfl, hr1, hk1⟩
  have HK1 : Hid (Same w w1) := hid (Same.trans ((Kept.refl _ w).alloc _) hk1)
  have HR1 := hid hr1
  obtain ⟨a1, c1, rfl, hsh1, _⟩ := hr1.shape
  obtain ⟨g1, rfl⟩ := hsh1 (by decide)
  have H2 := mfind_any _ _ _ _ (msrc_mark w1 [97, 98, 99, 121, 98, 99, 100, 101, 122, 97, 98, 99, 100, 101] 14 (14, 15) rfl) (by decide) (by decide)
  rw [find_two] at H2
  clear hr1 hk1 hsh1 H1
  go_wp2_with fail
  refine H2.mono ?_
  rintro x w2 ⟨v2, rfl, hr2, hk2⟩
  have hk12 : Same w1 w2 := Same.trans ((Kept.refl _ w1).alloc _) hk2
  have HK2 : Hid (Same w w2) := hid (Same.trans HK1.out hk12)
  have HR12 := hid (RowC.kept HR1.out hk12 (fun _ _ f => f))
  have HR2 := hid hr2
  obtain ⟨a2, c2, rfl, hsh2, _⟩ := hr2.shape
  obtain ⟨g2, rfl⟩ := hsh2 (by decide)
  have H3 := mexp_any _ _ _ _ 4 (tlit_src w2 [⟨97, 0, 0⟩, ⟨0, 3, 1⟩] 2 rfl) (by decide) (by decide)
  clear hr2 hk2 hsh2 H2 HR1 hk12 kc
  go_wp2_with fail
  refine H3.mono ?_
  rintro x w3 ⟨v3, rfl, hf3⟩
  have hk23 : Same w2 w3 := Same.trans ((Kept.refl _ w2).alloc _) hf3.kept
  have HK3 : Hid (Same w w3) := hid (Same.trans HK2.out hk23)
  have HR13 := hid (RowC.kept HR12.out hk23 (fun _ _ f => f))
  have HR23 := hid (RowC.kept HR2.out hk23 (fun _ _ f => f))
  have HB3 : Hid (Row w3 v3 [97, 97, 97, 97]) := hid hf3.row
  obtain ⟨a3, c3, rfl, hsh3⟩ := HB3.out.shape
  obtain ⟨g3, rfl⟩ := hsh3 (by decide)
  have H4 := mexp_any _ _ _ _ 4 (tlit_src w3 [⟨0, 3, 1⟩] 1 rfl) (by decide) (by decide)
  clear hf3 hk23 hsh3 H3 HR12 HR2
  go_wp2_with fail
  refine H4.mono ?_
  rintro x w4 ⟨rfl, hk4⟩
  have hk34 : Same w3 w4 := Same.trans ((Kept.refl _ w3).alloc _) hk4
  have HK4 : Hid (Same w w4) := hid (Same.trans HK3.out hk34)
  have HR14 := hid (RowC.kept HR13.out hk34 (fun _ _ f => f))
  have HR24 := hid (RowC.kept HR23.out hk34 (fun _ _ f => f))
  have HB4 := hid (HB3.out.kept hk34 (fun _ _ f => f))
  have H5 := mcost_any _ _ _ _ (tlit_src w4 [⟨97, 0, 0⟩, ⟨0, 3, 1⟩] 2 rfl) (by decide)
  rw [show cosA [⟨97, 0, 0⟩, ⟨0, 3, 1⟩] (measT 16384 [⟨97, 0, 0⟩, ⟨0, 3, 1⟩] 0) = 20 by decide +kernel, show errT (measT 16384 [⟨97, 0, 0⟩, ⟨0, 3, 1⟩] 0) = 0 by decide +kernel] at H5
  clear hk34 hk4 H4 HR13 HR23 HB3
  go_wp2_with fail
  refine H5.mono ?_
  rintro x w5 ⟨rfl, hk5⟩
  have hk45 : Same w4 w5 := Same.trans ((Kept.refl _ w4).alloc _) hk5
  have HK5 : Hid (Same w w5) := hid (Same.trans HK4.out hk45)
  have hr1 := RowC.kept HR14.out hk45 (fun _ _ f => f)
  have hr2 := RowC.kept HR24.out hk45 (fun _ _ f => f)
  have hb5 := HB4.out.kept hk45 (fun _ _ f => f)
  have t10 : w5.cell? ⟨g1, 9, none⟩ = some (.int .u8 0) := (TkRow.tok hr1 3 (by decide)).1
  have t11 : w5.cell? ⟨g1, 10, none⟩ = some (.int .i64 6) := (TkRow.tok hr1 3 (by decide)).2.1
  have t12 : w5.cell? ⟨g1, 11, none⟩ = some (.int .i64 3) := (TkRow.tok hr1 3 (by decide)).2.2
  have t20 : w5.cell? ⟨g2, 27, none⟩ = some (.int .u8 97) := (TkRow.tok hr2 9 (by decide)).1
  have t21 : w5.cell? ⟨g2, 28, none⟩ = some (.int .i64 0) := (TkRow.tok hr2 9 (by decide)).2.1
  have t22 : w5.cell? ⟨g2, 29, none⟩ = some (.int .i64 0) := (TkRow.tok hr2 9 (by decide)).2.2
  have t30 : w5.cell? ⟨g2, 30, none⟩ = some (.int .u8 0) := (TkRow.tok hr2 10 (by decide)).1
  have t31 : w5.cell? ⟨g2, 31, none⟩ = some (.int .i64 4) := (TkRow.tok hr2 10 (by decide)).2.1
  have t32 : w5.cell? ⟨g2, 32, none⟩ = some (.int .i64 6) := (TkRow.tok hr2 10 (by decide)).2.2
  have gs := run_convert_bytes_arg (P := Try.prog) w5 25 5 Try.underlying25 Try.underlying5 g3 0 4 c3 [97, 97, 97, 97] rfl (fun i hi => by
    rw [Nat.zero_add, hb5.cell i hi]
    match i, hi with
    | 0, _ => rfl
    | 1, _ => rfl
    | 2, _ => rfl
    | 3, _ => rfl) 9 Try.underlying9
  rw [show strOfNums [97, 97, 97, 97] = ⟨#[97, 97, 97, 97]⟩ from rfl] at gs
  have H6 := mcheck_any _ _ _ _ (tlit_src w5 [⟨0, 2, 0⟩] 1 rfl) (by decide)
  rw [show errT (measT 16384 [⟨0, 2, 0⟩] 0) = 60 by decide +kernel] at H6
  clear hk45 hk5 H5 HR14 HR24 HB4 hr1 hr2 hb5
  go_wp2_with fail
  refine H6.mono ?_
  rintro x w6 ⟨rfl, hk6⟩
  have HK6 : Hid (Same w w6) := hid (Same.trans HK5.out (Same.trans ((Kept.refl _ w5).alloc _) hk6))
  clear hk6 H6
  go_wp2_with fail
  go_ret
  exact ⟨rfl, HK6.out⟩

end Go.Proofs.Ytjebfekkaohimaa
