/-
  Texts and lists of bytes.
-/
import Derived.Test.YtaefgnakdadgeaaProg
namespace Go.Proofs.Ytaefgnakdadgeaa

/-- Bytes as a text. -/
def txt (l : List Nat) : ByteArray := ⟨(l.map UInt8.ofNat).toArray⟩
def sb (s : ByteArray) : List Nat := s.data.toList.map UInt8.toNat

theorem sb_lt (s : ByteArray) : ∀ b ∈ sb s, b < 256 := by
  intro b hb
  obtain ⟨u, _, rfl⟩ := List.mem_map.1 hb
  exact u.toNat_lt

theorem sb_txt (l : List Nat) (h : ∀ b ∈ l, b < 256) : sb (txt l) = l := by
  unfold sb txt
  simp only [List.map_map]
  conv => rhs; rw [← List.map_id l]
  refine List.map_congr_left (fun b hb => ?_)
  have := h b hb
  simp only [Function.comp_apply, id_eq, UInt8.toNat_ofNat']
  omega

theorem txt_sb (s : ByteArray) : txt (sb s) = s := by
  unfold sb txt
  rw [List.map_map]
  have : (UInt8.ofNat ∘ UInt8.toNat) = id := by funext u; simp
  rw [this, List.map_id]

theorem txt_inj {a b : List Nat} (ha : ∀ x ∈ a, x < 256) (hb : ∀ x ∈ b, x < 256) (h : txt a = txt b) : a = b := by
  rw [← sb_txt a ha, ← sb_txt b hb, h]

theorem sb_inj {s t : ByteArray} (h : sb s = sb t) : s = t := by rw [← txt_sb s, ← txt_sb t, h]

theorem sb_size (s : ByteArray) : (sb s).length = s.size := by simp [sb]

theorem txt_size (l : List Nat) : (txt l).size = l.length := by simp [txt, ByteArray.size]

end Go.Proofs.Ytaefgnakdadgeaa
