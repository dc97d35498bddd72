import Derived.Test.YtggcbnhckcenmaaGreatDoorInSy
namespace Go.Proofs.YtggcbnhckcenmaaGreatDoor
open Go.RowKit

theorem RX.err{w:World}{I G:Nat→Prop}{h:Nat}{v:Value}{ls:List Nat}{most:Nat}{s:S5}(r:RX w I G h v ls most s):w.cell? ⟨h,4,none⟩=some (.int .i64 (s.e:Nat))∧w.frozen? ⟨h,4,none⟩=false:=by
 obtain⟨c,vo,r⟩:=r
 have c4:=r.blk.cell 4
 simp at c4
 exact⟨c4,r.blk.frozen 4⟩

theorem RX.wrong{w:World}{I G:Nat→Prop}{h:Nat}{v:Value}{ls:List Nat}{most:Nat}{s:S5}(r:RX w I G h v ls most s)(x:Nat)(hx:x≠0):RX (w.setCell ⟨h,4,none⟩ (.int .i64 (x:Nat))) I G h v ls most {s with e:=x}∧KG G w (w.setCell ⟨h,4,none⟩ (.int .i64 (x:Nat))):=by
 obtain⟨c,vo,r⟩:=r
 have hk:Kept (·=h) w (w.setCell ⟨h,4,none⟩ (.int .i64 (x:Nat))):=(Kept.refl (·=h) w).setCell ⟨h,4,none⟩ _ (.inl rfl)
 have hb:=r.blk.set 4 (.int .i64 (x:Nat))
 simp at hb
 exact⟨⟨c,vo,r.turn hk hb (fun e=>absurd e hx) r.le⟩,r.kg hk⟩

theorem ly_e(most:Nat)(s:S5)(b:Nat):(ly most s b).c=s.c:=by
 unfold ly;split
 ·rfl
 ·split<;>rfl

end Go.Proofs.YtggcbnhckcenmaaGreatDoor
