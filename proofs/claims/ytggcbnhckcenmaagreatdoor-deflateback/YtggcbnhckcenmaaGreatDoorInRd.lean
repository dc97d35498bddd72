import Derived.Test.YtggcbnhckcenmaaGreatDoorInHm
import Derived.Test.YtggcbnhckcenmaaGreatDoorInPe
import Derived.Test.YtggcbnhckcenmaaGreatDoorOf
namespace Go.Proofs.YtggcbnhckcenmaaGreatDoor
open Go.RowKit
theorem SrcE.inn{α:Type}{enc:α→Value}{w:World}{I:Nat→Prop}{v:Value}{xs:List α}(h:SrcE enc w I v xs):SrcE enc w (fun k=>I k∧k<w.heap.size) v xs:=by
 obtain⟨ao,cap,h1,h2,h3⟩:=h
 refine⟨ao,cap,h1,h2,fun hne=>?_⟩
 obtain⟨b,o,h4,h5,h6⟩:=h3 hne
 have hpos:0<xs.length:=by cases xs with | nil=>exact absurd rfl hne | cons _ _=>simp
 exact⟨b,o,h4,⟨h5,World.block_lt_of_cell? w _ (h6 0 hpos)⟩,h6⟩

theorem fix_lst:fixL.length≤288∧(∀n∈fixL,n≤15)∧measure fixL≤32768∧fixD.length≤288∧(∀n∈fixD,n≤15)∧measure fixD≤32768:=by
 refine⟨by decide +kernel,by decide +kernel,by decide +kernel,by decide +kernel,by decide +kernel,by decide +kernel⟩

theorem RS.out_lt{w:World}{I G:Nat→Prop}{h:Nat}{v:Value}{ls:List Nat}{most:Nat}{s:S5}{c:Nat}{vo:Value}(r:RS w I G h v ls most s c vo):∀k,vo.ownBlock=some k→k<w.heap.size:=fun _ e=>r.row.lt e

structure ReadR(w w':World)(h:Nat)(vb:Value)(c:Nat)(vo:Value)(most:Nat)(ls:List Nat)(s:S5):Prop where
 blk:RdB w' h vb c vo most s.e
 row:Row w' vo s.out
 pl:s.e=0→c=s.c
 le:c≤ls.length
 ol:s.out.length≤most
 by':∀b∈s.out,b<256
 same:Same w w'
 hnew:w.heap.size≤h
 onew:∀k,vo.ownBlock=some k→w.heap.size≤k
 ne:vo.ownBlock≠some h

end Go.Proofs.YtggcbnhckcenmaaGreatDoor
