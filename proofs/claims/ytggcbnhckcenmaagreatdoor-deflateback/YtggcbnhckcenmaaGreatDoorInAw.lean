import Derived.Test.YtggcbnhckcenmaaGreatDoorInPA
namespace Go.Proofs.YtggcbnhckcenmaaGreatDoor
open Go.RowKit

theorem lit_row(w:World)(bs:List Nat)(n:Nat)(hn:bs.length=n)(hm:n≤1000):Row (w.alloc (.cells (bs.map byteV).toArray 5)) (.slice (some ⟨w.heap.size,0,none⟩) n n) bs:=by
 refine⟨by simp,.inr ⟨w.heap.size,n,_,by rw[hn],Nat.zero_le _,Blk.new w _ _,by omega,by simp only[maxLen];omega,by simp[hn],?_⟩⟩
 rw[List.take_of_length_le (by simp)]

theorem InfP.is{w w':World}{cs:List Nat}{most:Nat}{x:Ending}{t0:Ps}(h:InfP w w' cs most x)(he:Ends (ofBytes cs) most ps0 t0 0):∃v',x=.returned (.tuple #[v',.int .i64 (((t0.c+7) / 8:Nat):Int),.int .i64 0])∧Row w' v' t0.out∧(∀k,v'.ownBlock=some k→w.heap.size≤k)∧Same w w':=by
 cases h with
 | done t v' he' hx hr hv hk=>
  obtain⟨rfl,_⟩:=he'.det he
  exact⟨v',hx,hr,hv,hk⟩
 | fail t er he' h0 hx hk=>exact absurd (he'.det he).2 h0

end Go.Proofs.YtggcbnhckcenmaaGreatDoor
