import Derived.Test.YtggcbnhckcenmaaGreatDoorDfT
namespace Go.Proofs.YtggcbnhckcenmaaGreatDoor

theorem abc_find:findM [97,98,99]=[⟨97,0,0⟩,⟨98,0,0⟩,⟨99,0,0⟩]:=by decide +kernel

theorem abc_fix{x:List Nat}(h:PFix (findM [97,98,99]) x):x=[75,76,74,6,0]:=by
 rw[abc_find]at h
 refine packs_inj h.1 ?_ h.2 (by decide)
 exact⟨⟨6,by decide +kernel⟩,by decide +kernel⟩

theorem abc_dyn:40≤(dynB [⟨97,0,0⟩,⟨98,0,0⟩,⟨99,0,0⟩]).length:=by decide +kernel

theorem abc_def{y:List Nat}(h:PDef [97,98,99] y):y=[75,76,74,6,0]:=by
 obtain⟨x2,x3,hy,h2,h3⟩:=h
 obtain rfl:=abc_fix h2
 rw[abc_find]at h3
 have h4:=h3.1.1.len
 have h5:=abc_dyn
 subst hy
 have e1:bestL (storeB [97,98,99]) [75,76,74,6,0]=[75,76,74,6,0]:=by decide +kernel
 rw[e1]
 unfold bestL
 rw[if_neg (by simp;omega)]

end Go.Proofs.YtggcbnhckcenmaaGreatDoor
