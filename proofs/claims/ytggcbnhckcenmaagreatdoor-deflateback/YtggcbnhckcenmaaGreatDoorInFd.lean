import Derived.Test.YtggcbnhckcenmaaGreatDoorInPz
namespace Go.Proofs.YtggcbnhckcenmaaGreatDoor
open Go.RowKit

set_option maxRecDepth 100000 in
set_option maxHeartbeats 2000000 in
theorem pfeed_done(w:World)(ob:Nat)(va:Value)(bs:List Nat)(hs:Sm w ob 0 (.slice none 0 0) (.pointer none) va 0 0)(ha:Row w va bs)(hne:va.ownBlock≠some ob)(v:Value)(I:Nat→Prop)(cs:List Nat)(hv:Src w I v cs)(hnil:∀n c,v=.slice none n c→n=0∧c=0)(hlen:bs.length+cs.length≤2000000):
  Calls Tryz.prog 29 #[.pointer (some ⟨ob,0,none⟩),v] w fun x w'=>x=.returned (.tuple #[.slice none 0 0,.int .i64 0])∧∃va',Sm w' ob 0 (.slice none 0 0) (.pointer none) va' 0 0∧Row w' va' (bs++cs)∧va'.ownBlock≠some ob∧(va'.ownBlock=va.ownBlock∨va'.ownBlock=some w.heap.size)∧Kept (fun j=>j=ob∨va.ownBlock=some j) w w':=by
 obtain⟨aa,capa,hva,_⟩:=ha.shape
 have HD:=pdone_any w ob 0 _ _ va 0 0 hs
 have HS:Hid (Sm w ob 0 (.slice none 0 0) (.pointer none) va 0 0):=hs
 have HA:Hid (Row w va bs):=ha
 have HV:Hid (Src w I v cs):=hv
 have HNIL:Hid (∀n c,v=.slice none n c→n=0∧c=0):=hnil
 have HLB:Hid (bs.length+cs.length≤1000000000000):=hid (by omega)
 have HNE:Hid (va.ownBlock≠some ob):=hne
 have HOB:Hid (ob<w.heap.size):=hid hs.lt
 obtain⟨LB,hLB⟩:∃L,L=bs.length:=⟨_,rfl⟩
 rw[←hLB]at hva
 subst hva
 obtain⟨av,cv,hvv,_⟩:=id hv
 generalize cs.length=nv at hvv
 subst hvv
 clear hs ha hv hnil hlen hne hLB
 go_enter Tryz.func29,Tryz.ntmps29
 go_wp2_with fail
 refine HD.mono ?_
 rintro x w1 ⟨rfl,m1,hw1⟩
 have HK1:Hid (Same w w1):=hid (by rw[hw1];exact(Kept.refl _ w).drewN m1)
 have HSZ1:Hid (w1.heap.size=w.heap.size):=hid (by rw[hw1];rfl)
 have HS1:Hid (Sm w1 ob 0 (.slice none 0 0) (.pointer none) (.slice aa LB capa) 0 0):=hid (HS.out.kept HK1.out (fun f=>f))
 have b3:w1.cell? ⟨ob,3,none⟩=some (.slice aa LB capa):=HS1.out.cell 3
 have HROW1:Hid (Row w1 (.slice aa LB capa) bs):=hid (HA.out.kept HK1.out (fun _ _ f=>f))
 have HV1:Hid (Src w1 I (.slice av nv cv) cs):=hid (HV.out.kept HK1.out (fun _ _ _ f=>f))
 clear hw1 HD HS HA HV
 simp only[show((0:Nat)==0)=true from by decide]
 go_wp2_with (at_builtin;refine wpList_append_any _ rfl (.tmp 19) (.tmp 20) rfl (.slice aa LB capa) bs rfl HROW1.out I (.slice av nv cv) cs rfl HNIL.out HV1.out HLB.out ?_)
 intro v2 w2 hr2 hg2 ho2
 have hk12:Kept (fun j=>(Value.slice aa LB capa).ownBlock=some j) w1 w2:=(Kept.refl _ w1).grown hg2 (fun j e=>.inl e)
 have HSM2:Hid (Sm w2 ob 0 (.slice none 0 0) (.pointer none) (.slice aa LB capa) 0 0):=hid (HS1.out.kept hk12 (fun f=>HNE.out f))
 have d3:w2.cell? ⟨ob,3,none⟩=some (.slice aa LB capa):=HSM2.out.cell 3
 have z3:w2.frozen? ⟨ob,3,none⟩=false:=HSM2.out.frozen 3
 have HR2:Hid (Row w2 v2 (bs++cs)):=hr2
 have HK12:Hid (Kept (fun j=>(Value.slice aa LB capa).ownBlock=some j) w1 w2):=hk12
 have HO2:Hid (v2.ownBlock=(Value.slice aa LB capa).ownBlock∨v2.ownBlock=some w1.heap.size):=ho2
 obtain⟨a2,cp2,hv2,_⟩:=hr2.shape
 generalize (bs++cs).length=n2 at hv2
 subst hv2
 clear hr2 hg2 ho2 hk12 b3
 go_wp2_with fail
 go_ret2
 have hn2:(Value.slice a2 n2 cp2).ownBlock≠some ob:=fun e=>by
  rcases HO2.out with h | h
  ·exact HNE.out (h.symm.trans e)
  ·rw[h]at e;injection e with e;have:=HSZ1.out;have:=HOB.out;omega
 have hks:Kept (·=ob) w2 (w2.setCell ⟨ob,3,none⟩ (.slice a2 n2 cp2)):=(Kept.refl (·=ob) w2).setCell ⟨ob,3,none⟩ _ (.inl rfl)
 refine⟨rfl,.slice a2 n2 cp2,?_,HR2.out.kept hks (fun k e e2=>hn2 (by rw[←e2];exact e)),hn2,by rw[←HSZ1.out];exact HO2.out,?_⟩
 ·have h9:=HSM2.out.set 3 (.slice a2 n2 cp2)
  simp at h9
  exact h9
 ·exact Kept.trans (Kept.trans (H:=fun j=>j=ob∨(Value.slice aa LB capa).ownBlock=some j) HK1.out HK12.out (fun _ _ f=>f.elim) (fun _ _ f=>.inr f)) hks (fun _ _ f=>f) (fun _ _ f=>.inl f)

set_option maxRecDepth 100000 in
set_option maxHeartbeats 2000000 in
theorem pfeed_failed(w:World)(ob most:Nat)(vl bv va:Value)(gone er:Nat)(hs:Sm w ob most vl bv va gone er)(h0:er≠0)(h5:er≠55)(v:Value):
  Calls Tryz.prog 29 #[.pointer (some ⟨ob,0,none⟩),v] w fun x w'=>x=.returned (.tuple #[.slice none 0 0,.int .i64 (er:Nat)])∧Same w w':=by
 have HD:=pdone_any w ob most vl bv va gone er hs
 have HS:Hid (Sm w ob most vl bv va gone er):=hs
 have hd0:(er==0)=false:=by simp;omega
 have hd5:((er:Int) != 55)=true:=by simp;omega
 rw[hd0]at HD
 clear hs h0 h5 hd0
 go_enter Tryz.func29,Tryz.ntmps29
 go_wp2_with fail
 refine HD.mono ?_
 rintro x w1 ⟨rfl,m1,hw1⟩
 have HK1:Hid (Same w w1):=hid (by rw[hw1];exact(Kept.refl _ w).drewN m1)
 have b5:w1.cell? ⟨ob,5,none⟩=some (.int .i64 (er:Nat)):=HK1.out.cell (HS.out.cell 5) (fun f=>f)
 clear hw1 HD HS
 go_wp2_with fail
 go_quiet (fail)
 go_wp2_with fail
 go_ret2
 exact⟨rfl,HK1.out.drewN _⟩

end Go.Proofs.YtggcbnhckcenmaaGreatDoor
