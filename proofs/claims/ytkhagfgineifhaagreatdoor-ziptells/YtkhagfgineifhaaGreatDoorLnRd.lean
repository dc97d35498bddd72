import Derived.Test.YtkhagfgineifhaaGreatDoorLnTh
set_option maxHeartbeats 2000000
set_option maxRecDepth 100000
namespace Go.Proofs.YtkhagfgineifhaaGreatDoor
open Go.RowKit
def LX(w w':World)(p:Nat)(s:Value)(bs:List Nat)(c:Nat)(e:Ending):Except Nat ((List Nat×List Nat)×Nat)->Prop
 | .error er=>e=.returned (.tuple #[.slice none 0 0,.slice none 0 0,.int .i64 (er:Nat)])/\er≠0/\St w' p s bs c
 | .ok (x,n)=>(∃va vb,e=.returned (.tuple #[va,vb,.int .i64 0])/\NRow w.heap.size w' va x.1/\NRow w.heap.size w' vb x.2)/\c+n<=8*bs.length/\St w' p s bs (c+n)
theorem DW(w:World)(p c:Nat)(s:Value)(bs:List Nat)(hs:St w p s bs c)(hc:c≤8*bs.length)(ag:bs.length≤100000000)(hT:Tab w)(Ij:p≠0):
  Calls Tryz.prog 190 #[.pointer (some ⟨p,0,none⟩)] w λe w'=>LX w w' p s bs c e (b8 (ae bs) c)/\Kept (·=p) w w':=by
 have HG:=cU p c s bs w hs;have HH:=DZ w p c s bs hs hc ag hT Ij;clear hs hT;go_enter Tryz.func190,Tryz.ntmps190;cases hrf:b8 (ae bs) c with
 | error er=>
  rw[hrf]at HH;clear hrf;go_wp2_with fail;refine HG.mono ?_;rintro e w1 ⟨rfl,hw1⟩;subst hw1;clear HG;go_wp2_with fail;refine HH.mono ?_;rintro e w2 ⟨⟨rfl,cE,c',fF,cS,hs2⟩,hk2⟩;have lL:((er:Int) != 0)=true:=(by simp;omega);have HER:Hid (er≠0):=cE;have HK2:Hid (Kept (·=p) w1 w2):=hk2;have HG2:=cU p c' s bs w2 hs2;obtain⟨m,hm⟩:∃m,m=c'-c:=⟨_,rfl⟩
  have Tj:(c':Int)-(c:Int)=(m:Int):=(by omega);have YL:IntKind.i64.wrap (m:Int)=(m:Int):=(by rw[IntKind.wrap_i64];omega);have HBK:=om p c' m s bs w2 hs2 (by omega) (by omega);have LM:c'-m=c:=(by omega);rw[LM]at HBK;clear hs2 hk2 cE HH hm LM;go_wp2_with fail;refine HG2.mono ?_;rintro e w3 ⟨rfl,hw3⟩;subst hw3;clear HG2;go_wp2_with fail;refine HBK.mono ?_;rintro e w4 ⟨rfl,oF,hk4⟩;have HS4:Hid (St w4 p s bs c):=oF;have HK4:Hid (Kept (·=p) w1 w4):=hid (Kept.trans HK2.out hk4 (λ_ _ h=>h) (λ_ _ h=>h));clear oF hk4 HBK;go_wp2_with fail;refine bodyPost_ret (v:=.tuple #[.slice none 0 0,.slice none 0 0,.int .i64 (er:Nat)]) (by simp[results,Tryz.results190,go_sem]) rfl ?_;exact⟨⟨rfl,HER.out,HS4.out⟩,HK4.out⟩
 | ok r=>
  obtain⟨x,n⟩:=r;rw[hrf]at HH;clear hrf;go_wp2_with fail;refine HG.mono ?_;rintro e w1 ⟨rfl,hw1⟩;subst hw1;clear HG;go_wp2_with fail;refine HH.mono ?_;rintro e w2 ⟨⟨⟨va,vb,rfl,O5,Fd⟩,cS,hs2⟩,hk2⟩;have HRA:Hid (NRow w1.heap.size w2 va x.1):=O5;have HRB:Hid (NRow w1.heap.size w2 vb x.2):=Fd;have HS2:Hid (St w2 p s bs (c+n)):=hs2;have HK2:Hid (Kept (·=p) w1 w2):=hk2;clear O5 Fd hs2 hk2 HH;go_wp2_with fail;refine bodyPost_ret (v:=.tuple #[va,vb,.int .i64 0]) (by simp[results,Tryz.results190,go_sem]) rfl ?_;exact⟨⟨⟨va,vb,rfl,HRA.out,HRB.out⟩,cS,HS2.out⟩,HK2.out⟩
end Go.Proofs.YtkhagfgineifhaaGreatDoor
