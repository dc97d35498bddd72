import Derived.Test.YtkhagfgineifhaaGreatDoorZpY
import Derived.Test.YtkhagfgineifhaaGreatDoorZpQ
set_option maxHeartbeats 1000000
set_option maxRecDepth 100000
namespace Go.Proofs.YtkhagfgineifhaaGreatDoor
open Go.RowKit
theorem JJ(p:Nat->Bool)(n i:Nat):(f8 p n i<n+i)↔∃j,i<=j/\j<n+i/\p j=true:=by
 induction n generalizing i with
 | zero=>simp[f8];intro j h1 h2;omega
 | succ n ih=>
  unfold f8;by_cases h:p i=true
  ·rw[if_pos h];exact⟨λ_=>⟨i,Nat.le_refl _,by omega,h⟩,λ_=>by omega⟩
  ·rw[if_neg h,show n+1+i=n+(i+1)by omega,ih (i+1)];constructor
   ·rintro⟨j,h1,h2,h3⟩;exact⟨j,by omega,h2,h3⟩
   ·rintro⟨j,h1,h2,h3⟩;refine⟨j,?_,h2,h3⟩;rcases Nat.lt_or_ge i j with h4 | h4
    ·omega
    ·exact absurd h3 (by rw[show j=i by omega];exact h)
def jK(M:Nat->Mk)(len:Nat):List (List Nat):=(List.range len).map (λj=>(M j).name)
theorem zZ(M:Nat->Mk)(len:Nat)(s:List Nat):decide (0<=I4 (λi=>decide ((M i).name=s)) len)=decide (s∈jK M len):=by
 have h:=JJ (λi=>decide ((M i).name=s)) len 0;have h2:s∈jK M len↔∃j,j<len/\(M j).name=s:=by simp[jK]
 unfold I4;by_cases h3:f8 (λi=>decide ((M i).name=s)) len 0<len
 ·rw[if_pos h3];obtain⟨j,_,h5,h6⟩:=h.1 h3;have:s∈jK M len:=h2.2 ⟨j,by omega,of_decide_eq_true h6⟩;simp[this]
 ·rw[if_neg h3];have:¬s∈jK M len:=λh9=>by
   obtain⟨j,h5,h6⟩:=h2.1 h9;exact h3 (h.2 ⟨j,Nat.zero_le _,by omega,decide_eq_true h6⟩)
  simp[this]
theorem Tryz.enters138:∀args w,(callFunc 73 args).run Tryz.prog w=.ok (.enter 73 args) w:=enters_of Tryz.func73 (by kernel_rfl) rfl
theorem rX(w:World)(a:Option Addr)(len cap:Nat)(M:Nat→Mk)(V:Nat→Value)(g:Nat)(m:Mk)(hs:Itms w a len M V)(hn:len≤10000000)(hg:LabBk w g m)(hb:∀b∈m.name,b<256)(hM:∀i,i<len→∀b∈(M i).name,b<256):
  Calls Tryz.prog 74 #[.slice a len cap,.func (.func 73) #[] #[.pointer (some ⟨g,0,none⟩)]] w λe w'=>e=.returned (.bool (decide (m.name∈jK M len)))/\Same w w':=by
 have H:=qb w a len cap M V 73 g (λi=>decide ((M i).name=m.name)) hs hn Tryz.enters138 (λi wx hi hk=>C7 wx (M i) m (V i) g ((hg.kept hk).cells.2.2.2.2) (hM i hi) hb);have HZ:=zZ M len m.name;clear hs hg hb hM;obtain⟨z,hz⟩:∃z,z=I4 (λi=>decide ((M i).name=m.name)) len:=⟨_,rfl⟩
 rw[<-hz]at H HZ;have HZ:Hid (decide (0<=z)=decide (m.name∈jK M len)):=HZ;clear hz;go_enter Tryz.func74,Tryz.ntmps74;go_wp2_with fail;refine H.mono ?_;rintro e w2 ⟨rfl,hk⟩;have HK:Hid (Same w w2):=hk;clear hk H;go_wp2_with fail;go_ret;exact⟨by rw[<-HZ.out];rfl,HK.out⟩
def LblA(w w':World)(n:Nat)(e:Ending):Prop:=(n=0->e=.returned (.tuple #[]))/\(n≠0->e=aG n)/\Same w w'
theorem LblA.ok{w w':World}{n:Nat}{e:Ending}(h:n=0)(he:e=.returned (.tuple #[]))(hk:Same w w'):LblA w w' n e:=⟨λ_=>he,λh9=>absurd h h9,hk⟩
theorem LblA.no{w w':World}{n k:Nat}{e:Ending}(h:n=k)(hk0:k≠0)(he:e=aG k)(hk:Same w w'):LblA w w' n e:=⟨λh9=>absurd (h ▸ h9) hk0,λ_=>by rw[h];exact he,hk⟩
theorem qY(w:World)(m:Mk)(a:Option Addr)(len cap:Nat)(M:Nat→Mk)(V:Nat→Value)(hs:Itms w a len M V)(hn:len≤10000000)(hb:∀b∈m.name,b<256)(hM:∀i,i<len→∀b∈(M i).name,b<256)(hx:Mxl w):
  Calls Tryz.prog 44 #[.agg (lA m),.slice a len cap] w λe w'=>LblA w w' (dj m (jK M len)) e:=by
 obtain⟨W1,hW1⟩:∃W,W=w.alloc (.cells #[.int .u16 (m.way:Nat),.int .u32 (m.sum:Nat),.int .u32 (m.packed:Nat),.int .u32 (m.size:Nat),.string (bH m.name)] 49):=⟨_,rfl⟩
 obtain⟨mb,lu⟩:∃b,b=w.heap.size:=⟨_,rfl⟩
 have HK1:Hid (Same w W1):=hid (by rw[hW1];exact(Kept.refl _ w).alloc _);have HL1:Hid (LabBk W1 mb m):=hid (by rw[hW1,lu];exact Blk.new w _ _);have HNM:=mE W1 (bH m.name) (hx.kept HK1.out (λf=>f));rw[zE m.name hb]at HNM;have HCT:=λwx (hk:Same w wx) (hl:LabBk wx mb m)=>rX wx a len cap M V mb m (hs.kept hk) hn hl hb hM
 have HCT:Hid _:=hid HCT;obtain⟨N,hN⟩:∃N,N=jK M len:=⟨_,rfl⟩
 rw[<-hN]at HCT ⊢;clear hs hn hb hM hx hN;unfold lA;go_enter Tryz.func44,Tryz.ntmps44;go_wp2_with fail;rw[<-hW1,<-lu];clear hW1 lu;cases hnb:eZ m.name with
 | false=>
  rw[hnb]at HNM;have HE:Hid (dj m N=80):=hid (by unfold dj;rw[if_pos (.inl hnb)]);clear hnb;refine HNM.mono ?_;rintro e w2 ⟨rfl,hk2⟩;have HK2:Hid (Same w w2):=hid (Same.trans HK1.out hk2);have HO:=aL w2 80;clear hk2 HNM;go_wp2_with fail;refine HO.mono ?_;rintro e w3 ⟨rfl,hw3⟩;subst hw3;clear HO;unfold aG;go_wp2_with fail;exact⟨rfl,LblA.no HE.out (by decide) rfl HK2.out⟩
 | true=>
  rw[hnb]at HNM;refine HNM.mono ?_;rintro e w2 ⟨rfl,hk2⟩;have HK2:Hid (Same w w2):=hid (Same.trans HK1.out hk2);have HL2:Hid (LabBk w2 mb m):=hid (HL1.out.kept hk2);have HC2:=HCT.out w2 HK2.out HL2.out;clear hk2 HNM HL1;by_cases ew:m.name∈N
  ·have HE:Hid (dj m N=80):=hid (by unfold dj;rw[if_pos (.inr ew)]);rw[decide_eq_true ew]at HC2;clear ew hnb;go_wp2_with fail;refine HC2.mono ?_;rintro e w3 ⟨rfl,hk3⟩;have HK3:Hid (Same w w3):=hid (Same.trans HK2.out hk3);have HO:=aL w3 80;clear hk3 HC2;go_wp2_with fail;refine HO.mono ?_;rintro e w4 ⟨rfl,hw4⟩;subst hw4;clear HO;unfold aG;go_wp2_with fail;exact⟨rfl,LblA.no HE.out (by decide) rfl HK3.out⟩
  ·have HE0:Hid (¬(eZ m.name=false\/m.name∈N)):=hid (by rw[hnb];simp[ew]);rw[decide_eq_false ew]at HC2;clear ew hnb;go_wp2_with fail;refine HC2.mono ?_;rintro e w3 ⟨rfl,hk3⟩;have HK3:Hid (Same w w3):=hid (Same.trans HK2.out hk3);obtain⟨c0,c1,c2,c3,c4⟩:=(HL2.out.kept hk3).cells;have HO:=bh w3 (.int .i64 80);clear hk3 HC2;go_wp2_with fail;refine HO.mono ?_;rintro e w4 ⟨rfl,hw4⟩;subst hw4;clear HO HCT;have HE1:=HE0.out;by_cases q0:m.way=0\/m.way=8
   ·have q0n:¬(m.way≠0/\m.way≠8):=(by omega);have wb:(((m.way:Int)==0) || ((m.way:Int)==8))=true:=by rcases q0 with h | h<;>simp[h]
    rcases q0 with q0 | q0
    ·have w0:((m.way:Int)==0)=true:=(by simp;omega);have w8:((m.way:Int)==8)=false:=(by simp;omega);clear wb;have HO:=bh w4 (.int .i64 82);go_wp2_with fail;refine HO.mono ?_;rintro e w5 ⟨rfl,jU⟩;subst jU;clear HO;by_cases q1:8192<m.size
     ·have HE:Hid (dj m N=87):=hid (by unfold dj;rw[if_neg HE1,if_neg q0n,if_pos (.inl q1)]);have s1:decide ((m.size:Int)<=8192)=false:=(by simp;omega);have R4:decide (m.size<=8192)=false:=(by simp;omega);clear q0n HE1;have HO:=aL w5 87;go_wp2_with fail;refine HO.mono ?_;rintro e w6 ⟨rfl,hw6⟩;subst hw6;clear HO;unfold aG;go_wp2_with fail;exact⟨rfl,LblA.no HE.out (by decide) rfl HK3.out⟩
     ·have s1:decide ((m.size:Int)<=8192)=true:=(by simp;omega);have R4:decide (m.size<=8192)=true:=(by simp;omega);by_cases q2:16384<m.packed
      ·have HE:Hid (dj m N=87):=hid (by unfold dj;rw[if_neg HE1,if_neg q0n,if_pos (.inr q2)]);have s2:decide ((m.packed:Int)<=16384)=false:=(by simp;omega);have RF:decide (m.packed<=16384)=false:=(by simp;omega);clear q0n HE1;have HO:=aL w5 87;go_wp2_with fail;refine HO.mono ?_;rintro e w6 ⟨rfl,hw6⟩;subst hw6;clear HO;unfold aG;go_wp2_with fail;exact⟨rfl,LblA.no HE.out (by decide) rfl HK3.out⟩
      ·have s2:decide ((m.packed:Int)<=16384)=true:=(by simp;omega);have RF:decide (m.packed<=16384)=true:=(by simp;omega);have q3:¬(8192<m.size\/16384<m.packed):=(by omega);have HO:=bh w5 (.int .i64 87);go_wp2_with fail;refine HO.mono ?_;rintro e w6 ⟨rfl,hw6⟩;subst hw6;clear HO;by_cases q4:m.packed=m.size
       ·have HE:Hid (dj m N=0):=hid (by unfold dj;rw[if_neg HE1,if_neg q0n,if_neg q3,if_neg (λh=>h.2 q4)]);have s4:((m.packed:Int)==(m.size:Int))=true:=(by simp;omega);clear q0n HE1 q3;have HO:=bh w6 (.int .i64 81);go_wp2_with fail;refine HO.mono ?_;rintro e w7 ⟨rfl,Cy⟩;subst Cy;clear HO;go_wp2_with fail;go_end0;exact LblA.ok HE.out rfl HK3.out
       ·have HE:Hid (dj m N=81):=hid (by unfold dj;rw[if_neg HE1,if_neg q0n,if_neg q3,if_pos ⟨by omega,q4⟩]);have s4:((m.packed:Int)==(m.size:Int))=false:=(by simp;omega);clear q0n HE1 q3;have HO:=aL w6 81;go_wp2_with fail;refine HO.mono ?_;rintro e w7 ⟨rfl,Cy⟩;subst Cy;clear HO;unfold aG;go_wp2_with fail;exact⟨rfl,LblA.no HE.out (by decide) rfl HK3.out⟩
    ·have w0:((m.way:Int)==0)=false:=(by simp;omega);have w8:((m.way:Int)==8)=true:=(by simp;omega);clear wb;have HO:=bh w4 (.int .i64 82);go_wp2_with fail;refine HO.mono ?_;rintro e w5 ⟨rfl,jU⟩;subst jU;clear HO;by_cases q1:8192<m.size
     ·have HE:Hid (dj m N=87):=hid (by unfold dj;rw[if_neg HE1,if_neg q0n,if_pos (.inl q1)]);have s1:decide ((m.size:Int)<=8192)=false:=(by simp;omega);have R4:decide (m.size<=8192)=false:=(by simp;omega);clear q0n HE1;have HO:=aL w5 87;go_wp2_with fail;refine HO.mono ?_;rintro e w6 ⟨rfl,hw6⟩;subst hw6;clear HO;unfold aG;go_wp2_with fail;exact⟨rfl,LblA.no HE.out (by decide) rfl HK3.out⟩
     ·have s1:decide ((m.size:Int)<=8192)=true:=(by simp;omega);have R4:decide (m.size<=8192)=true:=(by simp;omega);by_cases q2:16384<m.packed
      ·have HE:Hid (dj m N=87):=hid (by unfold dj;rw[if_neg HE1,if_neg q0n,if_pos (.inr q2)]);have s2:decide ((m.packed:Int)<=16384)=false:=(by simp;omega);have RF:decide (m.packed<=16384)=false:=(by simp;omega);clear q0n HE1;have HO:=aL w5 87;go_wp2_with fail;refine HO.mono ?_;rintro e w6 ⟨rfl,hw6⟩;subst hw6;clear HO;unfold aG;go_wp2_with fail;exact⟨rfl,LblA.no HE.out (by decide) rfl HK3.out⟩
      ·have s2:decide ((m.packed:Int)<=16384)=true:=(by simp;omega);have RF:decide (m.packed<=16384)=true:=(by simp;omega);have q3:¬(8192<m.size\/16384<m.packed):=(by omega);have HO:=bh w5 (.int .i64 87);go_wp2_with fail;refine HO.mono ?_;rintro e w6 ⟨rfl,hw6⟩;subst hw6;clear HO;have HE:Hid (dj m N=0):=hid (by unfold dj;rw[if_neg HE1,if_neg q0n,if_neg q3,if_neg (λh=>h.1 q0)]);clear q0n HE1 q3;have HO:=bh w6 (.int .i64 81);go_wp2_with fail;refine HO.mono ?_;rintro e w7 ⟨rfl,Cy⟩;subst Cy;clear HO;go_wp2_with fail;go_end0;exact LblA.ok HE.out rfl HK3.out
   ·have HE:Hid (dj m N=82):=hid (by unfold dj;rw[if_neg HE1,if_pos (by omega)]);have w0:((m.way:Int)==0)=false:=(by simp;omega);have w8:((m.way:Int)==8)=false:=(by simp;omega);clear HE1;have HO:=aL w4 82;go_wp2_with fail;refine HO.mono ?_;rintro e w5 ⟨rfl,jU⟩;subst jU;clear HO;unfold aG;go_wp2_with fail;exact⟨rfl,LblA.no HE.out (by decide) rfl HK3.out⟩
end Go.Proofs.YtkhagfgineifhaaGreatDoor
