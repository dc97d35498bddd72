import Derived.Test.YtggcbnhckcenmaaGreatDoorInPg
import Derived.Test.YtggcbnhckcenmaaGreatDoorLnRd
namespace Go.Proofs.YtggcbnhckcenmaaGreatDoor
open Go.RowKit

def BroA(w w':World)(p:Nat)(s:Value)(bs:List Nat)(e:Ending):Except Nat ((List Nat×List Nat)×Nat)→Prop
 | .error er=>e=.returned (.tuple #[.pointer none,.int .i64 (er:Nat)])∧er≠0∧∃c',c'≤8*bs.length∧St w' p s bs c'
 | .ok (x,c')=>(∃k,e=.returned (.tuple #[.pointer (some ⟨k,0,none⟩),.int .i64 0])∧CodesP w' k x.1 x.2 (Bet w.heap.size w'.heap.size))∧c'≤8*bs.length∧St w' p s bs c'

theorem BroA.err{w w':World}{p:Nat}{s:Value}{bs:List Nat}{e:Ending}{er:Nat}(h:BroA w w' p s bs e (.error er)):e=.returned (.tuple #[.pointer none,.int .i64 (er:Nat)])∧er≠0∧∃c',c'≤8*bs.length∧St w' p s bs c':=h
theorem BroA.ok{w w':World}{p:Nat}{s:Value}{bs:List Nat}{e:Ending}{x:List Nat×List Nat}{c':Nat}(h:BroA w w' p s bs e (.ok (x,c'))):(∃k,e=.returned (.tuple #[.pointer (some ⟨k,0,none⟩),.int .i64 0])∧CodesP w' k x.1 x.2 (Bet w.heap.size w'.heap.size))∧c'≤8*bs.length∧St w' p s bs c':=h

theorem hdP_err{ls:List Nat}{c e:Nat}(h:readF ls c=.error e):hdP ls c=.error (if e=10 then 55 else 52):=by
 unfold hdP head5;rw[h]
theorem hdP_bad{ls:List Nat}{c n:Nat}{l d:List Nat}(h:readF ls c=.ok ((l,d),n))(hb:l.getD 256 0=0∨chkN l≠0∨(usedB d=true∧chkN d≠0)):hdP ls c=.error 52:=by
 unfold hdP head5;rw[h];simp only;rw[if_pos hb]
theorem hdP_is{ls:List Nat}{c n:Nat}{l d:List Nat}(h:readF ls c=.ok ((l,d),n))(hb:¬(l.getD 256 0=0∨chkN l≠0∨(usedB d=true∧chkN d≠0))):hdP ls c=.ok ((l,d),c+n):=by
 unfold hdP head5;rw[h];simp only;rw[if_neg hb]

theorem usedB_mx(l:List Nat):usedB l=false↔mxL l=0:=by
 constructor
 ·intro h
  have:=mx_le l 0 (fun n hn=>by
   unfold usedB at h
   rw[List.any_eq_false]at h
   have:=h n hn
   simpa using this)
  omega
 ·intro h
  unfold usedB
  rw[List.any_eq_false]
  intro n hn
  have:=(foldl_max l 0).2.1 n hn
  unfold mxL at h
  simp;omega

theorem pnew_bad(w:World)(v:Value)(I:Nat→Prop)(ns:List Nat)(hs:SrcE natV w I v ns)(h0:0<ns.length)(hl:ns.length≤288)(h15:∀x∈ns,x≤15)(hb:chkN ns≠0):
  Calls Tryz.prog 111 #[v] w fun e w'=>e=.returned (.tuple #[.pointer none,.int .i64 (chkN ns:Nat)])∧Same w w':=by
 have e:=chk_list ns h0 hl h15
 have h:=new_bad w v I (ns.map (fun(n:Nat)=>(n:Int))) (hs.recode (by rw[List.map_map];rfl)) (by rw[List.length_map];omega) (by rw[e];exact hb)
 rw[e]at h
 exact h

set_option maxRecDepth 100000 in
set_option maxHeartbeats 4000000 in
theorem pbrought_any(w:World)(p c:Nat)(s:Value)(bs:List Nat)(hs:St w p s bs c)(hc:c≤8*bs.length)(hlen:bs.length≤100000000)(hT:Tab w)(hpg:p≠0):
  Calls Tryz.prog 115 #[.pointer (some ⟨p,0,none⟩)] w fun e w'=>BroA w w' p s bs e (hdP (ofBytes bs) c)∧Kept (·=p) w w':=by
 have HR:=lread_any w p c s bs hs hc hlen hT hpg
 have hpw:p<w.heap.size:=hs.lt
 have HP:Hid (∀j,Fp p s j→j<w.heap.size):=hid (fun j h=>hs.fp_lt h)
 clear hs hT
 cases hrf:readF (ofBytes bs) c with
 | error er=>
  rw[hrf]at HR
  have HE:Hid (hdP (ofBytes bs) c=.error (if er=10 then 55 else 52)):=hid (hdP_err hrf)
  have HC:Hid (c≤8*bs.length):=hc
  clear hrf hc
  by_cases h10:er=10
  ·have HE2:Hid (hdP (ofBytes bs) c=.error 55):=hid (by rw[HE.out,if_pos h10])
   subst h10
   clear HE
   go_enter Tryz.func115,Tryz.ntmps115
   go_wp2_with fail
   refine HR.mono ?_
   rintro e w2 ⟨⟨rfl,her,hs2⟩,hk2⟩
   have HS2:Hid (St w2 p s bs c):=hs2
   have HK2:Hid (Kept (·=p) w w2):=hk2
   clear hs2 hk2 her HR
   go_wp2_with fail
   go_ret2
   rw[HE2.out]
   exact⟨⟨rfl,by decide,c,HC.out,HS2.out⟩,HK2.out⟩
  ·have hed:((er:Int)==10)=false:=by simp;omega
   have HE2:Hid (hdP (ofBytes bs) c=.error 52):=hid (by rw[HE.out,if_neg h10])
   clear h10 HE
   go_enter Tryz.func115,Tryz.ntmps115
   go_wp2_with fail
   refine HR.mono ?_
   rintro e w2 ⟨⟨rfl,her,hs2⟩,hk2⟩
   have hed2:((er:Int) != 0)=true:=by simp;omega
   have HS2:Hid (St w2 p s bs c):=hs2
   have HK2:Hid (Kept (·=p) w w2):=hk2
   clear hs2 hk2 her HR
   go_wp2_with fail
   go_ret2
   rw[HE2.out]
   exact⟨⟨rfl,by decide,c,HC.out,HS2.out⟩,HK2.out⟩
 | ok r=>
  obtain⟨⟨l,d⟩,n⟩:=r
  rw[hrf]at HR
  obtain⟨a1,a2,a3,a4,a5,a6⟩:=readF_lists hrf
  have HRF:Hid (readF (ofBytes bs) c=.ok ((l,d),n)):=hrf
  have HLL:Hid (257≤l.length∧l.length≤286∧0<d.length∧d.length≤30∧(∀x∈l,x≤15)∧∀x∈d,x≤15):=hid ⟨a1,a2,a3,a4,a5,a6⟩
  clear hrf hc a1 a2 a3 a4 a5 a6
  go_enter Tryz.func115,Tryz.ntmps115
  go_wp2_with fail
  refine HR.mono ?_
  rintro e w2 ⟨⟨⟨va,vb,rfl,hra,hrb⟩,hc2,hs2⟩,hk2⟩
  have HRA:Hid (NRow w.heap.size w2 va l):=hra
  have HRB:Hid (NRow w.heap.size w2 vb d):=hrb
  have HS2:Hid (St w2 p s bs (c+n)):=hs2
  have HC2:Hid (c+n≤8*bs.length):=hc2
  have HK2:Hid (Kept (·=p) w w2):=hk2
  have hsz2:=hk2.size
  have hl256:256<l.length:=by have:=HLL.out;omega
  obtain⟨ga,capa,hva,hga,hga2,_⟩:=HRA.out.some (fun e=>by rw[e]at hl256;simp at hl256)
  obtain⟨gb,capb,hvb,hgb,hgb2,_⟩:=HRB.out.some (fun e=>by have:=HLL.out.2.2.1;rw[e]at this;simp at this)
  obtain⟨la,hla⟩:∃la,la=l.length:=⟨_,rfl⟩
  obtain⟨lb,hlb⟩:∃lb,lb=d.length:=⟨_,rfl⟩
  rw[←hla]at hva
  rw[←hlb]at hvb
  subst hva hvb
  obtain⟨x256,hx⟩:∃x,x=l[256]:=⟨_,rfl⟩
  have c256:w2.cell? ⟨ga,256,none⟩=some (.int .i64 (x256:Nat)):=by rw[hx];exact HRA.out.cell 256 hl256
  have HX:Hid (l.getD 256 0=x256):=hid (by rw[hx];simp[List.getD,hl256])
  have hla2:257≤la:=by omega
  clear hra hrb hs2 hc2 hk2 HR hx hl256 hla hlb
  by_cases h0:x256=0
  ·subst h0
   have HE:Hid (hdP (ofBytes bs) c=.error 52):=hid (hdP_bad HRF.out (.inl HX.out))
   go_wp2_with fail
   go_ret2
   rw[HE.out]
   exact⟨⟨rfl,by decide,c+n,HC2.out,HS2.out⟩,HK2.out⟩
  ·have hxd:((x256:Int)==0)=false:=by simp;omega
   have HX0:Hid (¬l.getD 256 0=0):=hid (by rw[HX.out];exact h0)
   obtain⟨W,hW⟩:∃W,W=w2.alloc (.cells #[.pointer none,.pointer none] 147):=⟨_,rfl⟩
   have hkW:Same w2 W:=by rw[hW];exact(Kept.refl _ w2).alloc _
   have HBW:Hid (Blk W w2.heap.size #[.pointer none,.pointer none] 147):=hid (by rw[hW];exact Blk.new w2 _ _)
   have HKW:Hid (Kept (·=p) w W):=hid (HK2.out.trans hkW (fun _ _ h=>h) (fun _ _ f=>f.elim))
   have HRAW:Hid (NRow w.heap.size W (.slice (some ⟨ga,0,none⟩) la capa) l):=hid (HRA.out.same hkW)
   have HRBW:Hid (NRow w.heap.size W (.slice (some ⟨gb,0,none⟩) lb capb) d):=hid (HRB.out.same hkW)
   have HSW:Hid (St W p s bs (c+n)):=hid (HS2.out.kept hkW (fun _ _ f=>f))
   clear h0 HX hkW HRA HRB HS2
   by_cases hcl:chkN l=0
   ·have HOKL:Hid (Lok l):=hid ⟨by have:=HLL.out;omega,by have:=HLL.out;omega,HLL.out.2.2.2.2.1,hcl⟩
    have HCL:Hid (chkN l=0):=hcl
    have HN:=pnew_any W _ _ l (SrcE.ofRow HRAW.out) HOKL.out
    clear hcl
    go_wp2_with fail
    rw[←hW]
    refine HN.mono ?_
    rintro e w3 ⟨⟨dd,vc,vs,rfl,hdec,hdf⟩,hk3⟩
    have hW3:W.heap.size=w2.heap.size+1:=by rw[hW];simp
    have HDEC:Hid (Dec w3 dd vc vs l):=hdec
    have HDF:Hid (∀k,DF dd vc vs k→w2.heap.size+1≤k):=hid (fun k hk=>by have:=hdf k hk;omega)
    have HB3:Hid (Blk w3 w2.heap.size #[.pointer none,.pointer none] 147):=hid (HBW.out.kept hk3 (fun f=>f))
    have HS3:Hid (St w3 p s bs (c+n)):=hid (HSW.out.kept hk3 (fun _ _ f=>f))
    have HR3:Hid (NRow w.heap.size w3 (.slice (some ⟨gb,0,none⟩) lb capb) d):=hid (HRBW.out.same hk3)
    have HK3:Hid (Kept (·=p) w w3):=hid (HKW.out.trans hk3 (fun _ _ h=>h) (fun _ _ f=>f.elim))
    have z0:w3.cell? ⟨w2.heap.size,0,none⟩=some (.pointer none):=HB3.out.cell 0
    have fz0:w3.frozen? ⟨w2.heap.size,0,none⟩=false:=HB3.out.frozen 0
    have HKs:Hid (Kept (·=w2.heap.size) w3 (w3.setCell ⟨w2.heap.size,0,none⟩ (.pointer (some ⟨dd,0,none⟩)))):=hid ((Kept.refl (·=w2.heap.size) w3).setCell ⟨w2.heap.size,0,none⟩ _ (.inl rfl))
    obtain⟨w4,hw4⟩:∃w4,w4=w3.setCell ⟨w2.heap.size,0,none⟩ (.pointer (some ⟨dd,0,none⟩)):=⟨_,rfl⟩
    rw[←hw4]at HKs
    have HB4:Hid (Blk w4 w2.heap.size #[.pointer (some ⟨dd,0,none⟩),.pointer none] 147):=hid (by
     have:=HB3.out.set 0 (.pointer (some ⟨dd,0,none⟩))
     rw[hw4]
     simpa using this)
    have HR4:Hid (NRow w.heap.size w4 (.slice (some ⟨gb,0,none⟩) lb capb) d):=hid (HR3.out.kept HKs.out (fun k e h=>by
     have e1:gb=k:=by simpa[Value.ownBlock]using e
     omega))
    have HD4:Hid (Dec w4 dd vc vs l):=hid (HDEC.out.kept HKs.out (fun k hk e=>by have:=HDF.out k hk;omega))
    have HS4:Hid (St w4 p s bs (c+n)):=hid (HS3.out.kept HKs.out (fun k hk e=>by have:=HP.out k hk;omega))
    have HK4:Hid (Kept (·=p) w w4):=hid (HK3.out.trans HKs.out (fun _ _ h=>h) (fun k hk e=>by omega))
    have HMX:=max_any w4 _ _ d (SrcE.ofRow HR4.out) (by have:=HLL.out;omega) HLL.out.2.2.1 (fun x hx=>by have:=HLL.out.2.2.2.2.2 x hx;omega)
    have hsz4:=HK4.out.size
    have hs34:w2.heap.size<w4.heap.size:=HB4.out.lt
    clear hdec hdf hk3 HN HBW HKW HRAW HRBW HSW HDEC HB3 HR3 HS3 HK3 HKs
    obtain⟨mx,hmx⟩:∃mx,mx=mxL d:=⟨_,rfl⟩
    rw[←hmx]at HMX
    have HM:Hid (mx=mxL d):=hmx
    clear hmx hW
    go_wp2_with fail
    rw[←hw4]
    refine HMX.mono ?_
    rintro e w5 ⟨rfl,hw5⟩
    subst hw5
    clear HMX hw4
    by_cases hu:mx=0
    ·subst hu
     have HU:Hid (usedB d=false):=hid ((usedB_mx d).2 HM.out.symm)
     have HE:Hid (hdP (ofBytes bs) c=.ok ((l,d),c+n)):=hid (hdP_is HRF.out (fun h=>by
      rcases h with h | h | ⟨h,_⟩
      ·exact HX0.out h
      ·exact h HCL.out
      ·rw[HU.out]at h;cases h))
     go_wp2_with fail
     go_ret2
     rw[HE.out]
     exact⟨⟨⟨_,rfl,dd,vc,vs,_,HB4.out,HD4.out,fun j hj=>⟨by have:=HDF.out j hj;omega,HD4.out.lt hj⟩,.inl ⟨HU.out,rfl⟩,⟨hsz2,hs34⟩⟩,HC2.out,HS4.out⟩,HK4.out⟩
    ·have hmd:((mx:Int)==0)=false:=by simp;omega
     have HU:Hid (usedB d=true):=hid (by
      cases hub:usedB d with
      | true=>rfl
      | false=>exact absurd (HM.out.trans ((usedB_mx d).1 hub)) hu)
     clear hu
     by_cases hcd:chkN d=0
     ·have HOKD:Hid (Lok d):=hid ⟨HLL.out.2.2.1,by have:=HLL.out;omega,HLL.out.2.2.2.2.2,hcd⟩
      have HE:Hid (hdP (ofBytes bs) c=.ok ((l,d),c+n)):=hid (hdP_is HRF.out (fun h=>by
       rcases h with h | h | ⟨_,h⟩
       ·exact HX0.out h
       ·exact h HCL.out
       ·exact h hcd))
      have HN:=pnew_any w5 _ _ d (SrcE.ofRow HR4.out) HOKD.out
      clear hcd
      go_wp2_with fail
      refine HN.mono ?_
      rintro e w6 ⟨⟨d2,vc2,vs2,rfl,hdec,hdf⟩,hk6⟩
      have HD2:Hid (Dec w6 d2 vc2 vs2 d):=hdec
      have HDF2:Hid (∀k,DF d2 vc2 vs2 k→w5.heap.size≤k):=hdf
      have HB6:Hid (Blk w6 w2.heap.size #[.pointer (some ⟨dd,0,none⟩),.pointer none] 147):=hid (HB4.out.kept hk6 (fun f=>f))
      have HD6:Hid (Dec w6 dd vc vs l):=hid (HD4.out.kept hk6 (fun _ _ f=>f))
      have HS6:Hid (St w6 p s bs (c+n)):=hid (HS4.out.kept hk6 (fun _ _ f=>f))
      have HK6:Hid (Kept (·=p) w w6):=hid (HK4.out.trans hk6 (fun _ _ h=>h) (fun _ _ f=>f.elim))
      have z1:w6.cell? ⟨w2.heap.size,1,none⟩=some (.pointer none):=HB6.out.cell 1
      have fz1:w6.frozen? ⟨w2.heap.size,1,none⟩=false:=HB6.out.frozen 1
      clear hdec hdf hk6 HN
      go_wp2_with fail
      go_ret2
      have hKs:Kept (·=w2.heap.size) w6 (w6.setCell ⟨w2.heap.size,1,none⟩ (.pointer (some ⟨d2,0,none⟩))):=(Kept.refl (·=w2.heap.size) w6).setCell ⟨w2.heap.size,1,none⟩ _ (.inl rfl)
      have hB7:Blk (w6.setCell ⟨w2.heap.size,1,none⟩ (.pointer (some ⟨d2,0,none⟩))) w2.heap.size #[.pointer (some ⟨dd,0,none⟩),.pointer (some ⟨d2,0,none⟩)] 147:=by
       have:=HB6.out.set 1 (.pointer (some ⟨d2,0,none⟩))
       simpa using this
      have hD7:=HD6.out.kept hKs (fun k hk e=>by have:=HDF.out k hk;omega)
      have hD8:=HD2.out.kept hKs (fun k hk e=>by have:=HDF2.out k hk;omega)
      rw[HE.out]
      refine⟨⟨⟨_,rfl,dd,vc,vs,_,hB7,hD7,fun j hj=>⟨by have:=HDF.out j hj;omega,hD7.lt hj⟩,.inr ⟨HU.out,d2,vc2,vs2,rfl,hD8,fun j hj=>⟨by have:=HDF2.out j hj;omega,hD8.lt hj⟩⟩,⟨hsz2,hB7.lt⟩⟩,HC2.out,HS6.out.kept hKs (fun k hk e=>by have:=HP.out k hk;omega)⟩,Kept.trans HK6.out hKs (fun _ _ h=>h) (fun k hk e=>by omega)⟩
     ·have HE:Hid (hdP (ofBytes bs) c=.error 52):=hid (hdP_bad HRF.out (.inr (.inr ⟨HU.out,hcd⟩)))
      have HN:=pnew_bad w5 _ _ d (SrcE.ofRow HR4.out) HLL.out.2.2.1 (by have:=HLL.out;omega) HLL.out.2.2.2.2.2 hcd
      have hcdI:((chkN d:Int) != 0)=true:=by simp;omega
      generalize chkN d=cd at *
      clear hcd
      go_wp2_with fail
      refine HN.mono ?_
      rintro e w6 ⟨rfl,hk6⟩
      have HB6:Hid (Blk w6 w2.heap.size #[.pointer (some ⟨dd,0,none⟩),.pointer none] 147):=hid (HB4.out.kept hk6 (fun f=>f))
      have HS6:Hid (St w6 p s bs (c+n)):=hid (HS4.out.kept hk6 (fun _ _ f=>f))
      have HK6:Hid (Kept (·=p) w w6):=hid (HK4.out.trans hk6 (fun _ _ h=>h) (fun _ _ f=>f.elim))
      have z1:w6.cell? ⟨w2.heap.size,1,none⟩=some (.pointer none):=HB6.out.cell 1
      have fz1:w6.frozen? ⟨w2.heap.size,1,none⟩=false:=HB6.out.frozen 1
      clear hk6 HN
      go_wp2_with fail
      go_ret2
      have hKs:Kept (·=w2.heap.size) w6 (w6.setCell ⟨w2.heap.size,1,none⟩ (.pointer none)):=(Kept.refl (·=w2.heap.size) w6).setCell ⟨w2.heap.size,1,none⟩ _ (.inl rfl)
      rw[HE.out]
      exact⟨⟨rfl,by decide,c+n,HC2.out,HS6.out.kept hKs (fun k hk e=>by have:=HP.out k hk;omega)⟩,Kept.trans HK6.out hKs (fun _ _ h=>h) (fun k hk e=>by omega)⟩
   ·have HE:Hid (hdP (ofBytes bs) c=.error 52):=hid (hdP_bad HRF.out (.inr (.inl hcl)))
    have HN:=pnew_bad W _ _ l (SrcE.ofRow HRAW.out) (by have:=HLL.out;omega) (by have:=HLL.out;omega) HLL.out.2.2.2.2.1 hcl
    have hclI:((chkN l:Int) != 0)=true:=by simp;omega
    generalize chkN l=cl at *
    clear hcl
    go_wp2_with fail
    rw[←hW]
    clear hW
    refine HN.mono ?_
    rintro e w3 ⟨rfl,hk3⟩
    have HB3:Hid (Blk w3 w2.heap.size #[.pointer none,.pointer none] 147):=hid (HBW.out.kept hk3 (fun f=>f))
    have HS3:Hid (St w3 p s bs (c+n)):=hid (HSW.out.kept hk3 (fun _ _ f=>f))
    have HK3:Hid (Kept (·=p) w w3):=hid (HKW.out.trans hk3 (fun _ _ h=>h) (fun _ _ f=>f.elim))
    have z0:w3.cell? ⟨w2.heap.size,0,none⟩=some (.pointer none):=HB3.out.cell 0
    have fz0:w3.frozen? ⟨w2.heap.size,0,none⟩=false:=HB3.out.frozen 0
    clear hk3 HN
    go_wp2_with fail
    go_ret2
    have hKs:Kept (·=w2.heap.size) w3 (w3.setCell ⟨w2.heap.size,0,none⟩ (.pointer none)):=(Kept.refl (·=w2.heap.size) w3).setCell ⟨w2.heap.size,0,none⟩ _ (.inl rfl)
    rw[HE.out]
    exact⟨⟨rfl,by decide,c+n,HC2.out,HS3.out.kept hKs (fun k hk e=>by have:=HP.out k hk;omega)⟩,Kept.trans HK3.out hKs (fun _ _ h=>h) (fun k hk e=>by omega)⟩

end Go.Proofs.YtggcbnhckcenmaaGreatDoor
