/-
  Of the proof: parts InPr, InPq, InPx, InPz, InPA, InAw, InFd, InStr.
-/
import Derived.WalkMore
import Derived.Deep.RegionHeld3
import Derived.Test.YtggcbnhckcenmaaGreatDoorJ33
import Derived.Test.YtggcbnhckcenmaaGreatDoorJ10
import Derived.Test.YtggcbnhckcenmaaGreatDoorJ23

namespace Go.Proofs.YtggcbnhckcenmaaGreatDoor
open Go.RowKit

theorem begP_adv{ls:List Nat}(hb:∀b∈ls,b<2){c c':Nat}{b:Bk}(h:begP ls c=.ok (b,c')):c+3≤c':=by
 obtain⟨l,c1,h1,h⟩:=bindP_ok.1 h
 obtain⟨k,c2,h2,h⟩:=bindP_ok.1 h
 have a1:=tkP_ok h1
 have a2:=tkP_ok h2
 have:=(kndP_loc ls hb (l==1) c2 k (by omega)).ge _ _ h
 omega

theorem syP_adv{ns ls:List Nat}{c last y c':Nat}(h:syP ns ls c last=.ok (y,c')):c<c':=by
 rcases syP_cases h with⟨h1,_⟩ | ⟨h1,_⟩ | ⟨y1,k1,hn,⟨_,h1⟩ | ⟨_,h1⟩⟩
 ·cases h1
 ·cases h1
 ·cases h1
 ·simp only[Except.ok.injEq,Prod.mk.injEq]at h1
  have:=nextF_len hn
  omega

theorem stepP_adv{ls:List Nat}(hb:∀b∈ls,b<2){k k':Bk}{t:Tok}{c c':Nat}(hk:BkOk (some k))(hc:c≤ls.length)(h:stepP ls k c=.ok ((t,k'),c'))(ht:t≠.fin):c<c':=by
 cases k with
 | raw last left=>
  cases left with
  | zero=>
   rw[stepP_zero]at h
   simp only[Except.ok.injEq,Prod.mk.injEq]at h
   exact absurd h.1.1.symm ht
  | succ n=>
   rw[stepP_raw]at h
   obtain⟨v,c2,h1,h⟩:=bindP_ok.1 h
   simp only[Except.ok.injEq,Prod.mk.injEq]at h
   have:=tkP_ok h1
   omega
 | sym last lit dist=>
  rw[stepP_sym]at h
  obtain⟨y,c2,h1,h⟩:=bindP_ok.1 h
  have a1:=syP_adv h1
  have a2:=((syP_loc (show OkL lit dist from hk).lit.pf ls hb c 285 hc).ge _ _ h1).2
  unfold symP at h
  split at h
  ·simp only[Except.ok.injEq,Prod.mk.injEq]at h;omega
  ·split at h
   ·simp only[Except.ok.injEq,Prod.mk.injEq]at h;omega
   ·obtain⟨x,c3,h2,h⟩:=bindP_ok.1 h
    simp only[Except.ok.injEq,Prod.mk.injEq]at h
    have:=(copP_loc (show OkL lit dist from hk).pf ls hb c2 y a2).ge _ _ h2
    omega

theorem BkP.last0{O:Nat→Prop}{w:World}{b:Nat}{k:Bk}(h:BkP w b O k):w.cell? ⟨b,0,none⟩=some (.bool k.last):=by
 cases k with
 | raw last left=>exact h.1.cell 0
 | sym last lit dist=>obtain⟨j,h1,_⟩:=h;exact h1.cell 0

def ms(L:Nat)(s:Ps):Nat:=2*(L-s.c)+(match s.bk with | none=>0 | some _=>1)

def tokOk:Tok→Prop
 | .fin=>True
 | .byte b=>b<256
 | .copy n far=>3≤n∧n≤258∧1≤far∧far≤40000

theorem stepP_tok{ls:List Nat}(hb:∀b∈ls,b<2){k k':Bk}{t:Tok}{c c':Nat}(h:stepP ls k c=.ok ((t,k'),c')):tokOk t:=by
 cases k with
 | raw last left=>
  cases left with
  | zero=>
   rw[stepP_zero]at h
   simp only[Except.ok.injEq,Prod.mk.injEq]at h
   obtain⟨⟨rfl,_⟩,_⟩:=h
   exact trivial
  | succ n=>
   rw[stepP_raw]at h
   obtain⟨v,c2,h1,h⟩:=bindP_ok.1 h
   simp only[Except.ok.injEq,Prod.mk.injEq]at h
   obtain⟨⟨rfl,_⟩,_⟩:=h
   show v<256
   rw[(tkP_ok h1).1]
   exact numAt_lt _ hb _ _
 | sym last lit dist=>
  rw[stepP_sym]at h
  obtain⟨y,c2,h1,h⟩:=bindP_ok.1 h
  have hy:y≤285:=by
   rcases syP_cases h1 with⟨h2,_⟩ | ⟨h2,_⟩ | ⟨y1,k1,hn,⟨_,h2⟩ | ⟨_,h2⟩⟩
   ·cases h2
   ·cases h2
   ·cases h2
   ·simp only[Except.ok.injEq,Prod.mk.injEq]at h2;omega
  unfold symP at h
  split at h
  ·simp only[Except.ok.injEq,Prod.mk.injEq]at h
   obtain⟨⟨rfl,_⟩,_⟩:=h
   assumption
  ·split at h
   ·simp only[Except.ok.injEq,Prod.mk.injEq]at h
    obtain⟨⟨rfl,_⟩,_⟩:=h
    exact trivial
   ·obtain⟨x,c3,h2,h⟩:=bindP_ok.1 h
    simp only[Except.ok.injEq,Prod.mk.injEq]at h
    obtain⟨⟨rfl,_⟩,_⟩:=h
    obtain⟨n,c4,h3,h2⟩:=bindP_ok.1 h2
    obtain⟨z,c5,h4,h2⟩:=bindP_ok.1 h2
    obtain⟨d,c6,h5,h2⟩:=bindP_ok.1 h2
    simp only[Except.ok.injEq,Prod.mk.injEq]at h2
    obtain⟨rfl,_⟩:=h2
    have hl:=lenP_le hb hy (by omega) h3
    have hz:z≤29:=by
     unfold dsyP at h4
     split at h4
     ·cases h4
     ·rcases syP_cases h4 with⟨h2,_⟩ | ⟨h2,_⟩ | ⟨y1,k1,hn,⟨_,h2⟩ | ⟨_,h2⟩⟩
      ·cases h2
      ·cases h2
      ·cases h2
      ·simp only[Except.ok.injEq,Prod.mk.injEq]at h2;omega
    have hd:=numP2_le hb hz h5
    exact⟨hl.1,hl.2,by show 1≤1+d;omega,by show 1+d≤40000;omega⟩

def Leads(ls:List Nat)(most:Nat)(start cur:Ps):Prop:=∀t er,Ends ls most cur t er→Ends ls most start t er
theorem Leads.next{ls:List Nat}{most:Nat}{start cur cur':Ps}(h:Leads ls most start cur)(hs:stP ls most cur=.ok (cur',false)):Leads ls most start cur':=fun t er he=>h t er (.step hs he)

theorem pstep_any(w:World)(b p c:Nat)(s:Value)(bs:List Nat)(k:Bk)(O:Nat→Prop)(hB:BkP w b O k)(hOL:∀j,O j→j<w.heap.size)(hO:∀j,O j→¬Fp p s j)(hbp:¬Fp p s b)(hok:BkOk (some k))(hs:St w p s bs c)(hc:c≤8*bs.length)(hlen:bs.length≤100000000):
  Calls Tryz.prog 75 #[.pointer (some ⟨b,0,none⟩),.pointer (some ⟨p,0,none⟩)] w fun e w'=>StepPA w' b p s bs O k e (stepP (ofBytes bs) k c)∧Kept (fun j=>j=p∨j=b) w w':=by
 cases k with
 | raw last left=>exact pstep_raw w b p c s bs last left O hB hOL hbp hs hc hlen
 | sym last lit dist=>exact pstep_sym w b p c s bs last lit dist O hB hOL hO hbp hok hs hc hlen

set_option maxRecDepth 100000 in
set_option maxHeartbeats 8000000 in
theorem pread_any(w0:World)(ρ0:Part)(h most e:Nat)(va:Value)(bs:List Nat)(start:Ps)(vl0 bv0:Value)(hs:SI w0 ρ0 h most e va bs start vl0 bv0)(hn:∀j,ρ0 j=0∨own5 (ρ0 j))(h7:start.c≤7)(hlen:bs.length≤2000000):
  Calls Tryz.prog 50 #[.pointer (some ⟨h,0,none⟩)] w0 fun x w'=>∃er t ρ vl bv out gone,x=.returned (.int .i64 (er:Nat))∧RdP w0 w' ρ0 h most e va bs start er t ρ vl bv out gone:=by
 have HNR:=newReader_any va _ bs w0 (Src.ofRow hs.ah) (by omega) hs.by'
 have c3:=hs.sm.cell 3
 obtain⟨aa,capa,hva,_⟩:=hs.ah.shape
 subst hva
 simp at c3
 have HS:Hid (SI w0 ρ0 h most e (.slice aa bs.length capa) bs start vl0 bv0):=hs
 have HN:Hid (∀j,ρ0 j=0∨own5 (ρ0 j)):=hn
 have hl8:=hs.len
 obtain⟨LB,hLB⟩:∃L,L=bs.length:=⟨_,rfl⟩
 rw[←hLB]at c3 HNR
 have HLB:Hid (LB=bs.length):=hLB
 clear hs hn hLB
 go_enter Tryz.func50,Tryz.ntmps50
 go_wp2_with fail
 go_step3
 go_wp2_with fail
 refine HNR.mono ?_
 rintro x w1 ⟨r,sr,rfl,hst1,hk1,hfp⟩
 have HK1:Hid (Same w0 w1):=hk1
 have HFP:Hid (∀k,Fp r sr k→w0.heap.size≤k):=hfp
 have HT:=take_good r 0 start.c sr bs w1 hst1 (by omega) (by omega) (by omega)
 obtain⟨g0,hg0⟩:∃g,g=start.c:=⟨_,rfl⟩
 have HFL:Hid (∀k,Fp r sr k→k<w1.heap.size):=hid (fun k hk=>hst1.fp_lt hk)
 have c4:w1.cell? ⟨h,4,none⟩=some (.int .i64 (g0:Nat)):=by rw[hg0];exact hk1.cell (HS.out.sm.cell 4) (fun f=>f)
 rw[←hg0]at HT h7 hl8
 have HG0:Hid (g0=start.c):=hg0
 generalize n256 bs / 2 ^ 0 % 2 ^ g0=tk0 at HT
 clear hst1 hk1 hfp HNR hg0
 go_wp2_with fail
 refine HT.mono ?_
 rintro x w2 ⟨rfl,hst2,hk2⟩
 have HST2:Hid (St w2 r sr bs g0):=hid (by rw[Nat.zero_add]at hst2;exact hst2)
 have HK2:Hid (Kept (·=r) w1 w2):=hk2
 have HON:=ponce_any w2
 clear hst2 hk2 HT
 go_wp2_with fail
 refine HON.mono ?_
 rintro x w3 ⟨rfl,hon3,hk3,_⟩
 obtain⟨bx,hbx⟩:∃b,b=w2.heap.size+1:=⟨_,rfl⟩
 obtain⟨fx,hfx⟩:∃b,b=w2.heap.size:=⟨_,rfl⟩
 have HR0:Hid (∃ρ,RI w0 w3 ρ0 ρ h r bx fx sr most e (.slice aa bs.length capa) bs start vl0 bv0):=hid (by
  rw[hbx,hfx]
  exact RI.start HS.out HN.out HK1.out HFP.out (by rw[←HG0.out];exact HST2.out) HK2.out (fun k hk=>Nat.lt_of_lt_of_le (HFL.out k hk) HK2.out.size) hon3 hk3)
 rw[←hbx,←hfx]
 clear hon3 hk3 HON hbx hfx HK1 HFP HFL HST2 HK2 c3 c4 HG0
 go_wp2_with fail
 go_step3
 go_wp2_with fail
 obtain⟨L8,hL8⟩:∃L,L=8*bs.length:=⟨_,rfl⟩
 have HL8:Hid (L8=(ofBytes bs).length):=hid (by rw[hL8,ofBytes_length])
 have HLEN:Hid (bs.length≤100000000):=hid (by omega)
 go_loopg [5] (2*L8+1) (fun q z wr=>∃(cur:Ps) (ρ:Part) (vl bv:Value),ms L8 cur≤q∧Hid (RI w0 wr ρ0 ρ h r bx fx sr most e (.slice aa bs.length capa) bs cur vl bv)∧Hid (Leads (ofBytes bs) most start cur)∧Hid (start.out.length≤cur.out.length))
 case atStart=>
  obtain⟨ρ,hr⟩:=HR0.out
  refine⟨start,ρ,vl0,bv0,?_,hr,hid (fun _ _ x=>x),hid (Nat.le_refl _)⟩
  unfold ms
  split<;>omega
 case round=>
  clear HR0 HS
  obtain⟨cur,ρ,vl,bv,hq,HR,HLD,HMO⟩:=hrel
  obtain⟨G,hG⟩:∃G,G=gk:=⟨_,rfl⟩
  cases hbk:cur.bk with
  | none=>
   have hbv:bv=.pointer none:=by have:=HR.out.si.bk;rw[hbk]at this;exact this
   subst hbv
   have d2:wr.cell? ⟨h,2,none⟩=some (.pointer none):=HR.out.si.sm.cell 2
   have HBG:=pbegin_any wr r cur.c sr bs bx fx _ HR.out.st HR.out.si.len HLEN.out HR.out.bx
   cases hbe:begP (ofBytes bs) cur.c with
   | error er=>
    rw[hbe]at HBG
    have HE:Hid (stP (ofBytes bs) most cur=.error er):=hid (stP_none_err hbk hbe)
    clear hbe
    go_wp2_with fail
    refine HBG.mono ?_
    rintro x w4 ⟨hb4,hk4⟩
    obtain⟨rfl,her,_⟩:=hb4.err
    have hed:((er:Int) != 0)=true:=by simp;omega
    have HKB:Hid (Kept (fun j=>j=r∨j=bx) wr w4):=hk4
    have HER:Hid (er≠0):=her
    clear hb4 hk4 her HBG
    go_wp2_with fail
    rw[Exit.noGoto_ret]
    go_ret
    exact⟨er,cur,_,_,_,_,_,rfl,HR.out.stops HKB.out HER.out (HLD.out _ _ (.stop HE.out)) HMO.out⟩
   | ok x=>
    obtain⟨k,c4⟩:=x
    rw[hbe]at HBG
    have HE:Hid (stP (ofBytes bs) most cur=.ok (⟨c4,cur.out,some k⟩,false)):=hid (stP_none_ok hbk hbe)
    have hadv:=begP_adv (ofBytes_lt bs) hbe
    have HBE:Hid (begP (ofBytes bs) cur.c=.ok (k,c4)):=hbe
    clear hbe
    go_wp2_with fail
    refine HBG.mono ?_
    rintro x w4 ⟨hb4,hk4⟩
    obtain⟨⟨b,O',rfl,hBk,hbw,hnb,hon4,hsub,hnew⟩,hc4,hst4⟩:=hb4.ok
    have HR4:Hid (∃ρ',RI w0 ((w4.setCell ⟨h,2,none⟩ (.pointer (some ⟨b,0,none⟩))).setCell ⟨h,4,none⟩ (.int .i64 (c4:Nat))) ρ0 ρ' h r bx fx sr most e (.slice aa bs.length capa) bs ⟨c4,cur.out,some k⟩ vl (.pointer (some ⟨b,0,none⟩))):=hid (HR.out.begun hBk hbw hnb hon4 hnew hst4 hk4 ⟨by rw[ofBytes_length];exact hc4,begP_ok HBE.out⟩)
    have HGO:=gone_any r c4 sr bs w4 hst4
    have HLD4:Hid (Leads (ofBytes bs) most start ⟨c4,cur.out,some k⟩):=hid (HLD.out.next HE.out)
    have hhl:h≠r∧h≠bx:=⟨fun e1=>by have:=HR.out.si.r1;rw[e1,HR.out.r5]at this;omega,fun e1=>by have:=HR.out.si.r1;rw[e1,HR.out.r7]at this;omega⟩
    have HS4:Hid (Sm w4 h most vl (.pointer none) (.slice aa bs.length capa) cur.c e):=hid (HR.out.si.sm.kept hk4 (fun f=>by rcases f with f | f;exact hhl.1 f;exact hhl.2 f))
    have e2:w4.cell? ⟨h,2,none⟩=some (.pointer none):=HS4.out.cell 2
    have f2:w4.frozen? ⟨h,2,none⟩=false:=HS4.out.frozen 2
    have e4:(w4.setCell ⟨h,2,none⟩ (.pointer (some ⟨b,0,none⟩))).cell? ⟨h,4,none⟩=some (.int .i64 (cur.c:Nat)):=(HS4.out.two _).cell 4
    have f4:(w4.setCell ⟨h,2,none⟩ (.pointer (some ⟨b,0,none⟩))).frozen? ⟨h,4,none⟩=false:=(HS4.out.two _).frozen 4
    have hm4:ms L8 ⟨c4,cur.out,some k⟩≤G:=by
     have h1:ms L8 ⟨c4,cur.out,some k⟩=2*(L8-c4)+1:=rfl
     have h2:ms L8 cur=2*(L8-cur.c):=by unfold ms;rw[hbk];rfl
     have h3:c4≤L8:=by have:=HL8.out;rw[ofBytes_length]at this;omega
     omega
    have HI:Hid (∃(cur:Ps) (ρ:Part) (vl bv:Value) (k:Bk),cur.bk=some k∧ms L8 cur≤G∧Hid (RI w0 ((w4.setCell ⟨h,2,none⟩ (.pointer (some ⟨b,0,none⟩))).setCell ⟨h,4,none⟩ (.int .i64 (c4:Nat))) ρ0 ρ h r bx fx sr most e (.slice aa bs.length capa) bs cur vl bv)∧Hid (Leads (ofBytes bs) most start cur)∧Hid (start.out.length≤cur.out.length)):=hid (by
     obtain⟨ρ4,hr4⟩:=HR4.out
     exact⟨_,ρ4,_,_,k,rfl,hm4,hr4,HLD4,HMO⟩)
    clear hb4 hk4 hBk hbw hnb hon4 hsub hnew hc4 hst4 HBG HR4 HLD4 HR HLD HMO hm4
    go_wp2_with fail
    refine HGO.mono ?_
    rintro x w5 ⟨rfl,hw5⟩
    subst hw5
    clear HGO
    go_wp2_with fail
    go_loopg [7] G (fun q z wr=>∃(cur:Ps) (ρ:Part) (vl bv:Value) (k:Bk),cur.bk=some k∧ms L8 cur≤q∧q≤G∧Hid (RI w0 wr ρ0 ρ h r bx fx sr most e (.slice aa bs.length capa) bs cur vl bv)∧Hid (Leads (ofBytes bs) most start cur)∧Hid (start.out.length≤cur.out.length))
    case atStart=>
     obtain⟨cur,ρ,vl,bv,k,h1,h2,h3,h4,h5⟩:=HI.out
     exact⟨cur,ρ,vl,bv,k,h1,h2,Nat.le_refl _,h3,h4,h5⟩
    case round=>
     clear HI
     obtain⟨cur,ρ,vl,bv,k,hbk,hq,hqG,HR,HLD,HMO⟩:=hrel
     have hbkin:=HR.out.si.bk
     rw[hbk]at hbkin
     obtain⟨b,rfl,hBk,hb3⟩:=hbkin
     have d2:wr.cell? ⟨h,2,none⟩=some (.pointer (some ⟨b,0,none⟩)):=HR.out.si.sm.cell 2
     have hbok:BkOk (some k):=by rw[←hbk];exact HR.out.si.ok.bk
     have HBOK:Hid (BkOk (some k)):=hbok
     have HSP:=pstep_any wr b r cur.c sr bs k (fun j=>ρ j=4) hBk (fun j hj=>HR.out.si.lt j (by omega)) (fun j hj hf=>by have:=HR.out.fp hf;omega) (fun hf=>by have:=HR.out.fp hf;omega) hbok HR.out.st HR.out.si.len HLEN.out
     have hhb:h≠b:=fun e1=>by have:=HR.out.si.r1;rw[e1,hb3]at this;cases this
     have hhr:h≠r:=fun e1=>by have:=HR.out.si.r1;rw[e1,HR.out.r5]at this;cases this
     have hcL:cur.c≤L8:=by have:=HR.out.si.ok.le;rw[←HL8.out]at this;exact this
     have hms1:ms L8 cur=2*(L8-cur.c)+1:=by unfold ms;rw[hbk]
     clear hBk hbok
     cases hsp:stepP (ofBytes bs) k cur.c with
     | error er=>
      rw[hsp]at HSP
      have HE:Hid (stP (ofBytes bs) most cur=.error er):=hid (stP_some_err hbk hsp)
      clear hsp
      go_wp2_with fail
      refine HSP.mono ?_
      rintro x w4 ⟨hb4,hk4⟩
      obtain⟨rfl,her,hBk4,_⟩:=hb4.err
      have hed:((er:Int) != 0)=true:=by simp;omega
      have HKB:Hid (Kept (fun j=>j=r∨j=b) wr w4):=hk4
      have HBK4:Hid (BkP w4 b (fun j=>ρ j=4) k):=hBk4
      have HER:Hid (er≠0):=her
      clear hb4 hk4 her HSP hBk4
      go_wp2_with fail
      rw[Exit.noGoto_ret]
      go_ret
      have hkT:Same w4 (w4.alloc (.cells #[.int .u8 0,.int .i64 0,.int .i64 0] 33)):=(Kept.refl _ w4).alloc _
      exact⟨er,cur,_,_,_,_,_,rfl,HR.out.stays rfl hbk hb3 (HBK4.out.kept hkT (fun _ _ f=>f) (fun f=>f)) (Kept.trans HKB.out hkT (fun _ _ f=>f) (fun _ _ f=>f.elim)) HER.out (HLD.out _ _ (.stop HE.out)) HMO.out⟩
     | ok x=>
      obtain⟨⟨t,k'⟩,c4⟩:=x
      rw[hsp]at HSP
      have hso:=stepP_ok hsp HBOK.out
      have htk:=stepP_tok (ofBytes_lt bs) hsp
      have hge:=(stepP_loc (ofBytes bs) (ofBytes_lt bs) k cur.c HBOK.out HR.out.si.ok.le).ge _ _ hsp
      have HSE:Hid (stP (ofBytes bs) most cur=goP most cur k ((t,k'),c4)):=hid (stP_some_ok hbk hsp)
      have HADV:Hid (t≠.fin→cur.c<c4):=hid (fun ht=>stepP_adv (ofBytes_lt bs) HBOK.out HR.out.si.ok.le hsp ht)
      rw[←HL8.out]at hge
      clear hsp
      cases t with
      | fin=>
       have HL:Hid (k'.last=k.last):=hso.2
       clear htk HADV
       cases hlast:k.last with
       | true=>
        have HE:Hid (stP (ofBytes bs) most cur=.ok (⟨c4,cur.out,some k'⟩,true)):=hid (by rw[HSE.out,goP_fin,hlast,if_pos rfl])
        have HLT:Hid (k'.last=true):=hid (HL.out.trans hlast)
        clear hlast HSE
        go_wp2_with fail
        refine HSP.mono ?_
        rintro x w4 ⟨hb4,hk4⟩
        obtain⟨rfl,hBk4,hc4,hst4⟩:=hb4.ok
        have HKB:Hid (Kept (fun j=>j=r∨j=b) wr w4):=hk4
        have HBK4:Hid (BkP w4 b (fun j=>ρ j=4) k'):=hBk4
        have HST4:Hid (St w4 r sr bs c4):=hst4
        have HC4:Hid (c4≤8*bs.length):=hc4
        have HGO:=gone_any r c4 sr bs (w4.alloc (.cells #[.int .u8 0,.int .i64 0,.int .i64 0] 33)) (hst4.kept ((Kept.refl (fun _=>False) w4).alloc _) (fun _ _ f=>f))
        have HS4:Hid (Sm w4 h most vl (.pointer (some ⟨b,0,none⟩)) (.slice aa bs.length capa) cur.c e):=hid (HR.out.si.sm.kept HKB.out (fun f=>by rcases f with f | f;exact hhr f;exact hhb f))
        have e4:(w4.alloc (.cells #[.int .u8 0,.int .i64 0,.int .i64 0] 33)).cell? ⟨h,4,none⟩=some (.int .i64 (cur.c:Nat)):=(HS4.out.kept ((Kept.refl (fun _=>False) w4).alloc _) (fun f=>f)).cell 4
        have f4:(w4.alloc (.cells #[.int .u8 0,.int .i64 0,.int .i64 0] 33)).frozen? ⟨h,4,none⟩=false:=(HS4.out.kept ((Kept.refl (fun _=>False) w4).alloc _) (fun f=>f)).frozen 4
        have HS6:Hid (Sm ((w4.setCell ⟨h,4,none⟩ (.int .i64 (c4:Nat))).alloc (.cells #[.int .u8 0,.int .i64 0,.int .i64 0] 33)) h most vl (.pointer (some ⟨b,0,none⟩)) (.slice aa bs.length capa) c4 e):=hid ((HS4.out.four c4).kept ((Kept.refl (fun _=>False) _).alloc _) (fun f=>f))
        have g2:((w4.setCell ⟨h,4,none⟩ (.int .i64 (c4:Nat))).alloc (.cells #[.int .u8 0,.int .i64 0,.int .i64 0] 33)).cell? ⟨h,2,none⟩=some (.pointer (some ⟨b,0,none⟩)):=HS6.out.cell 2
        have z2:((w4.setCell ⟨h,4,none⟩ (.int .i64 (c4:Nat))).alloc (.cells #[.int .u8 0,.int .i64 0,.int .i64 0] 33)).frozen? ⟨h,2,none⟩=false:=HS6.out.frozen 2
        have HKH:Hid (Kept (·=h) w4 ((w4.setCell ⟨h,4,none⟩ (.int .i64 (c4:Nat))).alloc (.cells #[.int .u8 0,.int .i64 0,.int .i64 0] 33))):=hid (((Kept.refl (·=h) w4).setCell ⟨h,4,none⟩ _ (.inl rfl)).alloc _)
        have hhs:h<w4.heap.size:=HS4.out.lt
        clear hb4 hk4 hBk4 hc4 hst4 HSP
        simp only[tokC,isFin,tok0]
        go_wp2_with fail
        refine HGO.mono ?_
        rintro x w6 ⟨rfl,hw6⟩
        subst hw6
        clear HGO
        have b0:((w4.setCell ⟨h,4,none⟩ (.int .i64 (c4:Nat))).alloc (.cells #[.int .u8 0,.int .i64 0,.int .i64 0] 33)).cell? ⟨b,0,none⟩=some (.bool true):=by
         have:=(HBK4.out.kept HKH.out (fun j hj e1=>by have:=HR.out.si.r1;rw[←e1]at this;omega) (fun e1=>hhb e1.symm)).last0
         rw[HLT.out]at this
         exact this
        have HAL:=ralign_any r c4 sr bs _ (HST4.out.kept HKH.out (fun j hj e1=>by have:=HR.out.fp hj;rw[e1,HR.out.si.r1]at this;omega)) (by have:=HC4.out;have:=HLEN.out;omega)
        go_wp2_with fail
        refine HAL.mono ?_
        rintro x w7 ⟨rfl,hst7,hk7⟩
        obtain⟨cc,hcc⟩:∃cc,cc=(c4+7) / 8*8:=⟨_,rfl⟩
        rw[←hcc]at hst7
        have HGO:=gone_any r cc sr bs w7 hst7
        have HS7:Hid (Sm w7 h most vl (.pointer (some ⟨b,0,none⟩)) (.slice aa bs.length capa) c4 e):=hid (HS6.out.kept hk7 hhr)
        have e7:w7.cell? ⟨h,4,none⟩=some (.int .i64 (c4:Nat)):=HS7.out.cell 4
        have f7:w7.frozen? ⟨h,4,none⟩=false:=HS7.out.frozen 4
        have HK7:Hid (Kept (·=r) ((w4.setCell ⟨h,4,none⟩ (.int .i64 (c4:Nat))).alloc (.cells #[.int .u8 0,.int .i64 0,.int .i64 0] 33)) w7):=hk7
        have HCC:Hid (cc=(c4+7) / 8*8):=hcc
        clear hst7 hk7 HAL hcc
        go_wp2_with fail
        refine HGO.mono ?_
        rintro x w8 ⟨rfl,hw8⟩
        subst hw8
        clear HGO
        go_wp2_with fail
        rw[Exit.noGoto_ret]
        go_ret
        have hKs:Kept (·=h) w8 (w8.setCell ⟨h,4,none⟩ (.int .i64 (cc:Nat))):=(Kept.refl (·=h) w8).setCell ⟨h,4,none⟩ _ (.inl rfl)
        have hKA:Kept (fun j=>j=r∨j=b∨j=h) wr (w8.setCell ⟨h,4,none⟩ (.int .i64 (cc:Nat))):=Kept.trans (Kept.trans (H:=fun j=>j=r∨j=b∨j=h) (Kept.trans (H:=fun j=>j=r∨j=b∨j=h) HKB.out HKH.out (fun _ _ f=>by rcases f with f | f;exact .inl f;exact .inr (.inl f)) (fun _ _ f=>.inr (.inr f))) HK7.out (fun _ _ f=>f) (fun _ _ f=>.inl f)) hKs (fun _ _ f=>f) (fun _ _ f=>.inr (.inr f))
        exact⟨0,⟨c4,cur.out,some k'⟩,_,_,_,_,_,rfl,HR.out.halts hb3 hKA (HS7.out.four cc) (by have:=HC4.out;have:=HCC.out;omega) (by decide) (HLD.out _ _ (.done HE.out)) HMO.out (fun _=>⟨rfl,HCC.out⟩)⟩
       | false=>
        have HE:Hid (stP (ofBytes bs) most cur=.ok (⟨c4,cur.out,none⟩,false)):=hid (by rw[HSE.out,goP_fin,hlast,if_neg (by decide)])
        have HLT:Hid (k'.last=false):=hid (HL.out.trans hlast)
        clear hlast HSE
        go_wp2_with fail
        refine HSP.mono ?_
        rintro x w4 ⟨hb4,hk4⟩
        obtain⟨rfl,hBk4,hc4,hst4⟩:=hb4.ok
        have HKB:Hid (Kept (fun j=>j=r∨j=b) wr w4):=hk4
        have HBK4:Hid (BkP w4 b (fun j=>ρ j=4) k'):=hBk4
        have HST4:Hid (St w4 r sr bs c4):=hst4
        have HC4:Hid (c4≤8*bs.length):=hc4
        have HGO:=gone_any r c4 sr bs (w4.alloc (.cells #[.int .u8 0,.int .i64 0,.int .i64 0] 33)) (hst4.kept ((Kept.refl (fun _=>False) w4).alloc _) (fun _ _ f=>f))
        have HS4:Hid (Sm w4 h most vl (.pointer (some ⟨b,0,none⟩)) (.slice aa bs.length capa) cur.c e):=hid (HR.out.si.sm.kept HKB.out (fun f=>by rcases f with f | f;exact hhr f;exact hhb f))
        have e4:(w4.alloc (.cells #[.int .u8 0,.int .i64 0,.int .i64 0] 33)).cell? ⟨h,4,none⟩=some (.int .i64 (cur.c:Nat)):=(HS4.out.kept ((Kept.refl (fun _=>False) w4).alloc _) (fun f=>f)).cell 4
        have f4:(w4.alloc (.cells #[.int .u8 0,.int .i64 0,.int .i64 0] 33)).frozen? ⟨h,4,none⟩=false:=(HS4.out.kept ((Kept.refl (fun _=>False) w4).alloc _) (fun f=>f)).frozen 4
        have HS6:Hid (Sm ((w4.setCell ⟨h,4,none⟩ (.int .i64 (c4:Nat))).alloc (.cells #[.int .u8 0,.int .i64 0,.int .i64 0] 33)) h most vl (.pointer (some ⟨b,0,none⟩)) (.slice aa bs.length capa) c4 e):=hid ((HS4.out.four c4).kept ((Kept.refl (fun _=>False) _).alloc _) (fun f=>f))
        have g2:((w4.setCell ⟨h,4,none⟩ (.int .i64 (c4:Nat))).alloc (.cells #[.int .u8 0,.int .i64 0,.int .i64 0] 33)).cell? ⟨h,2,none⟩=some (.pointer (some ⟨b,0,none⟩)):=HS6.out.cell 2
        have z2:((w4.setCell ⟨h,4,none⟩ (.int .i64 (c4:Nat))).alloc (.cells #[.int .u8 0,.int .i64 0,.int .i64 0] 33)).frozen? ⟨h,2,none⟩=false:=HS6.out.frozen 2
        have HKH:Hid (Kept (·=h) w4 ((w4.setCell ⟨h,4,none⟩ (.int .i64 (c4:Nat))).alloc (.cells #[.int .u8 0,.int .i64 0,.int .i64 0] 33))):=hid (((Kept.refl (·=h) w4).setCell ⟨h,4,none⟩ _ (.inl rfl)).alloc _)
        have hhs:h<w4.heap.size:=HS4.out.lt
        clear hb4 hk4 hBk4 hc4 hst4 HSP
        simp only[tokC,isFin,tok0]
        go_wp2_with fail
        refine HGO.mono ?_
        rintro x w6 ⟨rfl,hw6⟩
        subst hw6
        clear HGO
        have b0:((w4.setCell ⟨h,4,none⟩ (.int .i64 (c4:Nat))).alloc (.cells #[.int .u8 0,.int .i64 0,.int .i64 0] 33)).cell? ⟨b,0,none⟩=some (.bool false):=by
         have:=(HBK4.out.kept HKH.out (fun j hj e1=>by have:=HR.out.si.r1;rw[←e1]at this;omega) (fun e1=>hhb e1.symm)).last0
         rw[HLT.out]at this
         exact this
        go_wp2_with fail
        go_roundg (G-1)
        case measure=>omega
        case rel=>
         refine⟨⟨c4,cur.out,none⟩,ρ,vl,_,?_,(HR.out.ended hb3 HST4.out HKB.out HC4.out).same ((Kept.refl _ _).alloc _),hid (HLD.out.next HE.out),HMO⟩
         have h1:ms L8 ⟨c4,cur.out,none⟩=2*(L8-c4):=rfl
         omega
      | byte v=>
       have hadv:=HADV.out (by intro h9;cases h9)
       have HV:Hid (v<256):=htk
       clear htk HADV
       go_wp2_with fail
       refine HSP.mono ?_
       rintro x w4 ⟨hb4,hk4⟩
       obtain⟨rfl,hBk4,hc4,hst4⟩:=hb4.ok
       have HKB:Hid (Kept (fun j=>j=r∨j=b) wr w4):=hk4
       have HBK4:Hid (BkP w4 b (fun j=>ρ j=4) k'):=hBk4
       have HST4:Hid (St w4 r sr bs c4):=hst4
       have HC4:Hid (c4≤8*bs.length):=hc4
       have HGO:=gone_any r c4 sr bs (w4.alloc (.cells #[.int .u8 (v:Nat),.int .i64 0,.int .i64 0] 33)) (hst4.kept ((Kept.refl (fun _=>False) w4).alloc _) (fun _ _ f=>f))
       have HS4:Hid (Sm w4 h most vl (.pointer (some ⟨b,0,none⟩)) (.slice aa bs.length capa) cur.c e):=hid (HR.out.si.sm.kept HKB.out (fun f=>by rcases f with f | f;exact hhr f;exact hhb f))
       have e4:(w4.alloc (.cells #[.int .u8 (v:Nat),.int .i64 0,.int .i64 0] 33)).cell? ⟨h,4,none⟩=some (.int .i64 (cur.c:Nat)):=(HS4.out.kept ((Kept.refl (fun _=>False) w4).alloc _) (fun f=>f)).cell 4
       have f4:(w4.alloc (.cells #[.int .u8 (v:Nat),.int .i64 0,.int .i64 0] 33)).frozen? ⟨h,4,none⟩=false:=(HS4.out.kept ((Kept.refl (fun _=>False) w4).alloc _) (fun f=>f)).frozen 4
       have HS6:Hid (Sm ((w4.setCell ⟨h,4,none⟩ (.int .i64 (c4:Nat))).alloc (.cells #[.int .u8 (v:Nat),.int .i64 0,.int .i64 0] 33)) h most vl (.pointer (some ⟨b,0,none⟩)) (.slice aa bs.length capa) c4 e):=hid ((HS4.out.four c4).kept ((Kept.refl (fun _=>False) _).alloc _) (fun f=>f))
       have g2:((w4.setCell ⟨h,4,none⟩ (.int .i64 (c4:Nat))).alloc (.cells #[.int .u8 (v:Nat),.int .i64 0,.int .i64 0] 33)).cell? ⟨h,2,none⟩=some (.pointer (some ⟨b,0,none⟩)):=HS6.out.cell 2
       have z2:((w4.setCell ⟨h,4,none⟩ (.int .i64 (c4:Nat))).alloc (.cells #[.int .u8 (v:Nat),.int .i64 0,.int .i64 0] 33)).frozen? ⟨h,2,none⟩=false:=HS6.out.frozen 2
       have HKH:Hid (Kept (·=h) w4 ((w4.setCell ⟨h,4,none⟩ (.int .i64 (c4:Nat))).alloc (.cells #[.int .u8 (v:Nat),.int .i64 0,.int .i64 0] 33))):=hid (((Kept.refl (·=h) w4).setCell ⟨h,4,none⟩ _ (.inl rfl)).alloc _)
       have hhs:h<w4.heap.size:=HS4.out.lt
       clear hb4 hk4 hBk4 hc4 hst4 HSP
       simp only[tokC,isFin]
       go_wp2_with fail
       refine HGO.mono ?_
       rintro x w6 ⟨rfl,hw6⟩
       subst hw6
       clear HGO
       have HLY:=play_byte ((w4.setCell ⟨h,4,none⟩ (.int .i64 (c4:Nat))).alloc (.cells #[.int .u8 (v:Nat),.int .i64 0,.int .i64 0] 33)) h most vl (.pointer (some ⟨b,0,none⟩)) (.slice aa bs.length capa) c4 e cur.out v HS6.out (HR.out.si.row.kept (Kept.trans (H:=fun j=>j=r∨j=b∨j=h) HKB.out HKH.out (fun _ _ f=>by rcases f with f | f;exact .inl f;exact .inr (.inl f)) (fun _ _ f=>.inr (.inr f))) (fun j hj f=>by
        have:=HR.out.si.r2 j hj
        rcases f with rfl | rfl | rfl
        ·have:=HR.out.r5;omega
        ·omega
        ·have:=HR.out.si.r1;omega)) HR.out.si.neh HR.out.si.mo HR.out.si.ol
       cases hly:layP most cur.out (.byte v) with
       | error er=>
        rw[hly]at HLY
        have hne:=layP_ne hly
        have HE:Hid (stP (ofBytes bs) most cur=.error er):=hid (by rw[HSE.out];exact goP_err (by intro h9;cases h9) hly)
        clear hly HSE
        go_wp2_with fail
        refine HLY.mono ?_
        rintro x w7 ⟨rfl,her,hk7⟩
        have hed:((er:Int) != 0)=true:=by simp;omega
        have HK7:Hid (Same ((w4.setCell ⟨h,4,none⟩ (.int .i64 (c4:Nat))).alloc (.cells #[.int .u8 (v:Nat),.int .i64 0,.int .i64 0] 33)) w7):=hk7
        have HNE:Hid (er≠55):=hid (by omega)
        clear hk7 HLY her hne
        go_wp2_with fail
        rw[Exit.noGoto_ret]
        go_ret
        have hKA:Kept (fun j=>j=r∨j=b∨j=h) wr w7:=Kept.trans (Kept.trans (H:=fun j=>j=r∨j=b∨j=h) HKB.out HKH.out (fun _ _ f=>by rcases f with f | f;exact .inl f;exact .inr (.inl f)) (fun _ _ f=>.inr (.inr f))) HK7.out (fun _ _ f=>f) (fun _ _ f=>f.elim)
        exact⟨er,cur,_,_,_,_,_,rfl,HR.out.halts hb3 hKA (HS6.out.kept HK7.out (fun f=>f)) HC4.out HNE.out (HLD.out _ _ (.stop HE.out)) HMO.out (fun e0=>absurd (HE.out) (fun h9=>stP_ne (ofBytes_lt bs) HR.out.si.ok h9 e0))⟩
       | ok out=>
        rw[hly]at HLY
        have hlo:=layP_ok hly
        have HE:Hid (stP (ofBytes bs) most cur=.ok (⟨c4,out,some k'⟩,false)):=hid (by rw[HSE.out];exact goP_ok (by intro h9;cases h9) hly)
        clear hly HSE
        go_wp2_with fail
        refine HLY.mono ?_
        rintro x w7 ⟨rfl,⟨vl',hsm7,hrow7,hown7⟩,hk7⟩
        have HRN:Hid (∃ρ',RI w0 w7 ρ0 ρ' h r bx fx sr most e (.slice aa bs.length capa) bs ⟨c4,out,some k'⟩ vl' (.pointer (some ⟨b,0,none⟩))):=hid (HR.out.laid rfl hb3 HBK4.out HST4.out HKB.out HKH.out hsm7 hrow7 hown7 hk7 (hlo.2.1 HR.out.si.ol) ⟨by rw[ofBytes_length];exact HC4.out,hso.1⟩)
        have HMN:Hid (start.out.length≤out.length):=hid (Nat.le_trans HMO.out hlo.1)
        clear hsm7 hrow7 hown7 hk7 HLY hlo
        go_wp2_with fail
        go_roundg (gk-1)
        case measure=>omega
        case rel=>
         obtain⟨ρ',hr'⟩:=HRN.out
         refine⟨⟨c4,out,some k'⟩,ρ',vl',_,k',rfl,?_,by omega,hr',hid (HLD.out.next HE.out),HMN⟩
         have h1:ms L8 ⟨c4,out,some k'⟩=2*(L8-c4)+1:=rfl
         omega
      | copy n far=>
       have hadv:=HADV.out (by intro h9;cases h9)
       obtain⟨hn3,hn258,hf1,hf4⟩:3≤n∧n≤258∧1≤far∧far≤40000:=htk
       clear HADV
       go_wp2_with fail
       refine HSP.mono ?_
       rintro x w4 ⟨hb4,hk4⟩
       obtain⟨rfl,hBk4,hc4,hst4⟩:=hb4.ok
       have HKB:Hid (Kept (fun j=>j=r∨j=b) wr w4):=hk4
       have HBK4:Hid (BkP w4 b (fun j=>ρ j=4) k'):=hBk4
       have HST4:Hid (St w4 r sr bs c4):=hst4
       have HC4:Hid (c4≤8*bs.length):=hc4
       have HGO:=gone_any r c4 sr bs (w4.alloc (.cells #[.int .u8 0,.int .i64 (n:Nat),.int .i64 (far:Nat)] 33)) (hst4.kept ((Kept.refl (fun _=>False) w4).alloc _) (fun _ _ f=>f))
       have HS4:Hid (Sm w4 h most vl (.pointer (some ⟨b,0,none⟩)) (.slice aa bs.length capa) cur.c e):=hid (HR.out.si.sm.kept HKB.out (fun f=>by rcases f with f | f;exact hhr f;exact hhb f))
       have e4:(w4.alloc (.cells #[.int .u8 0,.int .i64 (n:Nat),.int .i64 (far:Nat)] 33)).cell? ⟨h,4,none⟩=some (.int .i64 (cur.c:Nat)):=(HS4.out.kept ((Kept.refl (fun _=>False) w4).alloc _) (fun f=>f)).cell 4
       have f4:(w4.alloc (.cells #[.int .u8 0,.int .i64 (n:Nat),.int .i64 (far:Nat)] 33)).frozen? ⟨h,4,none⟩=false:=(HS4.out.kept ((Kept.refl (fun _=>False) w4).alloc _) (fun f=>f)).frozen 4
       have HS6:Hid (Sm ((w4.setCell ⟨h,4,none⟩ (.int .i64 (c4:Nat))).alloc (.cells #[.int .u8 0,.int .i64 (n:Nat),.int .i64 (far:Nat)] 33)) h most vl (.pointer (some ⟨b,0,none⟩)) (.slice aa bs.length capa) c4 e):=hid ((HS4.out.four c4).kept ((Kept.refl (fun _=>False) _).alloc _) (fun f=>f))
       have g2:((w4.setCell ⟨h,4,none⟩ (.int .i64 (c4:Nat))).alloc (.cells #[.int .u8 0,.int .i64 (n:Nat),.int .i64 (far:Nat)] 33)).cell? ⟨h,2,none⟩=some (.pointer (some ⟨b,0,none⟩)):=HS6.out.cell 2
       have z2:((w4.setCell ⟨h,4,none⟩ (.int .i64 (c4:Nat))).alloc (.cells #[.int .u8 0,.int .i64 (n:Nat),.int .i64 (far:Nat)] 33)).frozen? ⟨h,2,none⟩=false:=HS6.out.frozen 2
       have HKH:Hid (Kept (·=h) w4 ((w4.setCell ⟨h,4,none⟩ (.int .i64 (c4:Nat))).alloc (.cells #[.int .u8 0,.int .i64 (n:Nat),.int .i64 (far:Nat)] 33))):=hid (((Kept.refl (·=h) w4).setCell ⟨h,4,none⟩ _ (.inl rfl)).alloc _)
       have hhs:h<w4.heap.size:=HS4.out.lt
       clear hb4 hk4 hBk4 hc4 hst4 HSP
       simp only[tokC,isFin]
       go_wp2_with fail
       refine HGO.mono ?_
       rintro x w6 ⟨rfl,hw6⟩
       subst hw6
       clear HGO
       have HLY:=play_copy ((w4.setCell ⟨h,4,none⟩ (.int .i64 (c4:Nat))).alloc (.cells #[.int .u8 0,.int .i64 (n:Nat),.int .i64 (far:Nat)] 33)) h most vl (.pointer (some ⟨b,0,none⟩)) (.slice aa bs.length capa) c4 e cur.out n far HS6.out (HR.out.si.row.kept (Kept.trans (H:=fun j=>j=r∨j=b∨j=h) HKB.out HKH.out (fun _ _ f=>by rcases f with f | f;exact .inl f;exact .inr (.inl f)) (fun _ _ f=>.inr (.inr f))) (fun j hj f=>by
        have:=HR.out.si.r2 j hj
        rcases f with rfl | rfl | rfl
        ·have:=HR.out.r5;omega
        ·omega
        ·have:=HR.out.si.r1;omega)) HR.out.si.neh HR.out.si.mo HR.out.si.ol hn3 hn258 hf1 hf4
       cases hly:layP most cur.out (.copy n far) with
       | error er=>
        rw[hly]at HLY
        have hne:=layP_ne hly
        have HE:Hid (stP (ofBytes bs) most cur=.error er):=hid (by rw[HSE.out];exact goP_err (by intro h9;cases h9) hly)
        clear hly HSE
        go_wp2_with fail
        refine HLY.mono ?_
        rintro x w7 ⟨rfl,her,hk7⟩
        have hed:((er:Int) != 0)=true:=by simp;omega
        have HK7:Hid (Same ((w4.setCell ⟨h,4,none⟩ (.int .i64 (c4:Nat))).alloc (.cells #[.int .u8 0,.int .i64 (n:Nat),.int .i64 (far:Nat)] 33)) w7):=hk7
        have HNE:Hid (er≠55):=hid (by omega)
        clear hk7 HLY her hne
        go_wp2_with fail
        rw[Exit.noGoto_ret]
        go_ret
        have hKA:Kept (fun j=>j=r∨j=b∨j=h) wr w7:=Kept.trans (Kept.trans (H:=fun j=>j=r∨j=b∨j=h) HKB.out HKH.out (fun _ _ f=>by rcases f with f | f;exact .inl f;exact .inr (.inl f)) (fun _ _ f=>.inr (.inr f))) HK7.out (fun _ _ f=>f) (fun _ _ f=>f.elim)
        exact⟨er,cur,_,_,_,_,_,rfl,HR.out.halts hb3 hKA (HS6.out.kept HK7.out (fun f=>f)) HC4.out HNE.out (HLD.out _ _ (.stop HE.out)) HMO.out (fun e0=>absurd (HE.out) (fun h9=>stP_ne (ofBytes_lt bs) HR.out.si.ok h9 e0))⟩
       | ok out=>
        rw[hly]at HLY
        have hlo:=layP_ok hly
        have HE:Hid (stP (ofBytes bs) most cur=.ok (⟨c4,out,some k'⟩,false)):=hid (by rw[HSE.out];exact goP_ok (by intro h9;cases h9) hly)
        clear hly HSE
        go_wp2_with fail
        refine HLY.mono ?_
        rintro x w7 ⟨rfl,⟨vl',hsm7,hrow7,hown7⟩,hk7⟩
        have HRN:Hid (∃ρ',RI w0 w7 ρ0 ρ' h r bx fx sr most e (.slice aa bs.length capa) bs ⟨c4,out,some k'⟩ vl' (.pointer (some ⟨b,0,none⟩))):=hid (HR.out.laid rfl hb3 HBK4.out HST4.out HKB.out HKH.out hsm7 hrow7 hown7 hk7 (hlo.2.1 HR.out.si.ol) ⟨by rw[ofBytes_length];exact HC4.out,hso.1⟩)
        have HMN:Hid (start.out.length≤out.length):=hid (Nat.le_trans HMO.out hlo.1)
        clear hsm7 hrow7 hown7 hk7 HLY hlo
        go_wp2_with fail
        go_roundg (gk-1)
        case measure=>omega
        case rel=>
         obtain⟨ρ',hr'⟩:=HRN.out
         refine⟨⟨c4,out,some k'⟩,ρ',vl',_,k',rfl,?_,by omega,hr',hid (HLD.out.next HE.out),HMN⟩
         have h1:ms L8 ⟨c4,out,some k'⟩=2*(L8-c4)+1:=rfl
         omega
  | some k=>
   have hbkin:=HR.out.si.bk
   rw[hbk]at hbkin
   obtain⟨b,rfl,_,_⟩:=hbkin
   have d2:wr.cell? ⟨h,2,none⟩=some (.pointer (some ⟨b,0,none⟩)):=HR.out.si.sm.cell 2
   have HI:Hid (∃(cur:Ps) (ρ:Part) (vl bv:Value) (k:Bk),cur.bk=some k∧ms L8 cur≤G∧Hid (RI w0 wr ρ0 ρ h r bx fx sr most e (.slice aa bs.length capa) bs cur vl bv)∧Hid (Leads (ofBytes bs) most start cur)∧Hid (start.out.length≤cur.out.length)):=hid ⟨cur,ρ,vl,_,k,hbk,by omega,HR,HLD,HMO⟩
   clear HR HLD HMO
   go_wp2_with fail
   go_loopg [7] G (fun q z wr=>∃(cur:Ps) (ρ:Part) (vl bv:Value) (k:Bk),cur.bk=some k∧ms L8 cur≤q∧q≤G∧Hid (RI w0 wr ρ0 ρ h r bx fx sr most e (.slice aa bs.length capa) bs cur vl bv)∧Hid (Leads (ofBytes bs) most start cur)∧Hid (start.out.length≤cur.out.length))
   case atStart=>
    obtain⟨cur,ρ,vl,bv,k,h1,h2,h3,h4,h5⟩:=HI.out
    exact⟨cur,ρ,vl,bv,k,h1,h2,Nat.le_refl _,h3,h4,h5⟩
   case round=>
    clear HI
    obtain⟨cur,ρ,vl,bv,k,hbk,hq,hqG,HR,HLD,HMO⟩:=hrel
    have hbkin:=HR.out.si.bk
    rw[hbk]at hbkin
    obtain⟨b,rfl,hBk,hb3⟩:=hbkin
    have d2:wr.cell? ⟨h,2,none⟩=some (.pointer (some ⟨b,0,none⟩)):=HR.out.si.sm.cell 2
    have hbok:BkOk (some k):=by rw[←hbk];exact HR.out.si.ok.bk
    have HBOK:Hid (BkOk (some k)):=hbok
    have HSP:=pstep_any wr b r cur.c sr bs k (fun j=>ρ j=4) hBk (fun j hj=>HR.out.si.lt j (by omega)) (fun j hj hf=>by have:=HR.out.fp hf;omega) (fun hf=>by have:=HR.out.fp hf;omega) hbok HR.out.st HR.out.si.len HLEN.out
    have hhb:h≠b:=fun e1=>by have:=HR.out.si.r1;rw[e1,hb3]at this;cases this
    have hhr:h≠r:=fun e1=>by have:=HR.out.si.r1;rw[e1,HR.out.r5]at this;cases this
    have hcL:cur.c≤L8:=by have:=HR.out.si.ok.le;rw[←HL8.out]at this;exact this
    have hms1:ms L8 cur=2*(L8-cur.c)+1:=by unfold ms;rw[hbk]
    clear hBk hbok
    cases hsp:stepP (ofBytes bs) k cur.c with
    | error er=>
     rw[hsp]at HSP
     have HE:Hid (stP (ofBytes bs) most cur=.error er):=hid (stP_some_err hbk hsp)
     clear hsp
     go_wp2_with fail
     refine HSP.mono ?_
     rintro x w4 ⟨hb4,hk4⟩
     obtain⟨rfl,her,hBk4,_⟩:=hb4.err
     have hed:((er:Int) != 0)=true:=by simp;omega
     have HKB:Hid (Kept (fun j=>j=r∨j=b) wr w4):=hk4
     have HBK4:Hid (BkP w4 b (fun j=>ρ j=4) k):=hBk4
     have HER:Hid (er≠0):=her
     clear hb4 hk4 her HSP hBk4
     go_wp2_with fail
     rw[Exit.noGoto_ret]
     go_ret
     have hkT:Same w4 (w4.alloc (.cells #[.int .u8 0,.int .i64 0,.int .i64 0] 33)):=(Kept.refl _ w4).alloc _
     exact⟨er,cur,_,_,_,_,_,rfl,HR.out.stays rfl hbk hb3 (HBK4.out.kept hkT (fun _ _ f=>f) (fun f=>f)) (Kept.trans HKB.out hkT (fun _ _ f=>f) (fun _ _ f=>f.elim)) HER.out (HLD.out _ _ (.stop HE.out)) HMO.out⟩
    | ok x=>
     obtain⟨⟨t,k'⟩,c4⟩:=x
     rw[hsp]at HSP
     have hso:=stepP_ok hsp HBOK.out
     have htk:=stepP_tok (ofBytes_lt bs) hsp
     have hge:=(stepP_loc (ofBytes bs) (ofBytes_lt bs) k cur.c HBOK.out HR.out.si.ok.le).ge _ _ hsp
     have HSE:Hid (stP (ofBytes bs) most cur=goP most cur k ((t,k'),c4)):=hid (stP_some_ok hbk hsp)
     have HADV:Hid (t≠.fin→cur.c<c4):=hid (fun ht=>stepP_adv (ofBytes_lt bs) HBOK.out HR.out.si.ok.le hsp ht)
     rw[←HL8.out]at hge
     clear hsp
     cases t with
     | fin=>
      have HL:Hid (k'.last=k.last):=hso.2
      clear htk HADV
      cases hlast:k.last with
      | true=>
       have HE:Hid (stP (ofBytes bs) most cur=.ok (⟨c4,cur.out,some k'⟩,true)):=hid (by rw[HSE.out,goP_fin,hlast,if_pos rfl])
       have HLT:Hid (k'.last=true):=hid (HL.out.trans hlast)
       clear hlast HSE
       go_wp2_with fail
       refine HSP.mono ?_
       rintro x w4 ⟨hb4,hk4⟩
       obtain⟨rfl,hBk4,hc4,hst4⟩:=hb4.ok
       have HKB:Hid (Kept (fun j=>j=r∨j=b) wr w4):=hk4
       have HBK4:Hid (BkP w4 b (fun j=>ρ j=4) k'):=hBk4
       have HST4:Hid (St w4 r sr bs c4):=hst4
       have HC4:Hid (c4≤8*bs.length):=hc4
       have HGO:=gone_any r c4 sr bs (w4.alloc (.cells #[.int .u8 0,.int .i64 0,.int .i64 0] 33)) (hst4.kept ((Kept.refl (fun _=>False) w4).alloc _) (fun _ _ f=>f))
       have HS4:Hid (Sm w4 h most vl (.pointer (some ⟨b,0,none⟩)) (.slice aa bs.length capa) cur.c e):=hid (HR.out.si.sm.kept HKB.out (fun f=>by rcases f with f | f;exact hhr f;exact hhb f))
       have e4:(w4.alloc (.cells #[.int .u8 0,.int .i64 0,.int .i64 0] 33)).cell? ⟨h,4,none⟩=some (.int .i64 (cur.c:Nat)):=(HS4.out.kept ((Kept.refl (fun _=>False) w4).alloc _) (fun f=>f)).cell 4
       have f4:(w4.alloc (.cells #[.int .u8 0,.int .i64 0,.int .i64 0] 33)).frozen? ⟨h,4,none⟩=false:=(HS4.out.kept ((Kept.refl (fun _=>False) w4).alloc _) (fun f=>f)).frozen 4
       have HS6:Hid (Sm ((w4.setCell ⟨h,4,none⟩ (.int .i64 (c4:Nat))).alloc (.cells #[.int .u8 0,.int .i64 0,.int .i64 0] 33)) h most vl (.pointer (some ⟨b,0,none⟩)) (.slice aa bs.length capa) c4 e):=hid ((HS4.out.four c4).kept ((Kept.refl (fun _=>False) _).alloc _) (fun f=>f))
       have g2:((w4.setCell ⟨h,4,none⟩ (.int .i64 (c4:Nat))).alloc (.cells #[.int .u8 0,.int .i64 0,.int .i64 0] 33)).cell? ⟨h,2,none⟩=some (.pointer (some ⟨b,0,none⟩)):=HS6.out.cell 2
       have z2:((w4.setCell ⟨h,4,none⟩ (.int .i64 (c4:Nat))).alloc (.cells #[.int .u8 0,.int .i64 0,.int .i64 0] 33)).frozen? ⟨h,2,none⟩=false:=HS6.out.frozen 2
       have HKH:Hid (Kept (·=h) w4 ((w4.setCell ⟨h,4,none⟩ (.int .i64 (c4:Nat))).alloc (.cells #[.int .u8 0,.int .i64 0,.int .i64 0] 33))):=hid (((Kept.refl (·=h) w4).setCell ⟨h,4,none⟩ _ (.inl rfl)).alloc _)
       have hhs:h<w4.heap.size:=HS4.out.lt
       clear hb4 hk4 hBk4 hc4 hst4 HSP
       simp only[tokC,isFin,tok0]
       go_wp2_with fail
       refine HGO.mono ?_
       rintro x w6 ⟨rfl,hw6⟩
       subst hw6
       clear HGO
       have b0:((w4.setCell ⟨h,4,none⟩ (.int .i64 (c4:Nat))).alloc (.cells #[.int .u8 0,.int .i64 0,.int .i64 0] 33)).cell? ⟨b,0,none⟩=some (.bool true):=by
        have:=(HBK4.out.kept HKH.out (fun j hj e1=>by have:=HR.out.si.r1;rw[←e1]at this;omega) (fun e1=>hhb e1.symm)).last0
        rw[HLT.out]at this
        exact this
       have HAL:=ralign_any r c4 sr bs _ (HST4.out.kept HKH.out (fun j hj e1=>by have:=HR.out.fp hj;rw[e1,HR.out.si.r1]at this;omega)) (by have:=HC4.out;have:=HLEN.out;omega)
       go_wp2_with fail
       refine HAL.mono ?_
       rintro x w7 ⟨rfl,hst7,hk7⟩
       obtain⟨cc,hcc⟩:∃cc,cc=(c4+7) / 8*8:=⟨_,rfl⟩
       rw[←hcc]at hst7
       have HGO:=gone_any r cc sr bs w7 hst7
       have HS7:Hid (Sm w7 h most vl (.pointer (some ⟨b,0,none⟩)) (.slice aa bs.length capa) c4 e):=hid (HS6.out.kept hk7 hhr)
       have e7:w7.cell? ⟨h,4,none⟩=some (.int .i64 (c4:Nat)):=HS7.out.cell 4
       have f7:w7.frozen? ⟨h,4,none⟩=false:=HS7.out.frozen 4
       have HK7:Hid (Kept (·=r) ((w4.setCell ⟨h,4,none⟩ (.int .i64 (c4:Nat))).alloc (.cells #[.int .u8 0,.int .i64 0,.int .i64 0] 33)) w7):=hk7
       have HCC:Hid (cc=(c4+7) / 8*8):=hcc
       clear hst7 hk7 HAL hcc
       go_wp2_with fail
       refine HGO.mono ?_
       rintro x w8 ⟨rfl,hw8⟩
       subst hw8
       clear HGO
       go_wp2_with fail
       rw[Exit.noGoto_ret]
       go_ret
       have hKs:Kept (·=h) w8 (w8.setCell ⟨h,4,none⟩ (.int .i64 (cc:Nat))):=(Kept.refl (·=h) w8).setCell ⟨h,4,none⟩ _ (.inl rfl)
       have hKA:Kept (fun j=>j=r∨j=b∨j=h) wr (w8.setCell ⟨h,4,none⟩ (.int .i64 (cc:Nat))):=Kept.trans (Kept.trans (H:=fun j=>j=r∨j=b∨j=h) (Kept.trans (H:=fun j=>j=r∨j=b∨j=h) HKB.out HKH.out (fun _ _ f=>by rcases f with f | f;exact .inl f;exact .inr (.inl f)) (fun _ _ f=>.inr (.inr f))) HK7.out (fun _ _ f=>f) (fun _ _ f=>.inl f)) hKs (fun _ _ f=>f) (fun _ _ f=>.inr (.inr f))
       exact⟨0,⟨c4,cur.out,some k'⟩,_,_,_,_,_,rfl,HR.out.halts hb3 hKA (HS7.out.four cc) (by have:=HC4.out;have:=HCC.out;omega) (by decide) (HLD.out _ _ (.done HE.out)) HMO.out (fun _=>⟨rfl,HCC.out⟩)⟩
      | false=>
       have HE:Hid (stP (ofBytes bs) most cur=.ok (⟨c4,cur.out,none⟩,false)):=hid (by rw[HSE.out,goP_fin,hlast,if_neg (by decide)])
       have HLT:Hid (k'.last=false):=hid (HL.out.trans hlast)
       clear hlast HSE
       go_wp2_with fail
       refine HSP.mono ?_
       rintro x w4 ⟨hb4,hk4⟩
       obtain⟨rfl,hBk4,hc4,hst4⟩:=hb4.ok
       have HKB:Hid (Kept (fun j=>j=r∨j=b) wr w4):=hk4
       have HBK4:Hid (BkP w4 b (fun j=>ρ j=4) k'):=hBk4
       have HST4:Hid (St w4 r sr bs c4):=hst4
       have HC4:Hid (c4≤8*bs.length):=hc4
       have HGO:=gone_any r c4 sr bs (w4.alloc (.cells #[.int .u8 0,.int .i64 0,.int .i64 0] 33)) (hst4.kept ((Kept.refl (fun _=>False) w4).alloc _) (fun _ _ f=>f))
       have HS4:Hid (Sm w4 h most vl (.pointer (some ⟨b,0,none⟩)) (.slice aa bs.length capa) cur.c e):=hid (HR.out.si.sm.kept HKB.out (fun f=>by rcases f with f | f;exact hhr f;exact hhb f))
       have e4:(w4.alloc (.cells #[.int .u8 0,.int .i64 0,.int .i64 0] 33)).cell? ⟨h,4,none⟩=some (.int .i64 (cur.c:Nat)):=(HS4.out.kept ((Kept.refl (fun _=>False) w4).alloc _) (fun f=>f)).cell 4
       have f4:(w4.alloc (.cells #[.int .u8 0,.int .i64 0,.int .i64 0] 33)).frozen? ⟨h,4,none⟩=false:=(HS4.out.kept ((Kept.refl (fun _=>False) w4).alloc _) (fun f=>f)).frozen 4
       have HS6:Hid (Sm ((w4.setCell ⟨h,4,none⟩ (.int .i64 (c4:Nat))).alloc (.cells #[.int .u8 0,.int .i64 0,.int .i64 0] 33)) h most vl (.pointer (some ⟨b,0,none⟩)) (.slice aa bs.length capa) c4 e):=hid ((HS4.out.four c4).kept ((Kept.refl (fun _=>False) _).alloc _) (fun f=>f))
       have g2:((w4.setCell ⟨h,4,none⟩ (.int .i64 (c4:Nat))).alloc (.cells #[.int .u8 0,.int .i64 0,.int .i64 0] 33)).cell? ⟨h,2,none⟩=some (.pointer (some ⟨b,0,none⟩)):=HS6.out.cell 2
       have z2:((w4.setCell ⟨h,4,none⟩ (.int .i64 (c4:Nat))).alloc (.cells #[.int .u8 0,.int .i64 0,.int .i64 0] 33)).frozen? ⟨h,2,none⟩=false:=HS6.out.frozen 2
       have HKH:Hid (Kept (·=h) w4 ((w4.setCell ⟨h,4,none⟩ (.int .i64 (c4:Nat))).alloc (.cells #[.int .u8 0,.int .i64 0,.int .i64 0] 33))):=hid (((Kept.refl (·=h) w4).setCell ⟨h,4,none⟩ _ (.inl rfl)).alloc _)
       have hhs:h<w4.heap.size:=HS4.out.lt
       clear hb4 hk4 hBk4 hc4 hst4 HSP
       simp only[tokC,isFin,tok0]
       go_wp2_with fail
       refine HGO.mono ?_
       rintro x w6 ⟨rfl,hw6⟩
       subst hw6
       clear HGO
       have b0:((w4.setCell ⟨h,4,none⟩ (.int .i64 (c4:Nat))).alloc (.cells #[.int .u8 0,.int .i64 0,.int .i64 0] 33)).cell? ⟨b,0,none⟩=some (.bool false):=by
        have:=(HBK4.out.kept HKH.out (fun j hj e1=>by have:=HR.out.si.r1;rw[←e1]at this;omega) (fun e1=>hhb e1.symm)).last0
        rw[HLT.out]at this
        exact this
       go_wp2_with fail
       go_roundg (G-1)
       case measure=>omega
       case rel=>
        refine⟨⟨c4,cur.out,none⟩,ρ,vl,_,?_,(HR.out.ended hb3 HST4.out HKB.out HC4.out).same ((Kept.refl _ _).alloc _),hid (HLD.out.next HE.out),HMO⟩
        have h1:ms L8 ⟨c4,cur.out,none⟩=2*(L8-c4):=rfl
        omega
     | byte v=>
      have hadv:=HADV.out (by intro h9;cases h9)
      have HV:Hid (v<256):=htk
      clear htk HADV
      go_wp2_with fail
      refine HSP.mono ?_
      rintro x w4 ⟨hb4,hk4⟩
      obtain⟨rfl,hBk4,hc4,hst4⟩:=hb4.ok
      have HKB:Hid (Kept (fun j=>j=r∨j=b) wr w4):=hk4
      have HBK4:Hid (BkP w4 b (fun j=>ρ j=4) k'):=hBk4
      have HST4:Hid (St w4 r sr bs c4):=hst4
      have HC4:Hid (c4≤8*bs.length):=hc4
      have HGO:=gone_any r c4 sr bs (w4.alloc (.cells #[.int .u8 (v:Nat),.int .i64 0,.int .i64 0] 33)) (hst4.kept ((Kept.refl (fun _=>False) w4).alloc _) (fun _ _ f=>f))
      have HS4:Hid (Sm w4 h most vl (.pointer (some ⟨b,0,none⟩)) (.slice aa bs.length capa) cur.c e):=hid (HR.out.si.sm.kept HKB.out (fun f=>by rcases f with f | f;exact hhr f;exact hhb f))
      have e4:(w4.alloc (.cells #[.int .u8 (v:Nat),.int .i64 0,.int .i64 0] 33)).cell? ⟨h,4,none⟩=some (.int .i64 (cur.c:Nat)):=(HS4.out.kept ((Kept.refl (fun _=>False) w4).alloc _) (fun f=>f)).cell 4
      have f4:(w4.alloc (.cells #[.int .u8 (v:Nat),.int .i64 0,.int .i64 0] 33)).frozen? ⟨h,4,none⟩=false:=(HS4.out.kept ((Kept.refl (fun _=>False) w4).alloc _) (fun f=>f)).frozen 4
      have HS6:Hid (Sm ((w4.setCell ⟨h,4,none⟩ (.int .i64 (c4:Nat))).alloc (.cells #[.int .u8 (v:Nat),.int .i64 0,.int .i64 0] 33)) h most vl (.pointer (some ⟨b,0,none⟩)) (.slice aa bs.length capa) c4 e):=hid ((HS4.out.four c4).kept ((Kept.refl (fun _=>False) _).alloc _) (fun f=>f))
      have g2:((w4.setCell ⟨h,4,none⟩ (.int .i64 (c4:Nat))).alloc (.cells #[.int .u8 (v:Nat),.int .i64 0,.int .i64 0] 33)).cell? ⟨h,2,none⟩=some (.pointer (some ⟨b,0,none⟩)):=HS6.out.cell 2
      have z2:((w4.setCell ⟨h,4,none⟩ (.int .i64 (c4:Nat))).alloc (.cells #[.int .u8 (v:Nat),.int .i64 0,.int .i64 0] 33)).frozen? ⟨h,2,none⟩=false:=HS6.out.frozen 2
      have HKH:Hid (Kept (·=h) w4 ((w4.setCell ⟨h,4,none⟩ (.int .i64 (c4:Nat))).alloc (.cells #[.int .u8 (v:Nat),.int .i64 0,.int .i64 0] 33))):=hid (((Kept.refl (·=h) w4).setCell ⟨h,4,none⟩ _ (.inl rfl)).alloc _)
      have hhs:h<w4.heap.size:=HS4.out.lt
      clear hb4 hk4 hBk4 hc4 hst4 HSP
      simp only[tokC,isFin]
      go_wp2_with fail
      refine HGO.mono ?_
      rintro x w6 ⟨rfl,hw6⟩
      subst hw6
      clear HGO
      have HLY:=play_byte ((w4.setCell ⟨h,4,none⟩ (.int .i64 (c4:Nat))).alloc (.cells #[.int .u8 (v:Nat),.int .i64 0,.int .i64 0] 33)) h most vl (.pointer (some ⟨b,0,none⟩)) (.slice aa bs.length capa) c4 e cur.out v HS6.out (HR.out.si.row.kept (Kept.trans (H:=fun j=>j=r∨j=b∨j=h) HKB.out HKH.out (fun _ _ f=>by rcases f with f | f;exact .inl f;exact .inr (.inl f)) (fun _ _ f=>.inr (.inr f))) (fun j hj f=>by
       have:=HR.out.si.r2 j hj
       rcases f with rfl | rfl | rfl
       ·have:=HR.out.r5;omega
       ·omega
       ·have:=HR.out.si.r1;omega)) HR.out.si.neh HR.out.si.mo HR.out.si.ol
      cases hly:layP most cur.out (.byte v) with
      | error er=>
       rw[hly]at HLY
       have hne:=layP_ne hly
       have HE:Hid (stP (ofBytes bs) most cur=.error er):=hid (by rw[HSE.out];exact goP_err (by intro h9;cases h9) hly)
       clear hly HSE
       go_wp2_with fail
       refine HLY.mono ?_
       rintro x w7 ⟨rfl,her,hk7⟩
       have hed:((er:Int) != 0)=true:=by simp;omega
       have HK7:Hid (Same ((w4.setCell ⟨h,4,none⟩ (.int .i64 (c4:Nat))).alloc (.cells #[.int .u8 (v:Nat),.int .i64 0,.int .i64 0] 33)) w7):=hk7
       have HNE:Hid (er≠55):=hid (by omega)
       clear hk7 HLY her hne
       go_wp2_with fail
       rw[Exit.noGoto_ret]
       go_ret
       have hKA:Kept (fun j=>j=r∨j=b∨j=h) wr w7:=Kept.trans (Kept.trans (H:=fun j=>j=r∨j=b∨j=h) HKB.out HKH.out (fun _ _ f=>by rcases f with f | f;exact .inl f;exact .inr (.inl f)) (fun _ _ f=>.inr (.inr f))) HK7.out (fun _ _ f=>f) (fun _ _ f=>f.elim)
       exact⟨er,cur,_,_,_,_,_,rfl,HR.out.halts hb3 hKA (HS6.out.kept HK7.out (fun f=>f)) HC4.out HNE.out (HLD.out _ _ (.stop HE.out)) HMO.out (fun e0=>absurd (HE.out) (fun h9=>stP_ne (ofBytes_lt bs) HR.out.si.ok h9 e0))⟩
      | ok out=>
       rw[hly]at HLY
       have hlo:=layP_ok hly
       have HE:Hid (stP (ofBytes bs) most cur=.ok (⟨c4,out,some k'⟩,false)):=hid (by rw[HSE.out];exact goP_ok (by intro h9;cases h9) hly)
       clear hly HSE
       go_wp2_with fail
       refine HLY.mono ?_
       rintro x w7 ⟨rfl,⟨vl',hsm7,hrow7,hown7⟩,hk7⟩
       have HRN:Hid (∃ρ',RI w0 w7 ρ0 ρ' h r bx fx sr most e (.slice aa bs.length capa) bs ⟨c4,out,some k'⟩ vl' (.pointer (some ⟨b,0,none⟩))):=hid (HR.out.laid rfl hb3 HBK4.out HST4.out HKB.out HKH.out hsm7 hrow7 hown7 hk7 (hlo.2.1 HR.out.si.ol) ⟨by rw[ofBytes_length];exact HC4.out,hso.1⟩)
       have HMN:Hid (start.out.length≤out.length):=hid (Nat.le_trans HMO.out hlo.1)
       clear hsm7 hrow7 hown7 hk7 HLY hlo
       go_wp2_with fail
       go_roundg (gk-1)
       case measure=>omega
       case rel=>
        obtain⟨ρ',hr'⟩:=HRN.out
        refine⟨⟨c4,out,some k'⟩,ρ',vl',_,k',rfl,?_,by omega,hr',hid (HLD.out.next HE.out),HMN⟩
        have h1:ms L8 ⟨c4,out,some k'⟩=2*(L8-c4)+1:=rfl
        omega
     | copy n far=>
      have hadv:=HADV.out (by intro h9;cases h9)
      obtain⟨hn3,hn258,hf1,hf4⟩:3≤n∧n≤258∧1≤far∧far≤40000:=htk
      clear HADV
      go_wp2_with fail
      refine HSP.mono ?_
      rintro x w4 ⟨hb4,hk4⟩
      obtain⟨rfl,hBk4,hc4,hst4⟩:=hb4.ok
      have HKB:Hid (Kept (fun j=>j=r∨j=b) wr w4):=hk4
      have HBK4:Hid (BkP w4 b (fun j=>ρ j=4) k'):=hBk4
      have HST4:Hid (St w4 r sr bs c4):=hst4
      have HC4:Hid (c4≤8*bs.length):=hc4
      have HGO:=gone_any r c4 sr bs (w4.alloc (.cells #[.int .u8 0,.int .i64 (n:Nat),.int .i64 (far:Nat)] 33)) (hst4.kept ((Kept.refl (fun _=>False) w4).alloc _) (fun _ _ f=>f))
      have HS4:Hid (Sm w4 h most vl (.pointer (some ⟨b,0,none⟩)) (.slice aa bs.length capa) cur.c e):=hid (HR.out.si.sm.kept HKB.out (fun f=>by rcases f with f | f;exact hhr f;exact hhb f))
      have e4:(w4.alloc (.cells #[.int .u8 0,.int .i64 (n:Nat),.int .i64 (far:Nat)] 33)).cell? ⟨h,4,none⟩=some (.int .i64 (cur.c:Nat)):=(HS4.out.kept ((Kept.refl (fun _=>False) w4).alloc _) (fun f=>f)).cell 4
      have f4:(w4.alloc (.cells #[.int .u8 0,.int .i64 (n:Nat),.int .i64 (far:Nat)] 33)).frozen? ⟨h,4,none⟩=false:=(HS4.out.kept ((Kept.refl (fun _=>False) w4).alloc _) (fun f=>f)).frozen 4
      have HS6:Hid (Sm ((w4.setCell ⟨h,4,none⟩ (.int .i64 (c4:Nat))).alloc (.cells #[.int .u8 0,.int .i64 (n:Nat),.int .i64 (far:Nat)] 33)) h most vl (.pointer (some ⟨b,0,none⟩)) (.slice aa bs.length capa) c4 e):=hid ((HS4.out.four c4).kept ((Kept.refl (fun _=>False) _).alloc _) (fun f=>f))
      have g2:((w4.setCell ⟨h,4,none⟩ (.int .i64 (c4:Nat))).alloc (.cells #[.int .u8 0,.int .i64 (n:Nat),.int .i64 (far:Nat)] 33)).cell? ⟨h,2,none⟩=some (.pointer (some ⟨b,0,none⟩)):=HS6.out.cell 2
      have z2:((w4.setCell ⟨h,4,none⟩ (.int .i64 (c4:Nat))).alloc (.cells #[.int .u8 0,.int .i64 (n:Nat),.int .i64 (far:Nat)] 33)).frozen? ⟨h,2,none⟩=false:=HS6.out.frozen 2
      have HKH:Hid (Kept (·=h) w4 ((w4.setCell ⟨h,4,none⟩ (.int .i64 (c4:Nat))).alloc (.cells #[.int .u8 0,.int .i64 (n:Nat),.int .i64 (far:Nat)] 33))):=hid (((Kept.refl (·=h) w4).setCell ⟨h,4,none⟩ _ (.inl rfl)).alloc _)
      have hhs:h<w4.heap.size:=HS4.out.lt
      clear hb4 hk4 hBk4 hc4 hst4 HSP
      simp only[tokC,isFin]
      go_wp2_with fail
      refine HGO.mono ?_
      rintro x w6 ⟨rfl,hw6⟩
      subst hw6
      clear HGO
      have HLY:=play_copy ((w4.setCell ⟨h,4,none⟩ (.int .i64 (c4:Nat))).alloc (.cells #[.int .u8 0,.int .i64 (n:Nat),.int .i64 (far:Nat)] 33)) h most vl (.pointer (some ⟨b,0,none⟩)) (.slice aa bs.length capa) c4 e cur.out n far HS6.out (HR.out.si.row.kept (Kept.trans (H:=fun j=>j=r∨j=b∨j=h) HKB.out HKH.out (fun _ _ f=>by rcases f with f | f;exact .inl f;exact .inr (.inl f)) (fun _ _ f=>.inr (.inr f))) (fun j hj f=>by
       have:=HR.out.si.r2 j hj
       rcases f with rfl | rfl | rfl
       ·have:=HR.out.r5;omega
       ·omega
       ·have:=HR.out.si.r1;omega)) HR.out.si.neh HR.out.si.mo HR.out.si.ol hn3 hn258 hf1 hf4
      cases hly:layP most cur.out (.copy n far) with
      | error er=>
       rw[hly]at HLY
       have hne:=layP_ne hly
       have HE:Hid (stP (ofBytes bs) most cur=.error er):=hid (by rw[HSE.out];exact goP_err (by intro h9;cases h9) hly)
       clear hly HSE
       go_wp2_with fail
       refine HLY.mono ?_
       rintro x w7 ⟨rfl,her,hk7⟩
       have hed:((er:Int) != 0)=true:=by simp;omega
       have HK7:Hid (Same ((w4.setCell ⟨h,4,none⟩ (.int .i64 (c4:Nat))).alloc (.cells #[.int .u8 0,.int .i64 (n:Nat),.int .i64 (far:Nat)] 33)) w7):=hk7
       have HNE:Hid (er≠55):=hid (by omega)
       clear hk7 HLY her hne
       go_wp2_with fail
       rw[Exit.noGoto_ret]
       go_ret
       have hKA:Kept (fun j=>j=r∨j=b∨j=h) wr w7:=Kept.trans (Kept.trans (H:=fun j=>j=r∨j=b∨j=h) HKB.out HKH.out (fun _ _ f=>by rcases f with f | f;exact .inl f;exact .inr (.inl f)) (fun _ _ f=>.inr (.inr f))) HK7.out (fun _ _ f=>f) (fun _ _ f=>f.elim)
       exact⟨er,cur,_,_,_,_,_,rfl,HR.out.halts hb3 hKA (HS6.out.kept HK7.out (fun f=>f)) HC4.out HNE.out (HLD.out _ _ (.stop HE.out)) HMO.out (fun e0=>absurd (HE.out) (fun h9=>stP_ne (ofBytes_lt bs) HR.out.si.ok h9 e0))⟩
      | ok out=>
       rw[hly]at HLY
       have hlo:=layP_ok hly
       have HE:Hid (stP (ofBytes bs) most cur=.ok (⟨c4,out,some k'⟩,false)):=hid (by rw[HSE.out];exact goP_ok (by intro h9;cases h9) hly)
       clear hly HSE
       go_wp2_with fail
       refine HLY.mono ?_
       rintro x w7 ⟨rfl,⟨vl',hsm7,hrow7,hown7⟩,hk7⟩
       have HRN:Hid (∃ρ',RI w0 w7 ρ0 ρ' h r bx fx sr most e (.slice aa bs.length capa) bs ⟨c4,out,some k'⟩ vl' (.pointer (some ⟨b,0,none⟩))):=hid (HR.out.laid rfl hb3 HBK4.out HST4.out HKB.out HKH.out hsm7 hrow7 hown7 hk7 (hlo.2.1 HR.out.si.ol) ⟨by rw[ofBytes_length];exact HC4.out,hso.1⟩)
       have HMN:Hid (start.out.length≤out.length):=hid (Nat.le_trans HMO.out hlo.1)
       clear hsm7 hrow7 hown7 hk7 HLY hlo
       go_wp2_with fail
       go_roundg (gk-1)
       case measure=>omega
       case rel=>
        obtain⟨ρ',hr'⟩:=HRN.out
        refine⟨⟨c4,out,some k'⟩,ρ',vl',_,k',rfl,?_,by omega,hr',hid (HLD.out.next HE.out),HMN⟩
        have h1:ms L8 ⟨c4,out,some k'⟩=2*(L8-c4)+1:=rfl
        omega

end Go.Proofs.YtggcbnhckcenmaaGreatDoor

namespace Go.Proofs.YtggcbnhckcenmaaGreatDoor
open Go.RowKit
set_option maxRecDepth 100000 in
set_option maxHeartbeats 2000000 in
theorem pkeep_wait(w:World)(ρ:Part)(h most e:Nat)(va:Value)(bs out:List Nat)(gone:Nat)(vl bv:Value)(s:SW w ρ h most e va bs out gone vl bv)(hlen:bs.length≤2000000):
  Calls Tryz.prog 52 #[.pointer (some ⟨h,0,none⟩),.int .i64 55] w fun x w'=>(∃u,x=.returned u)∧∃va',Sm w' h most vl bv va' (gone % 8) e∧Row w' va' (bs.drop (gone / 8))∧(∀k,va'.ownBlock=some k→w.heap.size≤k)∧Kept (·=h) w w':=by
 obtain⟨aa,capa,hva,_⟩:=s.ah.shape
 have HS:Hid (SW w ρ h most e va bs out gone vl bv):=s
 subst hva
 have hhl:=s.sm.lt
 have c3:=s.sm.cell 3
 have c4:=s.sm.cell 4
 simp at c3 c4
 have HAH:Hid (Row w (.slice aa bs.length capa) bs):=s.ah
 obtain⟨LB,hLB⟩:∃L,L=bs.length:=⟨_,rfl⟩
 rw[←hLB]at c3 hlen
 obtain⟨k,hk⟩:∃k,k=gone / 8:=⟨_,rfl⟩
 have hkI:(gone:Int) / 8=(k:Int):=by omega
 have hkl:k≤LB:=by have:=s.gl;omega
 have hcap:LB≤capa:=by
  rcases s.ah.2 with⟨e1,_⟩ | ⟨g,cp,cur,e1,_,_,hle,_⟩
  ·simp only[Value.slice.injEq]at e1;omega
  ·simp only[Value.slice.injEq]at e1;omega
 have HCL:Hid (∀(W:World) (a':Option Addr) (c':Nat),Same w W→(k<LB→∃g,aa=some ⟨g,0,none⟩∧a'=some ⟨g,k,none⟩)→Calls Tryz.prog 51 #[.slice a' (LB-k) c'] W fun x w'=>∃v',x=.returned v'∧Fresh W w' v' (bs.drop k)):=hid (fun W a' c' hW ha=>by
  have:=pclone_any W (.slice a' (LB-k) c') _ (bs.drop k) (by rw[hLB];exact(HAH.out.rest k (by omega) a' c' (by rw[←hLB];exact ha)).kept hW (fun _ _ _ f=>f)) (by rw[List.length_drop];omega)
  exact this)
 have HK:Hid (k=gone / 8):=hk
 have hkw:IntKind.i64.wrap (k:Int)=(k:Int):=by rw[IntKind.wrap_i64];omega
 have hkT:Int.tdiv (gone:Int) 8=(k:Int):=by rw[HK.out];rfl
 have i1:(0:Int)≤(k:Int):=by omega
 have i2:(k:Int)≤(LB:Int):=by omega
 have i3:(LB:Int)≤(capa:Int):=by omega
 have i4:(k:Int)≤(capa:Int):=by omega
 have hgs:gone≤8*LB:=by have:=s.gl;omega
 have HFIN:Hid (∀(w1:World) (v1:Value),Fresh w w1 v1 (bs.drop k)→∀(w2:World),Kept (·=h) w1 w2→Row w2 v1 (bs.drop (gone / 8))∧(∀k,v1.ownBlock=some k→w.heap.size≤k)∧Kept (·=h) w w2):=hid (fun w1 v1 hf w2 hk2=>⟨by
  rw[←HK.out]
  exact hf.row.kept hk2 (fun j hj e1=>by have:=hf.new j hj;omega),hf.new,Kept.trans hf.kept hk2 (fun _ _ f=>f.elim) (fun _ _ f=>f)⟩)
 have HAA:Hid (k<LB→∃g,aa=some ⟨g,0,none⟩):=hid (fun hlt=>by
  rcases s.ah.2 with⟨e1,hn⟩ | ⟨g,cp,cur,e1,_⟩
  ·omega
  ·simp only[Value.slice.injEq]at e1;exact⟨g,e1.1⟩)
 have HLB:Hid (LB=bs.length):=hLB
 clear s hk hLB
 have HSH:Hid ((aa=none∧LB=0∧capa=0)∨∃g,aa=some ⟨g,0,none⟩):=hid (by
  rcases HAH.out.2 with⟨e1,hn⟩ | ⟨g,cp,cur,e1,_⟩
  ·simp only[Value.slice.injEq]at e1;exact .inl ⟨e1.1,by have:=HLB.out;omega,e1.2.2⟩
  ·simp only[Value.slice.injEq]at e1;exact .inr ⟨g,e1.1⟩)
 rcases HSH.out with⟨rfl,rfl,rfl⟩ | ⟨g,rfl⟩
 ·have hk0:k=0:=by omega
  subst hk0
  have t0:Int.tdiv (gone:Int) 8=0:=hkT
  have t1:(gone:Int) / 8=0:=hkI
  have t2:IntKind.i64.wrap 0=0:=by decide
  clear HSH i1 i2 i3 i4 hcap hkl hkw hkT hkI
  go_enter Tryz.func52,Tryz.ntmps52
  go_wp2_with fail
  go_region_held3 (fun w'=>w'.cell? ⟨h,3,none⟩=some (.slice none 0 0)∧w'.cell? ⟨h,4,none⟩=some (.int .i64 (gone:Nat))) (first | (go_split_ands;exact⟨hf1.kept.cell (by assumption) (fun f=>f),hf1.kept.cell (by assumption) (fun f=>f)⟩) | go_keep)
   (first
    | (go_at_call 51;refine(HCL.out _ _ _ ((Kept.refl _ w).drew) ?_).mono ?_;exact fun hlt=>absurd hlt (by omega);rintro x w1 ⟨v1,rfl,hf1⟩))
  all_goals
   have HF1:Hid (Fresh w w1 v1 (bs.drop 0)):=hid ⟨hf1.row,Kept.undrew hf1.kept,hf1.new⟩
   have HS1:Hid (Sm w1 h most vl bv (.slice none bs.length 0) gone e):=hid (HS.out.sm.kept HF1.out.kept (fun f=>f))
   obtain⟨a1,cp1,hv1,_⟩:=hf1.row.shape
   generalize (bs.drop 0).length=n1 at hv1
   subst hv1
   have d0:=HS1.out.cell 0
   have d1:=HS1.out.cell 1
   have d2:=HS1.out.cell 2
   have d3:=HS1.out.cell 3
   have d4:=HS1.out.cell 4
   have d5:=HS1.out.cell 5
   simp at d0 d1 d2 d3 d4 d5
   have z0:=HS1.out.frozen 0
   have z1:=HS1.out.frozen 1
   have z2:=HS1.out.frozen 2
   have z3:=HS1.out.frozen 3
   have z4:=HS1.out.frozen 4
   have z5:=HS1.out.frozen 5
   clear hf1 c3 c4
   obtain⟨gm,hgm⟩:∃gm,gm=gone % 8:=⟨_,rfl⟩
   have hgI:(gone:Int) % 8=(gm:Int):=by omega
   have HGM:Hid (gm=gone % 8):=hgm
   clear hgm
   go_wp2_with fail
   go_end0
   have hks:Kept (·=h) w1 ((w1.setCell ⟨h,3,none⟩ (.slice a1 n1 cp1)).setCell ⟨h,4,none⟩ (.int .i64 (gm:Nat))):=((Kept.refl (·=h) w1).setCell ⟨h,3,none⟩ _ (.inl rfl)).setCell ⟨h,4,none⟩ _ (.inl rfl)
   have hsm:Sm ((w1.setCell ⟨h,3,none⟩ (.slice a1 n1 cp1)).setCell ⟨h,4,none⟩ (.int .i64 (gm:Nat))) h most vl bv (.slice a1 n1 cp1) gm e:=by
    have:=(HS1.out.set 3 (.slice a1 n1 cp1)).set 4 (.int .i64 (gm:Nat))
    simpa using this
   have hfin:=HFIN.out w1 _ HF1.out _ hks
   rw[HGM.out]at hsm
   exact⟨⟨_,rfl⟩,_,by rw[HGM.out];exact hsm,by rw[HGM.out]at hfin;rw[HGM.out];exact hfin⟩
 ·by_cases hkc:k<capa
  ·have j1:(k:Int)<(capa:Int):=by omega
   have j2:¬capa=k:=by omega
   have j3:¬capa-k=0:=by omega
   have j5:¬k=capa:=by omega
   have j4:¬((capa:Int)-(k:Int)=0):=by omega
   clear HSH
   go_enter Tryz.func52,Tryz.ntmps52
   go_wp2_with fail
   go_region_held3 (fun w'=>w'.cell? ⟨h,3,none⟩=some (.slice (some ⟨g,0,none⟩) LB capa)∧w'.cell? ⟨h,4,none⟩=some (.int .i64 (gone:Nat))) (first | (go_split_ands;exact⟨hf1.kept.cell (by assumption) (fun f=>f),hf1.kept.cell (by assumption) (fun f=>f)⟩) | go_keep)
    (first
     | (go_at_call 51;refine(HCL.out _ _ _ ((Kept.refl _ w).drew) ?_).mono ?_;exact fun _=>⟨g,rfl,rfl⟩;rintro x w1 ⟨v1,rfl,hf1⟩))
   all_goals
    have HF1:Hid (Fresh w w1 v1 (bs.drop k)):=hid ⟨hf1.row,Kept.undrew hf1.kept,hf1.new⟩
    have HS1:Hid (Sm w1 h most vl bv (.slice (some ⟨g,0,none⟩) bs.length capa) gone e):=hid (HS.out.sm.kept HF1.out.kept (fun f=>f))
    obtain⟨a1,cp1,hv1,_⟩:=hf1.row.shape
    generalize (bs.drop k).length=n1 at hv1
    subst hv1
    have d0:=HS1.out.cell 0
    have d1:=HS1.out.cell 1
    have d2:=HS1.out.cell 2
    have d3:=HS1.out.cell 3
    have d4:=HS1.out.cell 4
    have d5:=HS1.out.cell 5
    simp at d0 d1 d2 d3 d4 d5
    have z0:=HS1.out.frozen 0
    have z1:=HS1.out.frozen 1
    have z2:=HS1.out.frozen 2
    have z3:=HS1.out.frozen 3
    have z4:=HS1.out.frozen 4
    have z5:=HS1.out.frozen 5
    clear hf1 c3 c4
    obtain⟨gm,hgm⟩:∃gm,gm=gone % 8:=⟨_,rfl⟩
    have hgI:(gone:Int) % 8=(gm:Int):=by omega
    have HGM:Hid (gm=gone % 8):=hgm
    clear hgm
    go_wp2_with fail
    go_end0
    have hks:Kept (·=h) w1 ((w1.setCell ⟨h,3,none⟩ (.slice a1 n1 cp1)).setCell ⟨h,4,none⟩ (.int .i64 (gm:Nat))):=((Kept.refl (·=h) w1).setCell ⟨h,3,none⟩ _ (.inl rfl)).setCell ⟨h,4,none⟩ _ (.inl rfl)
    have hsm:Sm ((w1.setCell ⟨h,3,none⟩ (.slice a1 n1 cp1)).setCell ⟨h,4,none⟩ (.int .i64 (gm:Nat))) h most vl bv (.slice a1 n1 cp1) gm e:=by
     have:=(HS1.out.set 3 (.slice a1 n1 cp1)).set 4 (.int .i64 (gm:Nat))
     simpa using this
    have hfin:=HFIN.out w1 _ HF1.out _ hks
    rw[HGM.out]at hsm
    exact⟨⟨_,rfl⟩,_,by rw[HGM.out];exact hsm,by rw[HGM.out]at hfin;rw[HGM.out];exact hfin⟩
  ·have hkc2:capa=k:=by omega
   have hkc3:LB=k:=by omega
   subst hkc2
   subst hkc3
   have HCL0:Hid (∀(W:World) (a':Option Addr) (c':Nat),Same w W→Calls Tryz.prog 51 #[.slice a' 0 c'] W fun x w'=>∃v',x=.returned v'∧Fresh W w' v' (bs.drop LB)):=hid (fun W a' c' hW=>by
    have:=HCL.out W a' c' hW (fun hlt=>absurd hlt (Nat.lt_irrefl _))
    rw[Nat.sub_self]at this
    exact this)
   clear HSH hkc HCL
   go_enter Tryz.func52,Tryz.ntmps52
   go_wp2_with fail
   go_region_held3 (fun w'=>w'.cell? ⟨h,3,none⟩=some (.slice (some ⟨g,0,none⟩) LB LB)∧w'.cell? ⟨h,4,none⟩=some (.int .i64 (gone:Nat))) (first | (go_split_ands;exact⟨hf1.kept.cell (by assumption) (fun f=>f),hf1.kept.cell (by assumption) (fun f=>f)⟩) | go_keep)
    (first
     | (go_at_call 51;refine(HCL0.out _ _ _ ((Kept.refl _ w).drew)).mono ?_;rintro x w1 ⟨v1,rfl,hf1⟩))
   all_goals
    have HF1:Hid (Fresh w w1 v1 (bs.drop LB)):=hid ⟨hf1.row,Kept.undrew hf1.kept,hf1.new⟩
    have HS1:Hid (Sm w1 h most vl bv (.slice (some ⟨g,0,none⟩) bs.length LB) gone e):=hid (HS.out.sm.kept HF1.out.kept (fun f=>f))
    obtain⟨a1,cp1,hv1,_⟩:=hf1.row.shape
    generalize (bs.drop LB).length=n1 at hv1
    subst hv1
    have d0:=HS1.out.cell 0
    have d1:=HS1.out.cell 1
    have d2:=HS1.out.cell 2
    have d3:=HS1.out.cell 3
    have d4:=HS1.out.cell 4
    have d5:=HS1.out.cell 5
    simp at d0 d1 d2 d3 d4 d5
    have z0:=HS1.out.frozen 0
    have z1:=HS1.out.frozen 1
    have z2:=HS1.out.frozen 2
    have z3:=HS1.out.frozen 3
    have z4:=HS1.out.frozen 4
    have z5:=HS1.out.frozen 5
    clear hf1 c3 c4
    obtain⟨gm,hgm⟩:∃gm,gm=gone % 8:=⟨_,rfl⟩
    have hgI:(gone:Int) % 8=(gm:Int):=by omega
    have HGM:Hid (gm=gone % 8):=hgm
    clear hgm
    go_wp2_with fail
    go_end0
    have hks:Kept (·=h) w1 ((w1.setCell ⟨h,3,none⟩ (.slice a1 n1 cp1)).setCell ⟨h,4,none⟩ (.int .i64 (gm:Nat))):=((Kept.refl (·=h) w1).setCell ⟨h,3,none⟩ _ (.inl rfl)).setCell ⟨h,4,none⟩ _ (.inl rfl)
    have hsm:Sm ((w1.setCell ⟨h,3,none⟩ (.slice a1 n1 cp1)).setCell ⟨h,4,none⟩ (.int .i64 (gm:Nat))) h most vl bv (.slice a1 n1 cp1) gm e:=by
     have:=(HS1.out.set 3 (.slice a1 n1 cp1)).set 4 (.int .i64 (gm:Nat))
     simpa using this
    have hfin:=HFIN.out w1 _ HF1.out _ hks
    rw[HGM.out]at hsm
    exact⟨⟨_,rfl⟩,_,by rw[HGM.out];exact hsm,by rw[HGM.out]at hfin;rw[HGM.out];exact hfin⟩

set_option maxRecDepth 100000 in
set_option maxHeartbeats 2000000 in
theorem pkeep_done(w:World)(ρ:Part)(h most e:Nat)(va:Value)(bs out:List Nat)(gone:Nat)(vl bv:Value)(s:SW w ρ h most e va bs out gone vl bv)(hlen:bs.length≤2000000):
  Calls Tryz.prog 52 #[.pointer (some ⟨h,0,none⟩),.int .i64 0] w fun x w'=>(∃u,x=.returned u)∧∃va',Sm w' h 0 (.slice none 0 0) (.pointer none) va' 0 0∧Row w' va' (bs.drop (gone / 8))∧(∀k,va'.ownBlock=some k→w.heap.size≤k)∧Kept (·=h) w w':=by
 obtain⟨aa,capa,hva,_⟩:=s.ah.shape
 have HS:Hid (SW w ρ h most e va bs out gone vl bv):=s
 subst hva
 have hhl:=s.sm.lt
 have c3:=s.sm.cell 3
 have c4:=s.sm.cell 4
 simp at c3 c4
 have HAH:Hid (Row w (.slice aa bs.length capa) bs):=s.ah
 obtain⟨LB,hLB⟩:∃L,L=bs.length:=⟨_,rfl⟩
 rw[←hLB]at c3 hlen
 obtain⟨k,hk⟩:∃k,k=gone / 8:=⟨_,rfl⟩
 have hkI:(gone:Int) / 8=(k:Int):=by omega
 have hkl:k≤LB:=by have:=s.gl;omega
 have hcap:LB≤capa:=by
  rcases s.ah.2 with⟨e1,_⟩ | ⟨g,cp,cur,e1,_,_,hle,_⟩
  ·simp only[Value.slice.injEq]at e1;omega
  ·simp only[Value.slice.injEq]at e1;omega
 have HCL:Hid (∀(W:World) (a':Option Addr) (c':Nat),Same w W→(k<LB→∃g,aa=some ⟨g,0,none⟩∧a'=some ⟨g,k,none⟩)→Calls Tryz.prog 51 #[.slice a' (LB-k) c'] W fun x w'=>∃v',x=.returned v'∧Fresh W w' v' (bs.drop k)):=hid (fun W a' c' hW ha=>by
  have:=pclone_any W (.slice a' (LB-k) c') _ (bs.drop k) (by rw[hLB];exact(HAH.out.rest k (by omega) a' c' (by rw[←hLB];exact ha)).kept hW (fun _ _ _ f=>f)) (by rw[List.length_drop];omega)
  exact this)
 have HK:Hid (k=gone / 8):=hk
 have hkw:IntKind.i64.wrap (k:Int)=(k:Int):=by rw[IntKind.wrap_i64];omega
 have hkT:Int.tdiv (gone:Int) 8=(k:Int):=by rw[HK.out];rfl
 have i1:(0:Int)≤(k:Int):=by omega
 have i2:(k:Int)≤(LB:Int):=by omega
 have i3:(LB:Int)≤(capa:Int):=by omega
 have i4:(k:Int)≤(capa:Int):=by omega
 have hgs:gone≤8*LB:=by have:=s.gl;omega
 have HFIN:Hid (∀(w1:World) (v1:Value),Fresh w w1 v1 (bs.drop k)→∀(w2:World),Kept (·=h) w1 w2→Row w2 v1 (bs.drop (gone / 8))∧(∀k,v1.ownBlock=some k→w.heap.size≤k)∧Kept (·=h) w w2):=hid (fun w1 v1 hf w2 hk2=>⟨by
  rw[←HK.out]
  exact hf.row.kept hk2 (fun j hj e1=>by have:=hf.new j hj;omega),hf.new,Kept.trans hf.kept hk2 (fun _ _ f=>f.elim) (fun _ _ f=>f)⟩)
 have HAA:Hid (k<LB→∃g,aa=some ⟨g,0,none⟩):=hid (fun hlt=>by
  rcases s.ah.2 with⟨e1,hn⟩ | ⟨g,cp,cur,e1,_⟩
  ·omega
  ·simp only[Value.slice.injEq]at e1;exact⟨g,e1.1⟩)
 have HLB:Hid (LB=bs.length):=hLB
 clear s hk hLB
 have HSH:Hid ((aa=none∧LB=0∧capa=0)∨∃g,aa=some ⟨g,0,none⟩):=hid (by
  rcases HAH.out.2 with⟨e1,hn⟩ | ⟨g,cp,cur,e1,_⟩
  ·simp only[Value.slice.injEq]at e1;exact .inl ⟨e1.1,by have:=HLB.out;omega,e1.2.2⟩
  ·simp only[Value.slice.injEq]at e1;exact .inr ⟨g,e1.1⟩)
 rcases HSH.out with⟨rfl,rfl,rfl⟩ | ⟨g,rfl⟩
 ·have hk0:k=0:=by omega
  subst hk0
  have t0:Int.tdiv (gone:Int) 8=0:=hkT
  have t1:(gone:Int) / 8=0:=hkI
  have t2:IntKind.i64.wrap 0=0:=by decide
  clear HSH i1 i2 i3 i4 hcap hkl hkw hkT hkI
  go_enter Tryz.func52,Tryz.ntmps52
  go_wp2_with fail
  go_region_held3 (fun w'=>w'.cell? ⟨h,3,none⟩=some (.slice none 0 0)∧w'.cell? ⟨h,4,none⟩=some (.int .i64 (gone:Nat))) (first | (go_split_ands;exact⟨hf1.kept.cell (by assumption) (fun f=>f),hf1.kept.cell (by assumption) (fun f=>f)⟩) | go_keep)
   (first
    | (go_at_call 51;refine(HCL.out _ _ _ ((Kept.refl _ w).drew) ?_).mono ?_;exact fun hlt=>absurd hlt (by omega);rintro x w1 ⟨v1,rfl,hf1⟩))
  all_goals
   have HF1:Hid (Fresh w w1 v1 (bs.drop 0)):=hid ⟨hf1.row,Kept.undrew hf1.kept,hf1.new⟩
   have HS1:Hid (Sm w1 h most vl bv (.slice none bs.length 0) gone e):=hid (HS.out.sm.kept HF1.out.kept (fun f=>f))
   obtain⟨a1,cp1,hv1,_⟩:=hf1.row.shape
   generalize (bs.drop 0).length=n1 at hv1
   subst hv1
   have d0:=HS1.out.cell 0
   have d1:=HS1.out.cell 1
   have d2:=HS1.out.cell 2
   have d3:=HS1.out.cell 3
   have d4:=HS1.out.cell 4
   have d5:=HS1.out.cell 5
   simp at d0 d1 d2 d3 d4 d5
   have z0:=HS1.out.frozen 0
   have z1:=HS1.out.frozen 1
   have z2:=HS1.out.frozen 2
   have z3:=HS1.out.frozen 3
   have z4:=HS1.out.frozen 4
   have z5:=HS1.out.frozen 5
   clear hf1 c3 c4
   go_wp2_with fail
   go_end0
   have hks:Kept (·=h) w1 ((((((w1.setCell ⟨h,0,none⟩ (.int .i64 0)).setCell ⟨h,1,none⟩ (.slice none 0 0)).setCell ⟨h,2,none⟩ (.pointer none)).setCell ⟨h,3,none⟩ (.slice a1 n1 cp1)).setCell ⟨h,4,none⟩ (.int .i64 0)).setCell ⟨h,5,none⟩ (.int .i64 0)):=((((((Kept.refl (·=h) w1).setCell ⟨h,0,none⟩ _ (.inl rfl)).setCell ⟨h,1,none⟩ _ (.inl rfl)).setCell ⟨h,2,none⟩ _ (.inl rfl)).setCell ⟨h,3,none⟩ _ (.inl rfl)).setCell ⟨h,4,none⟩ _ (.inl rfl)).setCell ⟨h,5,none⟩ _ (.inl rfl)
   have hsm:Sm ((((((w1.setCell ⟨h,0,none⟩ (.int .i64 0)).setCell ⟨h,1,none⟩ (.slice none 0 0)).setCell ⟨h,2,none⟩ (.pointer none)).setCell ⟨h,3,none⟩ (.slice a1 n1 cp1)).setCell ⟨h,4,none⟩ (.int .i64 0)).setCell ⟨h,5,none⟩ (.int .i64 0)) h 0 (.slice none 0 0) (.pointer none) (.slice a1 n1 cp1) 0 0:=by
    have:=(((((HS1.out.set 0 (.int .i64 0)).set 1 (.slice none 0 0)).set 2 (.pointer none)).set 3 (.slice a1 n1 cp1)).set 4 (.int .i64 0)).set 5 (.int .i64 0)
    simp at this
    exact this
   have hfin:=HFIN.out w1 _ HF1.out _ hks
   exact⟨⟨_,rfl⟩,_,hsm,hfin⟩
 ·by_cases hkc:k<capa
  ·have j1:(k:Int)<(capa:Int):=by omega
   have j2:¬capa=k:=by omega
   have j3:¬capa-k=0:=by omega
   have j5:¬k=capa:=by omega
   have j4:¬((capa:Int)-(k:Int)=0):=by omega
   clear HSH
   go_enter Tryz.func52,Tryz.ntmps52
   go_wp2_with fail
   go_region_held3 (fun w'=>w'.cell? ⟨h,3,none⟩=some (.slice (some ⟨g,0,none⟩) LB capa)∧w'.cell? ⟨h,4,none⟩=some (.int .i64 (gone:Nat))) (first | (go_split_ands;exact⟨hf1.kept.cell (by assumption) (fun f=>f),hf1.kept.cell (by assumption) (fun f=>f)⟩) | go_keep)
    (first
     | (go_at_call 51;refine(HCL.out _ _ _ ((Kept.refl _ w).drew) ?_).mono ?_;exact fun _=>⟨g,rfl,rfl⟩;rintro x w1 ⟨v1,rfl,hf1⟩))
   all_goals
    have HF1:Hid (Fresh w w1 v1 (bs.drop k)):=hid ⟨hf1.row,Kept.undrew hf1.kept,hf1.new⟩
    have HS1:Hid (Sm w1 h most vl bv (.slice (some ⟨g,0,none⟩) bs.length capa) gone e):=hid (HS.out.sm.kept HF1.out.kept (fun f=>f))
    obtain⟨a1,cp1,hv1,_⟩:=hf1.row.shape
    generalize (bs.drop k).length=n1 at hv1
    subst hv1
    have d0:=HS1.out.cell 0
    have d1:=HS1.out.cell 1
    have d2:=HS1.out.cell 2
    have d3:=HS1.out.cell 3
    have d4:=HS1.out.cell 4
    have d5:=HS1.out.cell 5
    simp at d0 d1 d2 d3 d4 d5
    have z0:=HS1.out.frozen 0
    have z1:=HS1.out.frozen 1
    have z2:=HS1.out.frozen 2
    have z3:=HS1.out.frozen 3
    have z4:=HS1.out.frozen 4
    have z5:=HS1.out.frozen 5
    clear hf1 c3 c4
    go_wp2_with fail
    go_end0
    have hks:Kept (·=h) w1 ((((((w1.setCell ⟨h,0,none⟩ (.int .i64 0)).setCell ⟨h,1,none⟩ (.slice none 0 0)).setCell ⟨h,2,none⟩ (.pointer none)).setCell ⟨h,3,none⟩ (.slice a1 n1 cp1)).setCell ⟨h,4,none⟩ (.int .i64 0)).setCell ⟨h,5,none⟩ (.int .i64 0)):=((((((Kept.refl (·=h) w1).setCell ⟨h,0,none⟩ _ (.inl rfl)).setCell ⟨h,1,none⟩ _ (.inl rfl)).setCell ⟨h,2,none⟩ _ (.inl rfl)).setCell ⟨h,3,none⟩ _ (.inl rfl)).setCell ⟨h,4,none⟩ _ (.inl rfl)).setCell ⟨h,5,none⟩ _ (.inl rfl)
    have hsm:Sm ((((((w1.setCell ⟨h,0,none⟩ (.int .i64 0)).setCell ⟨h,1,none⟩ (.slice none 0 0)).setCell ⟨h,2,none⟩ (.pointer none)).setCell ⟨h,3,none⟩ (.slice a1 n1 cp1)).setCell ⟨h,4,none⟩ (.int .i64 0)).setCell ⟨h,5,none⟩ (.int .i64 0)) h 0 (.slice none 0 0) (.pointer none) (.slice a1 n1 cp1) 0 0:=by
     have:=(((((HS1.out.set 0 (.int .i64 0)).set 1 (.slice none 0 0)).set 2 (.pointer none)).set 3 (.slice a1 n1 cp1)).set 4 (.int .i64 0)).set 5 (.int .i64 0)
     simp at this
     exact this
    have hfin:=HFIN.out w1 _ HF1.out _ hks
    exact⟨⟨_,rfl⟩,_,hsm,hfin⟩
  ·have hkc2:capa=k:=by omega
   have hkc3:LB=k:=by omega
   subst hkc2
   subst hkc3
   have HCL0:Hid (∀(W:World) (a':Option Addr) (c':Nat),Same w W→Calls Tryz.prog 51 #[.slice a' 0 c'] W fun x w'=>∃v',x=.returned v'∧Fresh W w' v' (bs.drop LB)):=hid (fun W a' c' hW=>by
    have:=HCL.out W a' c' hW (fun hlt=>absurd hlt (Nat.lt_irrefl _))
    rw[Nat.sub_self]at this
    exact this)
   clear HSH hkc HCL
   go_enter Tryz.func52,Tryz.ntmps52
   go_wp2_with fail
   go_region_held3 (fun w'=>w'.cell? ⟨h,3,none⟩=some (.slice (some ⟨g,0,none⟩) LB LB)∧w'.cell? ⟨h,4,none⟩=some (.int .i64 (gone:Nat))) (first | (go_split_ands;exact⟨hf1.kept.cell (by assumption) (fun f=>f),hf1.kept.cell (by assumption) (fun f=>f)⟩) | go_keep)
    (first
     | (go_at_call 51;refine(HCL0.out _ _ _ ((Kept.refl _ w).drew)).mono ?_;rintro x w1 ⟨v1,rfl,hf1⟩))
   all_goals
    have HF1:Hid (Fresh w w1 v1 (bs.drop LB)):=hid ⟨hf1.row,Kept.undrew hf1.kept,hf1.new⟩
    have HS1:Hid (Sm w1 h most vl bv (.slice (some ⟨g,0,none⟩) bs.length LB) gone e):=hid (HS.out.sm.kept HF1.out.kept (fun f=>f))
    obtain⟨a1,cp1,hv1,_⟩:=hf1.row.shape
    generalize (bs.drop LB).length=n1 at hv1
    subst hv1
    have d0:=HS1.out.cell 0
    have d1:=HS1.out.cell 1
    have d2:=HS1.out.cell 2
    have d3:=HS1.out.cell 3
    have d4:=HS1.out.cell 4
    have d5:=HS1.out.cell 5
    simp at d0 d1 d2 d3 d4 d5
    have z0:=HS1.out.frozen 0
    have z1:=HS1.out.frozen 1
    have z2:=HS1.out.frozen 2
    have z3:=HS1.out.frozen 3
    have z4:=HS1.out.frozen 4
    have z5:=HS1.out.frozen 5
    clear hf1 c3 c4
    go_wp2_with fail
    go_end0
    have hks:Kept (·=h) w1 ((((((w1.setCell ⟨h,0,none⟩ (.int .i64 0)).setCell ⟨h,1,none⟩ (.slice none 0 0)).setCell ⟨h,2,none⟩ (.pointer none)).setCell ⟨h,3,none⟩ (.slice a1 n1 cp1)).setCell ⟨h,4,none⟩ (.int .i64 0)).setCell ⟨h,5,none⟩ (.int .i64 0)):=((((((Kept.refl (·=h) w1).setCell ⟨h,0,none⟩ _ (.inl rfl)).setCell ⟨h,1,none⟩ _ (.inl rfl)).setCell ⟨h,2,none⟩ _ (.inl rfl)).setCell ⟨h,3,none⟩ _ (.inl rfl)).setCell ⟨h,4,none⟩ _ (.inl rfl)).setCell ⟨h,5,none⟩ _ (.inl rfl)
    have hsm:Sm ((((((w1.setCell ⟨h,0,none⟩ (.int .i64 0)).setCell ⟨h,1,none⟩ (.slice none 0 0)).setCell ⟨h,2,none⟩ (.pointer none)).setCell ⟨h,3,none⟩ (.slice a1 n1 cp1)).setCell ⟨h,4,none⟩ (.int .i64 0)).setCell ⟨h,5,none⟩ (.int .i64 0)) h 0 (.slice none 0 0) (.pointer none) (.slice a1 n1 cp1) 0 0:=by
     have:=(((((HS1.out.set 0 (.int .i64 0)).set 1 (.slice none 0 0)).set 2 (.pointer none)).set 3 (.slice a1 n1 cp1)).set 4 (.int .i64 0)).set 5 (.int .i64 0)
     simp at this
     exact this
    have hfin:=HFIN.out w1 _ HF1.out _ hks
    exact⟨⟨_,rfl⟩,_,hsm,hfin⟩

set_option maxRecDepth 100000 in
set_option maxHeartbeats 2000000 in
theorem pkeep_fail(w:World)(ρ:Part)(h most e:Nat)(va:Value)(bs out:List Nat)(gone:Nat)(vl bv:Value)(er:Nat)(he0:er≠0)(he5:er≠55)(s:SW w ρ h most e va bs out gone vl bv)(hlen:bs.length≤2000000):
  Calls Tryz.prog 52 #[.pointer (some ⟨h,0,none⟩),.int .i64 (er:Nat)] w fun x w'=>(∃u,x=.returned u)∧∃va',Sm w' h 0 (.slice none 0 0) (.pointer none) (.slice none 0 0) 0 er∧Row w' va' (bs.drop (gone / 8))∧(∀k,va'.ownBlock=some k→w.heap.size≤k)∧Kept (·=h) w w':=by
 obtain⟨aa,capa,hva,_⟩:=s.ah.shape
 have HS:Hid (SW w ρ h most e va bs out gone vl bv):=s
 subst hva
 have hhl:=s.sm.lt
 have c3:=s.sm.cell 3
 have c4:=s.sm.cell 4
 simp at c3 c4
 have HAH:Hid (Row w (.slice aa bs.length capa) bs):=s.ah
 obtain⟨LB,hLB⟩:∃L,L=bs.length:=⟨_,rfl⟩
 rw[←hLB]at c3 hlen
 obtain⟨k,hk⟩:∃k,k=gone / 8:=⟨_,rfl⟩
 have hkI:(gone:Int) / 8=(k:Int):=by omega
 have hkl:k≤LB:=by have:=s.gl;omega
 have hcap:LB≤capa:=by
  rcases s.ah.2 with⟨e1,_⟩ | ⟨g,cp,cur,e1,_,_,hle,_⟩
  ·simp only[Value.slice.injEq]at e1;omega
  ·simp only[Value.slice.injEq]at e1;omega
 have HCL:Hid (∀(W:World) (a':Option Addr) (c':Nat),Same w W→(k<LB→∃g,aa=some ⟨g,0,none⟩∧a'=some ⟨g,k,none⟩)→Calls Tryz.prog 51 #[.slice a' (LB-k) c'] W fun x w'=>∃v',x=.returned v'∧Fresh W w' v' (bs.drop k)):=hid (fun W a' c' hW ha=>by
  have:=pclone_any W (.slice a' (LB-k) c') _ (bs.drop k) (by rw[hLB];exact(HAH.out.rest k (by omega) a' c' (by rw[←hLB];exact ha)).kept hW (fun _ _ _ f=>f)) (by rw[List.length_drop];omega)
  exact this)
 have HK:Hid (k=gone / 8):=hk
 have hkw:IntKind.i64.wrap (k:Int)=(k:Int):=by rw[IntKind.wrap_i64];omega
 have hkT:Int.tdiv (gone:Int) 8=(k:Int):=by rw[HK.out];rfl
 have i1:(0:Int)≤(k:Int):=by omega
 have i2:(k:Int)≤(LB:Int):=by omega
 have i3:(LB:Int)≤(capa:Int):=by omega
 have i4:(k:Int)≤(capa:Int):=by omega
 have hgs:gone≤8*LB:=by have:=s.gl;omega
 have HFIN:Hid (∀(w1:World) (v1:Value),Fresh w w1 v1 (bs.drop k)→∀(w2:World),Kept (·=h) w1 w2→Row w2 v1 (bs.drop (gone / 8))∧(∀k,v1.ownBlock=some k→w.heap.size≤k)∧Kept (·=h) w w2):=hid (fun w1 v1 hf w2 hk2=>⟨by
  rw[←HK.out]
  exact hf.row.kept hk2 (fun j hj e1=>by have:=hf.new j hj;omega),hf.new,Kept.trans hf.kept hk2 (fun _ _ f=>f.elim) (fun _ _ f=>f)⟩)
 have HAA:Hid (k<LB→∃g,aa=some ⟨g,0,none⟩):=hid (fun hlt=>by
  rcases s.ah.2 with⟨e1,hn⟩ | ⟨g,cp,cur,e1,_⟩
  ·omega
  ·simp only[Value.slice.injEq]at e1;exact⟨g,e1.1⟩)
 have HLB:Hid (LB=bs.length):=hLB
 have hd0:((er:Int)==0)=false:=by simp;omega
 have hd5:((er:Int)==55)=false:=by simp;omega
 clear s hk hLB
 have HSH:Hid ((aa=none∧LB=0∧capa=0)∨∃g,aa=some ⟨g,0,none⟩):=hid (by
  rcases HAH.out.2 with⟨e1,hn⟩ | ⟨g,cp,cur,e1,_⟩
  ·simp only[Value.slice.injEq]at e1;exact .inl ⟨e1.1,by have:=HLB.out;omega,e1.2.2⟩
  ·simp only[Value.slice.injEq]at e1;exact .inr ⟨g,e1.1⟩)
 rcases HSH.out with⟨rfl,rfl,rfl⟩ | ⟨g,rfl⟩
 ·have hk0:k=0:=by omega
  subst hk0
  have t0:Int.tdiv (gone:Int) 8=0:=hkT
  have t1:(gone:Int) / 8=0:=hkI
  have t2:IntKind.i64.wrap 0=0:=by decide
  clear HSH i1 i2 i3 i4 hcap hkl hkw hkT hkI
  go_enter Tryz.func52,Tryz.ntmps52
  go_wp2_with fail
  go_region_held3 (fun w'=>w'.cell? ⟨h,3,none⟩=some (.slice none 0 0)∧w'.cell? ⟨h,4,none⟩=some (.int .i64 (gone:Nat))) (first | (go_split_ands;exact⟨hf1.kept.cell (by assumption) (fun f=>f),hf1.kept.cell (by assumption) (fun f=>f)⟩) | go_keep)
   (first
    | (go_at_call 51;refine(HCL.out _ _ _ ((Kept.refl _ w).drew) ?_).mono ?_;exact fun hlt=>absurd hlt (by omega);rintro x w1 ⟨v1,rfl,hf1⟩))
  all_goals
   have HF1:Hid (Fresh w w1 v1 (bs.drop 0)):=hid ⟨hf1.row,Kept.undrew hf1.kept,hf1.new⟩
   have HS1:Hid (Sm w1 h most vl bv (.slice none bs.length 0) gone e):=hid (HS.out.sm.kept HF1.out.kept (fun f=>f))
   obtain⟨a1,cp1,hv1,_⟩:=hf1.row.shape
   generalize (bs.drop 0).length=n1 at hv1
   subst hv1
   have d0:=HS1.out.cell 0
   have d1:=HS1.out.cell 1
   have d2:=HS1.out.cell 2
   have d3:=HS1.out.cell 3
   have d4:=HS1.out.cell 4
   have d5:=HS1.out.cell 5
   simp at d0 d1 d2 d3 d4 d5
   have z0:=HS1.out.frozen 0
   have z1:=HS1.out.frozen 1
   have z2:=HS1.out.frozen 2
   have z3:=HS1.out.frozen 3
   have z4:=HS1.out.frozen 4
   have z5:=HS1.out.frozen 5
   clear hf1 c3 c4
   go_wp2_with fail
   go_end0
   have hks:Kept (·=h) w1 ((((((w1.setCell ⟨h,0,none⟩ (.int .i64 0)).setCell ⟨h,1,none⟩ (.slice none 0 0)).setCell ⟨h,2,none⟩ (.pointer none)).setCell ⟨h,3,none⟩ (.slice none 0 0)).setCell ⟨h,4,none⟩ (.int .i64 0)).setCell ⟨h,5,none⟩ (.int .i64 (er:Nat))):=((((((Kept.refl (·=h) w1).setCell ⟨h,0,none⟩ _ (.inl rfl)).setCell ⟨h,1,none⟩ _ (.inl rfl)).setCell ⟨h,2,none⟩ _ (.inl rfl)).setCell ⟨h,3,none⟩ _ (.inl rfl)).setCell ⟨h,4,none⟩ _ (.inl rfl)).setCell ⟨h,5,none⟩ _ (.inl rfl)
   have hsm:Sm ((((((w1.setCell ⟨h,0,none⟩ (.int .i64 0)).setCell ⟨h,1,none⟩ (.slice none 0 0)).setCell ⟨h,2,none⟩ (.pointer none)).setCell ⟨h,3,none⟩ (.slice none 0 0)).setCell ⟨h,4,none⟩ (.int .i64 0)).setCell ⟨h,5,none⟩ (.int .i64 (er:Nat))) h 0 (.slice none 0 0) (.pointer none) (.slice none 0 0) 0 er:=by
    have:=(((((HS1.out.set 0 (.int .i64 0)).set 1 (.slice none 0 0)).set 2 (.pointer none)).set 3 (.slice none 0 0)).set 4 (.int .i64 0)).set 5 (.int .i64 (er:Nat))
    simp at this
    exact this
   have hfin:=HFIN.out w1 _ HF1.out _ hks
   exact⟨⟨_,rfl⟩,_,hsm,hfin⟩
 ·by_cases hkc:k<capa
  ·have j1:(k:Int)<(capa:Int):=by omega
   have j2:¬capa=k:=by omega
   have j3:¬capa-k=0:=by omega
   have j5:¬k=capa:=by omega
   have j4:¬((capa:Int)-(k:Int)=0):=by omega
   clear HSH
   go_enter Tryz.func52,Tryz.ntmps52
   go_wp2_with fail
   go_region_held3 (fun w'=>w'.cell? ⟨h,3,none⟩=some (.slice (some ⟨g,0,none⟩) LB capa)∧w'.cell? ⟨h,4,none⟩=some (.int .i64 (gone:Nat))) (first | (go_split_ands;exact⟨hf1.kept.cell (by assumption) (fun f=>f),hf1.kept.cell (by assumption) (fun f=>f)⟩) | go_keep)
    (first
     | (go_at_call 51;refine(HCL.out _ _ _ ((Kept.refl _ w).drew) ?_).mono ?_;exact fun _=>⟨g,rfl,rfl⟩;rintro x w1 ⟨v1,rfl,hf1⟩))
   all_goals
    have HF1:Hid (Fresh w w1 v1 (bs.drop k)):=hid ⟨hf1.row,Kept.undrew hf1.kept,hf1.new⟩
    have HS1:Hid (Sm w1 h most vl bv (.slice (some ⟨g,0,none⟩) bs.length capa) gone e):=hid (HS.out.sm.kept HF1.out.kept (fun f=>f))
    obtain⟨a1,cp1,hv1,_⟩:=hf1.row.shape
    generalize (bs.drop k).length=n1 at hv1
    subst hv1
    have d0:=HS1.out.cell 0
    have d1:=HS1.out.cell 1
    have d2:=HS1.out.cell 2
    have d3:=HS1.out.cell 3
    have d4:=HS1.out.cell 4
    have d5:=HS1.out.cell 5
    simp at d0 d1 d2 d3 d4 d5
    have z0:=HS1.out.frozen 0
    have z1:=HS1.out.frozen 1
    have z2:=HS1.out.frozen 2
    have z3:=HS1.out.frozen 3
    have z4:=HS1.out.frozen 4
    have z5:=HS1.out.frozen 5
    clear hf1 c3 c4
    go_wp2_with fail
    go_end0
    have hks:Kept (·=h) w1 ((((((w1.setCell ⟨h,0,none⟩ (.int .i64 0)).setCell ⟨h,1,none⟩ (.slice none 0 0)).setCell ⟨h,2,none⟩ (.pointer none)).setCell ⟨h,3,none⟩ (.slice none 0 0)).setCell ⟨h,4,none⟩ (.int .i64 0)).setCell ⟨h,5,none⟩ (.int .i64 (er:Nat))):=((((((Kept.refl (·=h) w1).setCell ⟨h,0,none⟩ _ (.inl rfl)).setCell ⟨h,1,none⟩ _ (.inl rfl)).setCell ⟨h,2,none⟩ _ (.inl rfl)).setCell ⟨h,3,none⟩ _ (.inl rfl)).setCell ⟨h,4,none⟩ _ (.inl rfl)).setCell ⟨h,5,none⟩ _ (.inl rfl)
    have hsm:Sm ((((((w1.setCell ⟨h,0,none⟩ (.int .i64 0)).setCell ⟨h,1,none⟩ (.slice none 0 0)).setCell ⟨h,2,none⟩ (.pointer none)).setCell ⟨h,3,none⟩ (.slice none 0 0)).setCell ⟨h,4,none⟩ (.int .i64 0)).setCell ⟨h,5,none⟩ (.int .i64 (er:Nat))) h 0 (.slice none 0 0) (.pointer none) (.slice none 0 0) 0 er:=by
     have:=(((((HS1.out.set 0 (.int .i64 0)).set 1 (.slice none 0 0)).set 2 (.pointer none)).set 3 (.slice none 0 0)).set 4 (.int .i64 0)).set 5 (.int .i64 (er:Nat))
     simp at this
     exact this
    have hfin:=HFIN.out w1 _ HF1.out _ hks
    exact⟨⟨_,rfl⟩,_,hsm,hfin⟩
  ·have hkc2:capa=k:=by omega
   have hkc3:LB=k:=by omega
   subst hkc2
   subst hkc3
   have HCL0:Hid (∀(W:World) (a':Option Addr) (c':Nat),Same w W→Calls Tryz.prog 51 #[.slice a' 0 c'] W fun x w'=>∃v',x=.returned v'∧Fresh W w' v' (bs.drop LB)):=hid (fun W a' c' hW=>by
    have:=HCL.out W a' c' hW (fun hlt=>absurd hlt (Nat.lt_irrefl _))
    rw[Nat.sub_self]at this
    exact this)
   clear HSH hkc HCL
   go_enter Tryz.func52,Tryz.ntmps52
   go_wp2_with fail
   go_region_held3 (fun w'=>w'.cell? ⟨h,3,none⟩=some (.slice (some ⟨g,0,none⟩) LB LB)∧w'.cell? ⟨h,4,none⟩=some (.int .i64 (gone:Nat))) (first | (go_split_ands;exact⟨hf1.kept.cell (by assumption) (fun f=>f),hf1.kept.cell (by assumption) (fun f=>f)⟩) | go_keep)
    (first
     | (go_at_call 51;refine(HCL0.out _ _ _ ((Kept.refl _ w).drew)).mono ?_;rintro x w1 ⟨v1,rfl,hf1⟩))
   all_goals
    have HF1:Hid (Fresh w w1 v1 (bs.drop LB)):=hid ⟨hf1.row,Kept.undrew hf1.kept,hf1.new⟩
    have HS1:Hid (Sm w1 h most vl bv (.slice (some ⟨g,0,none⟩) bs.length LB) gone e):=hid (HS.out.sm.kept HF1.out.kept (fun f=>f))
    obtain⟨a1,cp1,hv1,_⟩:=hf1.row.shape
    generalize (bs.drop LB).length=n1 at hv1
    subst hv1
    have d0:=HS1.out.cell 0
    have d1:=HS1.out.cell 1
    have d2:=HS1.out.cell 2
    have d3:=HS1.out.cell 3
    have d4:=HS1.out.cell 4
    have d5:=HS1.out.cell 5
    simp at d0 d1 d2 d3 d4 d5
    have z0:=HS1.out.frozen 0
    have z1:=HS1.out.frozen 1
    have z2:=HS1.out.frozen 2
    have z3:=HS1.out.frozen 3
    have z4:=HS1.out.frozen 4
    have z5:=HS1.out.frozen 5
    clear hf1 c3 c4
    go_wp2_with fail
    go_end0
    have hks:Kept (·=h) w1 ((((((w1.setCell ⟨h,0,none⟩ (.int .i64 0)).setCell ⟨h,1,none⟩ (.slice none 0 0)).setCell ⟨h,2,none⟩ (.pointer none)).setCell ⟨h,3,none⟩ (.slice none 0 0)).setCell ⟨h,4,none⟩ (.int .i64 0)).setCell ⟨h,5,none⟩ (.int .i64 (er:Nat))):=((((((Kept.refl (·=h) w1).setCell ⟨h,0,none⟩ _ (.inl rfl)).setCell ⟨h,1,none⟩ _ (.inl rfl)).setCell ⟨h,2,none⟩ _ (.inl rfl)).setCell ⟨h,3,none⟩ _ (.inl rfl)).setCell ⟨h,4,none⟩ _ (.inl rfl)).setCell ⟨h,5,none⟩ _ (.inl rfl)
    have hsm:Sm ((((((w1.setCell ⟨h,0,none⟩ (.int .i64 0)).setCell ⟨h,1,none⟩ (.slice none 0 0)).setCell ⟨h,2,none⟩ (.pointer none)).setCell ⟨h,3,none⟩ (.slice none 0 0)).setCell ⟨h,4,none⟩ (.int .i64 0)).setCell ⟨h,5,none⟩ (.int .i64 (er:Nat))) h 0 (.slice none 0 0) (.pointer none) (.slice none 0 0) 0 er:=by
     have:=(((((HS1.out.set 0 (.int .i64 0)).set 1 (.slice none 0 0)).set 2 (.pointer none)).set 3 (.slice none 0 0)).set 4 (.int .i64 0)).set 5 (.int .i64 (er:Nat))
     simp at this
     exact this
    have hfin:=HFIN.out w1 _ HF1.out _ hks
    exact⟨⟨_,rfl⟩,_,hsm,hfin⟩

end Go.Proofs.YtggcbnhckcenmaaGreatDoor

namespace Go.Proofs.YtggcbnhckcenmaaGreatDoor
open Go.RowKit
set_option maxHeartbeats 1000000 in
theorem pdone_any(w:World)(h most:Nat)(vl bv va:Value)(gone e:Nat)(hs:Sm w h most vl bv va gone e):Calls Tryz.prog 30 #[.pointer (some ⟨h,0,none⟩)] w fun x w'=>x=.returned (.bool (e==0))∧∃m,w'=w.drewN m:=by
 have c5:w.cell? ⟨h,5,none⟩=some (.int .i64 (e:Nat)):=hs.cell 5
 have hE:((e:Int)==0)=(e==0):=by rw[Bool.eq_iff_iff];simp
 generalize (e==0)=eb at hE
 clear hs
 go_enter Tryz.func30,Tryz.ntmps30
 go_wp2_with fail
 go_ret
 exact⟨rfl,0,rfl⟩

set_option maxHeartbeats 1000000 in
theorem pclose_any(w:World)(h most:Nat)(vl bv va:Value)(gone e:Nat)(hs:Sm w h most vl bv va gone e):Calls Tryz.prog 49 #[.pointer (some ⟨h,0,none⟩)] w fun x w'=>x=.returned (.int .i64 (e:Nat))∧w'=w:=by
 have c5:w.cell? ⟨h,5,none⟩=some (.int .i64 (e:Nat)):=hs.cell 5
 clear hs
 go_enter Tryz.func49,Tryz.ntmps49
 go_wp2_with fail
 go_ret
 exact⟨rfl,rfl⟩

set_option maxHeartbeats 1000000 in
theorem pnewS_good(w:World)(m:Nat)(h:m≤16384):Calls Tryz.prog 28 #[.int .i64 (m:Nat)] w fun x w'=>x=.returned (.tuple #[.pointer (some ⟨w.heap.size,0,none⟩),.int .i64 0])∧Sm w' w.heap.size m (.slice none 0 0) (.pointer none) (.slice none 0 0) 0 55∧Same w w':=by
 have h0:¬(m:Int)<0:=by omega
 have h1:¬(16384:Int)<(m:Int):=by omega
 go_enter Tryz.func28,Tryz.ntmps28
 go_wp2_with fail
 go_ret2
 exact⟨rfl,Blk.new w _ _,(Kept.refl _ w).alloc _⟩

end Go.Proofs.YtggcbnhckcenmaaGreatDoor

namespace Go.Proofs.YtggcbnhckcenmaaGreatDoor
open Go.RowKit

def own4(n:Nat):Prop:=n=1∨n=2∨n=3∨n=9

theorem SI.fed{w w1:World}{ρ:Part}{h most e:Nat}{va va1:Value}{bs cs:List Nat}{cur:Ps}{vl bv:Value}(s:SI w ρ h most e va bs cur vl bv)(hn:∀j,ρ j=0∨own5 (ρ j))(hk:Kept (fun j=>va.ownBlock=some j) w w1)(hrow:Row w1 va1 (bs++cs))(hown:va1.ownBlock=va.ownBlock∨va1.ownBlock=some w.heap.size)(hb:∀b∈cs,b<256):
  ∃ρ',SI (w1.setCell ⟨h,3,none⟩ va1) ρ' h most e va1 (bs++cs) cur vl bv∧(∀j,ρ' j=0∨own5 (ρ' j))∧(∀j,j<w.heap.size→ρ' j=ρ j)∧Kept (fun j=>own4 (ρ j)) w (w1.setCell ⟨h,3,none⟩ va1):=by
 obtain⟨ρ',hρ⟩:∃ρ':Part,ρ'=fun j=>if va1.ownBlock=some j then 9 else ρ j:=⟨_,rfl⟩
 have hold:∀j,j<w.heap.size→ρ' j=ρ j:=fun j hj=>by
  rw[hρ]
  simp only
  by_cases hv:va1.ownBlock=some j
  ·rw[if_pos hv]
   rcases hown with e1 | e1
   ·rw[e1]at hv;exact(s.r9 j hv).symm
   ·rw[e1]at hv;injection hv with hv;omega
  ·rw[if_neg hv]
 have h9:∀j,va1.ownBlock=some j→ρ' j=9:=fun j hj=>by rw[hρ];simp only;rw[if_pos hj]
 have hks:Kept (·=h) w1 (w1.setCell ⟨h,3,none⟩ va1):=(Kept.refl (·=h) w1).setCell ⟨h,3,none⟩ _ (.inl rfl)
 have hk2:Kept (fun j=>va.ownBlock=some j∨j=h) w (w1.setCell ⟨h,3,none⟩ va1):=Kept.trans hk hks (fun _ _ f=>.inl f) (fun _ _ f=>.inr f)
 have hnot:∀j,ρ j≠9→ρ j≠1→¬(va.ownBlock=some j∨j=h):=fun j h9 h1 f=>by
  rcases f with f | rfl
  ·exact h9 (s.r9 j f)
  ·exact h1 s.r1
 have hsm1:Sm w1 h most vl bv va cur.c e:=s.sm.kept hk (fun f=>by have:=s.r9 h f;rw[s.r1]at this;cases this)
 have hltn:∀j,ρ j≠0→ρ' j=ρ j:=fun j hj=>hold j (s.lt j hj)
 refine⟨ρ',⟨?_,s.row.kept hk2 (fun j hj=>hnot j (by have:=s.r2 j hj;omega) (by have:=s.r2 j hj;omega)),s.ol,s.mo,(s.bk.kept hk2 (fun j hj=>hnot j (by omega) (by omega))).turn hltn,⟨by rw[ofBytes_append,List.length_append];have:=s.ok.le;omega,s.ok.bk⟩,hrow.kept hks (fun j hj e1=>?_),?_,s.tab.kept hk2 (hnot _ (by have:=s.r10;omega) (by have:=s.r10;omega)),?_,fun k hk=>?_,h9,?_,fun j hj=>?_⟩,fun j=>?_,hold,hk2.mono (fun j _ f=>?_)⟩
 ·have:=hsm1.set 3 va1
  simpa using this
 ·rw[e1]at hj
  have h1:=h9 h hj
  rw[hltn h (by rw[s.r1];decide),s.r1]at h1
  cases h1
 ·intro b hbb
  rcases List.mem_append.1 hbb with hbb | hbb
  ·exact s.by' b hbb
  ·exact hb b hbb
 ·rw[hltn h (by rw[s.r1];decide)];exact s.r1
 ·have:=s.r2 k hk;rw[hltn k (by omega)];exact this
 ·have:=s.r10;rw[hltn _ (by omega)];exact this
 ·by_cases hv:va1.ownBlock=some j
  ·exact Nat.lt_of_lt_of_le (hrow.lt hv) hks.size
  ·rw[hρ]at hj
   simp only at hj
   rw[if_neg hv]at hj
   exact Nat.lt_of_lt_of_le (s.lt j hj) hk2.size
 ·rw[hρ]
  simp only
  by_cases hv:va1.ownBlock=some j
  ·rw[if_pos hv];exact .inr (by unfold own5;omega)
  ·rw[if_neg hv];exact hn j
 ·rcases f with f | rfl
  ·have:=s.r9 j f;unfold own4;omega
  ·exact .inl s.r1

theorem SW.same{w w':World}{ρ:Part}{h most e:Nat}{va:Value}{bs out:List Nat}{gone:Nat}{vl bv:Value}(s:SW w ρ h most e va bs out gone vl bv)(hk:Same w w'):SW w' ρ h most e va bs out gone vl bv:=
 ⟨s.sm.kept hk (fun f=>f),s.row.kept hk (fun _ _ f=>f),s.ah.kept hk (fun _ _ f=>f),s.by',s.gl,s.ol,s.tab.kept hk (fun f=>f),s.r1,s.r2,s.r9,s.r10,fun j hj=>Nat.lt_of_lt_of_le (s.lt j hj) hk.size⟩

theorem SI.let'{w w1:World}{ρ:Part}{h most e:Nat}{va va1:Value}{bs:List Nat}{t:Ps}{vl bv:Value}(s:SI w ρ h most e va bs t vl bv)(hn:∀j,ρ j=0∨own5 (ρ j))(hsm:Sm w1 h most vl bv va1 (t.c % 8) e)(hrow:Row w1 va1 (bs.drop (t.c / 8)))(hnew:∀k,va1.ownBlock=some k→w.heap.size≤k)(hk:Kept (·=h) w w1):
  ∃ρ',SI w1 ρ' h most e va1 (bs.drop (t.c / 8)) ⟨t.c % 8,t.out,t.bk⟩ vl bv∧(∀j,ρ' j=0∨own5 (ρ' j))∧(∀j,j<w.heap.size→ρ' j=ρ j)∧(∀j,w.heap.size≤j→va1.ownBlock≠some j→ρ' j=0):=by
 obtain⟨ρ',hρ⟩:∃ρ':Part,ρ'=fun j=>if va1.ownBlock=some j then 9 else ρ j:=⟨_,rfl⟩
 have hold:∀j,j<w.heap.size→ρ' j=ρ j:=fun j hj=>by
  rw[hρ]
  simp only
  rw[if_neg (fun hv=>by have:=hnew j hv;omega)]
 have hltn:∀j,ρ j≠0→ρ' j=ρ j:=fun j hj=>hold j (s.lt j hj)
 have h9:∀j,va1.ownBlock=some j→ρ' j=9:=fun j hj=>by rw[hρ];simp only;rw[if_pos hj]
 have hnot:∀j,ρ j≠1→¬j=h:=fun j h1 e1=>h1 (by rw[e1];exact s.r1)
 have hl:=s.len
 refine⟨ρ',⟨hsm,s.row.kept hk (fun j hj=>hnot j (by have:=s.r2 j hj;omega)),s.ol,s.mo,(s.bk.kept hk (fun j hj=>hnot j (by omega))).turn hltn,⟨by rw[ofBytes_length,List.length_drop];show t.c % 8≤_;omega,s.ok.bk⟩,hrow,fun b hb=>s.by' b (List.mem_of_mem_drop hb),s.tab.kept hk (hnot _ (by have:=s.r10;omega)),?_,fun k hk2=>?_,h9,?_,fun j hj=>?_⟩,fun j=>?_,hold,fun j hj hv=>?_⟩
 ·rw[hltn h (by rw[s.r1];decide)];exact s.r1
 ·have:=s.r2 k hk2;rw[hltn k (by omega)];exact this
 ·have:=s.r10;rw[hltn _ (by omega)];exact this
 ·by_cases hv:va1.ownBlock=some j
  ·exact hrow.lt hv
  ·rw[hρ]at hj
   simp only at hj
   rw[if_neg hv]at hj
   exact Nat.lt_of_lt_of_le (s.lt j hj) hk.size
 ·rw[hρ]
  simp only
  by_cases hv:va1.ownBlock=some j
  ·rw[if_pos hv];exact .inr (by unfold own5;omega)
  ·rw[if_neg hv];exact hn j
 ·rw[hρ]
  simp only
  rw[if_neg hv]
  refine Classical.byContradiction (fun hc=>?_)
  have:=s.lt j hc
  omega

inductive FeedP(w w':World)(ρ:Part)(h most:Nat)(al:List Nat)(cur:Ps)(x:Ending):Prop
 | done (t:Ps) (v' va':Value) (he:Ends (ofBytes al) most cur t 0) (hx:x=.returned (.tuple #[v',.int .i64 0])) (hr:Row w' v' (t.out.drop cur.out.length)) (hv:∀k,v'.ownBlock=some k→w.heap.size≤k) (hs:Sm w' h 0 (.slice none 0 0) (.pointer none) va' 0 0) (ha:Row w' va' (al.drop ((t.c+7) / 8))) (hav:∀k,va'.ownBlock=some k→w.heap.size≤k∧v'.ownBlock≠some k) (hvh:v'.ownBlock≠some h) (hk:Kept (fun j=>own4 (ρ j)) w w') (hw:Whole w' v')
 | wait (t:Ps) (v' va':Value) (ρ':Part) (vl bv:Value) (he:Ends (ofBytes al) most cur t 55) (hx:x=.returned (.tuple #[v',.int .i64 0])) (hr:Row w' v' (t.out.drop cur.out.length)) (hv:∀k,v'.ownBlock=some k→w.heap.size≤k∧ρ' k=0) (hs:SI w' ρ' h most 55 va' (al.drop (t.c / 8)) ⟨t.c % 8,t.out,t.bk⟩ vl bv) (hn:∀j,ρ' j=0∨own5 (ρ' j)) (ho:∀j,j<w.heap.size→ρ' j=ρ j) (hk:Kept (fun j=>own4 (ρ j)) w w')
 | fail (t:Ps) (er:Nat) (he:Ends (ofBytes al) most cur t er) (h0:er≠0) (h5:er≠55) (hx:x=.returned (.tuple #[.slice none 0 0,.int .i64 (er:Nat)])) (hs:Sm w' h 0 (.slice none 0 0) (.pointer none) (.slice none 0 0) 0 er) (hk:Kept (fun j=>own4 (ρ j)) w w')

set_option maxRecDepth 100000 in
set_option maxHeartbeats 4000000 in
theorem pfeed_wait(w:World)(ρ:Part)(ob most:Nat)(va:Value)(bs:List Nat)(cur:Ps)(vl bv:Value)(hs:SI w ρ ob most 55 va bs cur vl bv)(hn:∀j,ρ j=0∨own5 (ρ j))(h7:cur.c≤7)(v:Value)(I:Nat→Prop)(cs:List Nat)(hv:Src w I v cs)(hb:∀b∈cs,b<256)(hnil:∀n c,v=.slice none n c→n=0∧c=0)(hlen:bs.length+cs.length≤2000000):
  Calls Tryz.prog 29 #[.pointer (some ⟨ob,0,none⟩),v] w fun x w'=>FeedP w w' ρ ob most (bs++cs) cur x:=by
 obtain⟨aa,capa,hva,_⟩:=hs.ah.shape
 subst hva
 obtain⟨al,cl,hvl,_⟩:=hs.row.shape
 have HD:=pdone_any w ob most vl bv _ cur.c 55 hs.sm
 have c5:w.cell? ⟨ob,5,none⟩=some (.int .i64 55):=hs.sm.cell 5
 have HS:Hid (SI w ρ ob most 55 (.slice aa bs.length capa) bs cur vl bv):=hs
 have HV:Hid (Src w I v cs):=hv
 have HNIL:Hid (∀n c,v=.slice none n c→n=0∧c=0):=hnil
 obtain⟨av,cv,hvv,_⟩:=id hv
 obtain⟨nv,hnv⟩:∃n,n=cs.length:=⟨_,rfl⟩
 rw[←hnv]at hvv
 subst hvv
 have c1:w.cell? ⟨ob,1,none⟩=some vl:=hs.sm.cell 1
 obtain⟨ML,hML⟩:∃M,M=cur.out.length:=⟨_,rfl⟩
 rw[←hML]at hvl
 subst hvl
 have c3:w.cell? ⟨ob,3,none⟩=some (.slice aa bs.length capa):=hs.sm.cell 3
 have HML:Hid (ML=cur.out.length):=hML
 have HN:Hid (∀j,ρ j=0∨own5 (ρ j)):=hn
 have HB:Hid (∀b∈cs,b<256):=hb
 have HLEN:Hid (bs.length+cs.length≤2000000):=hlen
 have HLB:Hid (bs.length+cs.length≤1000000000000):=hid (by omega)
 obtain⟨LB,hLB⟩:∃L,L=bs.length:=⟨_,rfl⟩
 rw[←hLB]at c3
 have HLL:Hid (LB=bs.length):=hLB
 have HROW:Hid (Row w (.slice aa LB capa) bs):=hid (by rw[hLB];exact hs.ah)
 clear hs hv hnil hb hn hnv hlen hML hLB
 go_enter Tryz.func29,Tryz.ntmps29
 go_wp2_with fail
 refine HD.mono ?_
 rintro x w1 ⟨rfl,m1,hw1⟩
 have HK1:Hid (Same w w1):=hid (by rw[hw1];exact(Kept.refl _ w).drewN m1)
 have HSZ1:Hid (w1.heap.size=w.heap.size):=hid (by rw[hw1];rfl)
 have HS1:Hid (SI w1 ρ ob most 55 (.slice aa bs.length capa) bs cur (.slice al ML cl) bv):=hid (HS.out.kept HK1.out (fun _ _ f=>f))
 have b5:w1.cell? ⟨ob,5,none⟩=some (.int .i64 55):=HK1.out.cell c5 (fun f=>f)
 have b1:w1.cell? ⟨ob,1,none⟩=some (.slice al ML cl):=HK1.out.cell c1 (fun f=>f)
 have b3:w1.cell? ⟨ob,3,none⟩=some (.slice aa LB capa):=HK1.out.cell c3 (fun f=>f)
 have HROW1:Hid (Row w1 (.slice aa LB capa) bs):=hid (HROW.out.kept HK1.out (fun _ _ f=>f))
 have HV1:Hid (Src w1 I (.slice av nv cv) cs):=hid (HV.out.kept HK1.out (fun _ _ _ f=>f))
 clear hw1 HD c1 c3 c5 HS HROW HV
 simp only[show((55:Nat)==0)=false from by decide]
 go_wp2_with (at_builtin;refine wpList_append_any _ rfl (.tmp 43) (.tmp 44) rfl (.slice aa LB capa) bs rfl HROW1.out I (.slice av nv cv) cs rfl HNIL.out HV1.out HLB.out ?_)
 intro v2 w2 hr2 hg2 ho2
 have hk12:Kept (fun j=>(Value.slice aa LB capa).ownBlock=some j) w1 w2:=(Kept.refl _ w1).grown hg2 (fun j e=>.inl e)
 have HOB:Hid ((Value.slice aa LB capa).ownBlock=(Value.slice aa bs.length capa).ownBlock):=hid (by rw[HLL.out])
 have hk12':Kept (fun j=>(Value.slice aa bs.length capa).ownBlock=some j) w1 w2:=hk12.mono (fun j _ f=>by rw[←HOB.out];exact f)
 have HSM2:Hid (Sm w2 ob most (.slice al ML cl) bv (.slice aa bs.length capa) cur.c 55):=hid (HS1.out.sm.kept hk12' (fun f=>by have:=HS1.out.r9 ob f;rw[HS1.out.r1]at this;cases this))
 have d3:w2.cell? ⟨ob,3,none⟩=some (.slice aa bs.length capa):=HSM2.out.cell 3
 have z3:w2.frozen? ⟨ob,3,none⟩=false:=HSM2.out.frozen 3
 have HFED:Hid (∃ρ',SI (w2.setCell ⟨ob,3,none⟩ v2) ρ' ob most 55 v2 (bs++cs) cur (.slice al ML cl) bv∧(∀j,ρ' j=0∨own5 (ρ' j))∧(∀j,j<w1.heap.size→ρ' j=ρ j)∧Kept (fun j=>own4 (ρ j)) w1 (w2.setCell ⟨ob,3,none⟩ v2)):=hid (HS1.out.fed HN.out hk12' hr2 (by rw[←HOB.out];exact ho2) HB.out)
 obtain⟨a2,cp2,hv2,_⟩:=hr2.shape
 generalize (bs++cs).length=n2 at hv2
 subst hv2
 obtain⟨W3,hW3⟩:∃W,W=w2.setCell ⟨ob,3,none⟩ (.slice a2 n2 cp2):=⟨_,rfl⟩
 rw[←hW3]at HFED
 obtain⟨ρ3,hsi3,hn3,hold3,hk3⟩:=HFED.out
 have HRD:=pread_any W3 ρ3 ob most 55 _ (bs++cs) cur _ bv hsi3 hn3 h7 (by rw[List.length_append];exact HLEN.out)
 have HK3:Hid (Kept (fun j=>own4 (ρ j)) w W3):=hid (Kept.trans HK1.out hk3 (fun _ _ f=>f.elim) (fun _ _ f=>f))
 have HOLD3:Hid (∀j,j<w.heap.size→ρ3 j=ρ j):=hid (fun j hj=>hold3 j (by have:=HSZ1.out;omega))
 have hszW:w.heap.size≤W3.heap.size:=HK3.out.size
 clear hr2 hg2 ho2 hk12 hk12' HFED hsi3 hn3 hold3 hk3 HSM2
 go_wp2_with fail
 rw[←hW3]
 clear hW3
 refine HRD.mono ?_
 rintro x w4 ⟨er,t,ρ4,vl4,bv4,out,gone,rfl,hrd⟩
 have HRP:Hid (RdP W3 w4 ρ3 ob most 55 (.slice a2 n2 cp2) (bs++cs) cur er t ρ4 vl4 bv4 out gone):=hrd
 obtain⟨a4,c4,hv4,_⟩:=hrd.sw.row.shape
 obtain⟨L4,hL4⟩:∃L,L=out.length:=⟨_,rfl⟩
 rw[←hL4]at hv4
 subst hv4
 have e1:w4.cell? ⟨ob,1,none⟩=some (.slice a4 L4 c4):=hrd.sw.sm.cell 1
 have hML4:ML≤L4:=by have:=hrd.more;have:=HML.out;omega
 have hL4c:L4≤c4:=by
  rcases hrd.sw.row.2 with⟨e1,hn⟩ | ⟨g,cp,cc,e1,_,_,hle,_⟩
  ·simp only[Value.slice.injEq]at e1;omega
  ·simp only[Value.slice.injEq]at e1;omega
 have HL4:Hid (L4=out.length):=hL4
 have HSH:Hid ((a4=none∧L4=0∧c4=0)∨∃g,a4=some ⟨g,0,none⟩):=hid (by
  rcases hrd.sw.row.2 with⟨e1,hn⟩ | ⟨g,cp,cur,e1,_⟩
  ·simp only[Value.slice.injEq]at e1;exact .inl ⟨e1.1,by omega,e1.2.2⟩
  ·simp only[Value.slice.injEq]at e1;exact .inr ⟨g,e1.1⟩)
 have hkN:Kept (fun j=>own4 (ρ j)) w w4:=Kept.trans HK3.out hrd.kp (fun _ _ f=>f) (fun j hj f=>by
  have:=HOLD3.out j hj
  unfold own4
  omega)
 have HKN:Hid (Kept (fun j=>own4 (ρ j)) w w4):=hkN
 have HCL:Hid (∀(W:World) (a':Option Addr) (c':Nat),Same w4 W→(ML<L4→∃g,a4=some ⟨g,0,none⟩∧a'=some ⟨g,ML,none⟩)→Calls Tryz.prog 51 #[.slice a' (L4-ML) c'] W fun x w'=>∃v',x=.returned v'∧Fresh W w' v' (out.drop ML)∧Whole w' v'):=hid (fun W a' c' hW ha=>by
  have hr:=HRP.out.sw.row
  have hr2:Row w4 (.slice a4 out.length c4) out:=by rw[←hL4];exact hr
  exact pclone_whole W (.slice a' (L4-ML) c') _ (out.drop ML) (by rw[hL4];exact(hr2.rest ML (by omega) a' c' (by rw[←hL4];exact ha)).kept hW (fun _ _ _ f=>f)) (by
   rw[List.length_drop]
   have:=HRP.out.sw.ol
   omega))
 clear hrd hkN HRD hL4
 have i1:(0:Int)≤(ML:Int):=by omega
 have i2:(ML:Int)≤(L4:Int):=by omega
 have i3:(L4:Int)≤(c4:Int):=by omega
 have i4:(ML:Int)≤(c4:Int):=by omega
 by_cases he0:er=0
 ·subst he0
  go_wp2_with fail
  all_goals
   refine(HCL.out _ _ _ (Kept.refl _ _) ?_).mono ?_
   ·intro hlt
    rcases HSH.out with⟨_,h0,_⟩ | ⟨g,hg⟩
    ·omega
    ·refine⟨g,hg,?_⟩
     first
      | (rw[hg];simp[addAt];done)
      | (exfalso;omega)
   rintro x w5 ⟨v5,rfl,hf5,hw5⟩
   have HW5:Hid (Whole w5 v5):=hw5
   clear hw5
   have HF5:Hid (Fresh w4 w5 v5 (out.drop ML)):=hf5
   have HKP:=pkeep_done w5 ρ4 ob most 55 _ (bs++cs) out gone _ bv4 (HRP.out.sw.same hf5.kept) (by rw[List.length_append];exact HLEN.out)
   have HH4:Hid (ob<w4.heap.size):=hid HRP.out.sw.sm.lt
   obtain⟨a5,cp5,hv5,_⟩:=hf5.row.shape
   generalize (out.drop ML).length=n5 at hv5
   subst hv5
   clear hf5
   go_wp2_with fail
   refine HKP.mono ?_
   rintro x w6 ⟨⟨u6,rfl⟩,va6,hsm6,hrow6,hnew6,hk6⟩
   have hv6:∀k,(Value.slice a5 n5 cp5).ownBlock=some k→w4.heap.size≤k:=HF5.out.new
   have hvh:(Value.slice a5 n5 cp5).ownBlock≠some ob:=fun e9=>by have:=hv6 ob e9;have:=HH4.out;omega
   have HKA:Hid (Kept (fun j=>own4 (ρ j)) w w6):=hid (Kept.trans (Kept.trans (H:=fun j=>own4 (ρ j)) HKN.out HF5.out.kept (fun _ _ f=>f) (fun _ _ f=>f.elim)) hk6 (fun _ _ f=>f) (fun j _ e9=>by rw[e9];exact .inl HS1.out.r1))
   have HRW:Hid (Row w6 (.slice a5 n5 cp5) (out.drop ML)):=hid (HF5.out.row.kept hk6 (fun k e9 e8=>hvh (by rw[←e8];exact e9)))
   have HWH:Hid (Whole w6 (.slice a5 n5 cp5)):=hid (HW5.out.kept hk6 (fun k e9 e8=>hvh (by rw[←e8];exact e9)))
   have HVH:Hid ((Value.slice a5 n5 cp5).ownBlock≠some ob):=hvh
   have HV6:Hid (∀k,(Value.slice a5 n5 cp5).ownBlock=some k→w4.heap.size≤k∧k<w5.heap.size):=hid (fun k e9=>⟨hv6 k e9,HF5.out.row.lt e9⟩)
   have HSM6:=hid hsm6
   have HRO6:=hid hrow6
   have HNE6:=hid hnew6
   have HKE6:=hid hk6
   clear hsm6 hrow6 hnew6 hk6 hv6 hvh HKP
   go_wp2_with fail
   go_ret2
   have hs4:w.heap.size≤w4.heap.size:=HKN.out.size
   have hs5:w4.heap.size≤w5.heap.size:=HF5.out.kept.size
   obtain⟨rfl,rfl⟩:=HRP.out.done rfl
   have eg:(t.c+7) / 8*8 / 8=(t.c+7) / 8:=by omega
   refine .done t _ va6 HRP.out.ends rfl (by rw[←HML.out];exact HRW.out) (fun k e9=>by have:=HV6.out k e9;omega) HSM6.out (by rw[←eg];exact HRO6.out) (fun k e9=>⟨by have:=HNE6.out k e9;omega,fun e8=>by have:=HV6.out k e8;have:=HNE6.out k e9;omega⟩) HVH.out HKA.out HWH.out
 ·by_cases he5:er=55
  ·subst he5
   clear he0
   go_wp2_with fail
   all_goals
    refine(HCL.out _ _ _ (Kept.refl _ _) ?_).mono ?_
    ·intro hlt
     rcases HSH.out with⟨_,h0,_⟩ | ⟨g,hg⟩
     ·omega
     ·refine⟨g,hg,?_⟩
      first
       | (rw[hg];simp[addAt];done)
       | (exfalso;omega)
    rintro x w5 ⟨v5,rfl,hf5,_⟩
    have HF5:Hid (Fresh w4 w5 v5 (out.drop ML)):=hf5
    have HKP:=pkeep_wait w5 ρ4 ob most 55 _ (bs++cs) out gone _ bv4 (HRP.out.sw.same hf5.kept) (by rw[List.length_append];exact HLEN.out)
    have HH4:Hid (ob<w4.heap.size):=hid HRP.out.sw.sm.lt
    obtain⟨a5,cp5,hv5,_⟩:=hf5.row.shape
    generalize (out.drop ML).length=n5 at hv5
    subst hv5
    clear hf5
    go_wp2_with fail
    refine HKP.mono ?_
    rintro x w6 ⟨⟨u6,rfl⟩,va6,hsm6,hrow6,hnew6,hk6⟩
    have hv6:∀k,(Value.slice a5 n5 cp5).ownBlock=some k→w4.heap.size≤k:=HF5.out.new
    have hvh:(Value.slice a5 n5 cp5).ownBlock≠some ob:=fun e9=>by have:=hv6 ob e9;have:=HH4.out;omega
    have HKA:Hid (Kept (fun j=>own4 (ρ j)) w w6):=hid (Kept.trans (Kept.trans (H:=fun j=>own4 (ρ j)) HKN.out HF5.out.kept (fun _ _ f=>f) (fun _ _ f=>f.elim)) hk6 (fun _ _ f=>f) (fun j _ e9=>by rw[e9];exact .inl HS1.out.r1))
    have HRW:Hid (Row w6 (.slice a5 n5 cp5) (out.drop ML)):=hid (HF5.out.row.kept hk6 (fun k e9 e8=>hvh (by rw[←e8];exact e9)))
    have HVH:Hid ((Value.slice a5 n5 cp5).ownBlock≠some ob):=hvh
    have HV6:Hid (∀k,(Value.slice a5 n5 cp5).ownBlock=some k→w4.heap.size≤k∧k<w5.heap.size):=hid (fun k e9=>⟨hv6 k e9,HF5.out.row.lt e9⟩)
    have HSM6:=hid hsm6
    have HRO6:=hid hrow6
    have HNE6:=hid hnew6
    have HKE6:=hid hk6
    clear hsm6 hrow6 hnew6 hk6 hv6 hvh HKP
    go_wp2_with fail
    go_ret2
    have hs4:w.heap.size≤w4.heap.size:=HKN.out.size
    have hs5:w4.heap.size≤w5.heap.size:=HF5.out.kept.size
    obtain⟨hsi4,rfl,rfl⟩:=HRP.out.wait rfl
    obtain⟨ρ6,h1,h2,h3,_⟩:=SI.let' (hsi4.kept HF5.out.kept (fun _ _ f=>f)) HRP.out.n0 HSM6.out HRO6.out HNE6.out HKE6.out
    refine .wait t _ va6 ρ6 _ _ HRP.out.ends rfl (by rw[←HML.out];exact HRW.out) (fun k e9=>⟨by have:=HV6.out k e9;omega,?_⟩) h1 h2 (fun j hj=>?_) HKA.out
    ·rw[h3 k (HV6.out k e9).2]
     refine Classical.byContradiction (fun hc=>?_)
     have:=hsi4.lt k hc
     have:=HV6.out k e9
     omega
    ·rw[h3 j (by omega),HRP.out.old j (by omega),HOLD3.out j hj]
  ·have HE0:Hid (er≠0):=he0
   have HE5:Hid (er≠55):=he5
   have hd0:((er:Int) != 0)=true:=by simp;omega
   have hd5:((er:Int) != 55)=true:=by simp;omega
   clear he0 he5
   go_wp2_with fail
   all_goals
    refine(HCL.out _ _ _ (Kept.refl _ _) ?_).mono ?_
    ·intro hlt
     rcases HSH.out with⟨_,h0,_⟩ | ⟨g,hg⟩
     ·omega
     ·refine⟨g,hg,?_⟩
      first
       | (rw[hg];simp[addAt];done)
       | (exfalso;omega)
    rintro x w5 ⟨v5,rfl,hf5,_⟩
    have HF5:Hid (Fresh w4 w5 v5 (out.drop ML)):=hf5
    have HKP:=pkeep_fail w5 ρ4 ob most 55 _ (bs++cs) out gone _ bv4 er HE0.out HE5.out (HRP.out.sw.same hf5.kept) (by rw[List.length_append];exact HLEN.out)
    have HH4:Hid (ob<w4.heap.size):=hid HRP.out.sw.sm.lt
    obtain⟨a5,cp5,hv5,_⟩:=hf5.row.shape
    generalize (out.drop ML).length=n5 at hv5
    subst hv5
    clear hf5
    go_wp2_with fail
    refine HKP.mono ?_
    rintro x w6 ⟨⟨u6,rfl⟩,va6,hsm6,hrow6,hnew6,hk6⟩
    have hv6:∀k,(Value.slice a5 n5 cp5).ownBlock=some k→w4.heap.size≤k:=HF5.out.new
    have hvh:(Value.slice a5 n5 cp5).ownBlock≠some ob:=fun e9=>by have:=hv6 ob e9;have:=HH4.out;omega
    have HKA:Hid (Kept (fun j=>own4 (ρ j)) w w6):=hid (Kept.trans (Kept.trans (H:=fun j=>own4 (ρ j)) HKN.out HF5.out.kept (fun _ _ f=>f) (fun _ _ f=>f.elim)) hk6 (fun _ _ f=>f) (fun j _ e9=>by rw[e9];exact .inl HS1.out.r1))
    have HRW:Hid (Row w6 (.slice a5 n5 cp5) (out.drop ML)):=hid (HF5.out.row.kept hk6 (fun k e9 e8=>hvh (by rw[←e8];exact e9)))
    have HVH:Hid ((Value.slice a5 n5 cp5).ownBlock≠some ob):=hvh
    have HV6:Hid (∀k,(Value.slice a5 n5 cp5).ownBlock=some k→w4.heap.size≤k∧k<w5.heap.size):=hid (fun k e9=>⟨hv6 k e9,HF5.out.row.lt e9⟩)
    have HSM6:=hid hsm6
    have HRO6:=hid hrow6
    have HNE6:=hid hnew6
    have HKE6:=hid hk6
    clear hsm6 hrow6 hnew6 hk6 hv6 hvh HKP
    go_wp2_with fail
    go_ret2
    have hs4:w.heap.size≤w4.heap.size:=HKN.out.size
    have hs5:w4.heap.size≤w5.heap.size:=HF5.out.kept.size
    exact .fail t er HRP.out.ends HE0.out HE5.out rfl HSM6.out HKA.out

end Go.Proofs.YtggcbnhckcenmaaGreatDoor

namespace Go.Proofs.YtggcbnhckcenmaaGreatDoor
open Go.RowKit

theorem Tab.lt{w:World}(h:Tab w):0<w.heap.size:=World.block_lt_of_cell? w _ (h 0 (by decide))

theorem SI.init(w:World)(h most:Nat)(hs:Sm w h most (.slice none 0 0) (.pointer none) (.slice none 0 0) 0 55)(hm:most≤16384)(hT:Tab w)(hh:h≠0):∃ρ:Part,SI w ρ h most 55 (.slice none 0 0) [] ps0 (.slice none 0 0) (.pointer none)∧(∀j,ρ j=0∨own5 (ρ j))∧(∀j,own4 (ρ j)→j=h)∧(∀j,j≠h→j≠0→ρ j=0):=by
 refine⟨fun j=>if j=h then 1 else if j=0 then 10 else 0,⟨hs,World.ownsRow_nil w 0 5 1,Nat.zero_le _,hm,rfl,ps0_ok _,World.ownsRow_nil w 0 5 1,fun b hb=>(by simp at hb),hT,if_pos rfl,fun k e=>(by cases e),fun k e=>(by cases e),?_,fun j hj=>?_⟩,fun j=>?_,fun j hj=>?_,fun j h1 h2=>?_⟩
 ·simp only
  rw[if_neg (fun e=>hh e.symm),if_pos trivial]
 ·by_cases h1:j=h
  ·rw[h1];exact hs.lt
  ·rw[if_neg h1]at hj
   by_cases h2:j=0
   ·rw[h2];exact hT.lt
   ·rw[if_neg h2]at hj;exact absurd rfl hj
 ·simp only
  by_cases h1:j=h
  ·rw[if_pos h1];exact .inr (.inl rfl)
  ·rw[if_neg h1]
   by_cases h2:j=0
   ·rw[if_pos h2];exact .inr (by unfold own5;omega)
   ·rw[if_neg h2];exact .inl rfl
 ·simp only at hj
  refine Classical.byContradiction (fun h1=>?_)
  rw[if_neg h1]at hj
  by_cases h2:j=0
  ·rw[if_pos h2]at hj;unfold own4 at hj;omega
  ·rw[if_neg h2]at hj;unfold own4 at hj;omega
 ·simp only
  rw[if_neg h1,if_neg h2]

inductive InfP(w w':World)(cs:List Nat)(most:Nat)(x:Ending):Prop
 | done (t:Ps) (v':Value) (he:Ends (ofBytes cs) most ps0 t 0) (hx:x=.returned (.tuple #[v',.int .i64 (((t.c+7) / 8:Nat):Int),.int .i64 0])) (hr:Row w' v' t.out) (hv:∀k,v'.ownBlock=some k→w.heap.size≤k) (hk:Same w w') (hw:Whole w' v')
 | fail (t:Ps) (er:Nat) (he:Ends (ofBytes cs) most ps0 t er) (h0:er≠0) (hx:x=.returned (.tuple #[.slice none 0 0,.int .i64 0,.int .i64 (er:Nat)])) (hk:Same w w')

set_option maxRecDepth 100000 in
set_option maxHeartbeats 2000000 in
theorem pinfl_any(w:World)(v:Value)(I:Nat→Prop)(cs:List Nat)(most:Nat)(hv:Src w I v cs)(hb:∀b∈cs,b<256)(hnil:∀n c,v=.slice none n c→n=0∧c=0)(hlen:cs.length≤2000000)(hm:most≤16384)(hT:Tab w):
  Calls Tryz.prog 27 #[v,.int .i64 (most:Nat)] w fun x w'=>InfP w w' cs most x:=by
 have HN:=pnewS_good w most hm
 have HV:Hid (Src w I v cs):=hv
 have HB:Hid (∀b∈cs,b<256):=hb
 have HNIL:Hid (∀n c,v=.slice none n c→n=0∧c=0):=hnil
 have HT:Hid (Tab w):=hT
 obtain⟨av,cv,hvv,_⟩:=id hv
 obtain⟨nv,hnv⟩:∃n,n=cs.length:=⟨_,rfl⟩
 rw[←hnv]at hvv
 subst hvv
 have HNV:Hid (nv=cs.length):=hnv
 have hnl:nv≤2000000:=by omega
 clear hv hb hnil hT hnv hlen
 go_enter Tryz.func27,Tryz.ntmps27
 go_wp2_with fail
 refine HN.mono ?_
 rintro x w1 ⟨rfl,hsm1,hk1⟩
 have hTl:=HT.out.lt
 obtain⟨ρ,hsi,hn0,h4,_⟩:=SI.init w1 w.heap.size most hsm1 hm (HT.out.kept hk1 (fun f=>f)) (by omega)
 have HF:=pfeed_wait w1 ρ w.heap.size most _ [] ps0 _ _ hsi hn0 (by decide) (.slice av nv cv) I cs (HV.out.kept hk1 (fun _ _ _ f=>f)) HB.out HNIL.out (by rw[←HNV.out];simp;omega)
 have HK1:Hid (Same w w1):=hk1
 have H4:Hid (∀j,own4 (ρ j)→j=w.heap.size):=h4
 clear hsm1 hk1 hsi hn0 h4 HN
 go_wp2_with fail
 refine HF.mono ?_
 rintro x w2 hf
 have HKK:Hid (∀w3,Kept (fun j=>own4 (ρ j)) w1 w3→Same w w3):=hid (fun w3 hk=>Kept.trans HK1.out hk (fun _ _ f=>f) (fun j hj f=>by have:=H4.out j f;omega))
 rw[List.nil_append]at hf
 clear HF
 cases hf with
 | done t v' va' he hx hr hv' hs ha hav hvh hk hw=>
  subst hx
  have HW:Hid (Whole w2 v'):=hw
  clear hw
  have HC:=pclose_any w2 w.heap.size _ _ _ _ _ _ hs
  have c3:=hs.cell 3
  simp at c3
  obtain⟨a3,cp3,hva,_⟩:=ha.shape
  obtain⟨n3,hn3⟩:∃n,n=(cs.drop ((t.c+7) / 8)).length:=⟨_,rfl⟩
  rw[←hn3]at hva
  subst hva
  have hcl:t.c≤8*cs.length:=by
   have:=(he.inv (ofBytes_lt cs) (ps0_ok _)).1.le
   rwa [ofBytes_length]at this
  obtain⟨q,hq⟩:∃q,q=(t.c+7) / 8:=⟨_,rfl⟩
  have hsub:(nv:Int)-(n3:Int)=(q:Int):=by
   have:=HNV.out
   rw[List.length_drop]at hn3
   omega
  have hqw:IntKind.i64.wrap (q:Int)=(q:Int):=by rw[IntKind.wrap_i64];omega
  have HE:Hid (Ends (ofBytes cs) most ps0 t 0):=he
  have HR:Hid (Row w2 v' t.out):=hid (by simpa[ps0]using hr)
  have HVN:Hid (∀k,v'.ownBlock=some k→w.heap.size≤k):=hid (fun k e=>Nat.le_trans HK1.out.size (hv' k e))
  have HK2:Hid (Same w w2):=hid (HKK.out w2 hk)
  have HQ:Hid (q=(t.c+7) / 8):=hq
  obtain⟨a5,cp5,hv5,_⟩:=HR.out.shape
  generalize t.out.length=n5 at hv5
  subst hv5
  clear he hr hv' hs ha hav hvh hk hq hn3 hcl HKK
  go_wp2_with fail
  refine HC.mono ?_
  rintro x w3 ⟨rfl,hw3⟩
  subst hw3
  clear HC
  go_wp2_with fail
  go_quiet (fail)
  go_wp2_with fail
  refine bodyPost_ret (v:=.tuple #[.slice a5 n5 cp5,.int .i64 (q:Nat),.int .i64 0]) (by simp[results,Tryz.results27,go_sem]) rfl ?_
  exact .done t _ HE.out (by rw[←HQ.out]) (HR.out.kept ((Kept.refl (fun _=>False) _).drewN _) (fun _ _ f=>f)) HVN.out (HK2.out.drewN _) (HW.out.kept ((Kept.refl (fun _=>False) _).drewN _) (fun _ _ f=>f))
 | wait t v' va' ρ' vl bv he hx hr hv' hs hn ho hk=>
  subst hx
  have HC:=pclose_any w2 w.heap.size _ _ _ _ _ _ hs.sm
  have HE:Hid (Ends (ofBytes cs) most ps0 t 55):=he
  have HK2:Hid (Same w w2):=hid (HKK.out w2 hk)
  obtain⟨a5,cp5,hv5,_⟩:=hr.shape
  generalize (t.out.drop ps0.out.length).length=n5 at hv5
  subst hv5
  clear he hr hv' hs hn ho hk HKK
  go_wp2_with fail
  refine HC.mono ?_
  rintro x w3 ⟨rfl,hw3⟩
  subst hw3
  clear HC
  go_wp2_with fail
  refine bodyPost_ret (v:=.tuple #[.slice none 0 0,.int .i64 0,.int .i64 55]) (by simp[results,Tryz.results27,go_sem]) rfl ?_
  exact .fail t 55 HE.out (by decide) rfl HK2.out
 | fail t er he h0 h5 hx hs hk=>
  subst hx
  have HC:=pclose_any w2 w.heap.size _ _ _ _ _ _ hs
  have HE:Hid (Ends (ofBytes cs) most ps0 t er):=he
  have HE0:Hid (er≠0):=h0
  have hed:((er:Int) != 0)=true:=by simp;omega
  have HK2:Hid (Same w w2):=hid (HKK.out w2 hk)
  clear he hs hk HKK h0 h5
  go_wp2_with fail
  refine HC.mono ?_
  rintro x w3 ⟨rfl,hw3⟩
  subst hw3
  clear HC
  go_wp2_with fail
  refine bodyPost_ret (v:=.tuple #[.slice none 0 0,.int .i64 0,.int .i64 (er:Nat)]) (by simp[results,Tryz.results27,go_sem]) rfl ?_
  exact .fail t er HE.out HE0.out rfl HK2.out

end Go.Proofs.YtggcbnhckcenmaaGreatDoor

namespace Go.Proofs.YtggcbnhckcenmaaGreatDoor
open Go.RowKit

theorem lit_row(w:World)(bs:List Nat)(n:Nat)(hn:bs.length=n)(hm:n≤1000):Row (w.alloc (.cells (bs.map byteV).toArray 5)) (.slice (some ⟨w.heap.size,0,none⟩) n n) bs:=by
 refine⟨by simp,.inr ⟨w.heap.size,n,_,by rw[hn],Nat.zero_le _,Blk.new w _ _,by omega,by simp only[maxLen];omega,by simp[hn],?_⟩⟩
 rw[List.take_of_length_le (by simp)]

theorem InfP.is{w w':World}{cs:List Nat}{most:Nat}{x:Ending}{t0:Ps}(h:InfP w w' cs most x)(he:Ends (ofBytes cs) most ps0 t0 0):∃v',x=.returned (.tuple #[v',.int .i64 (((t0.c+7) / 8:Nat):Int),.int .i64 0])∧Row w' v' t0.out∧(∀k,v'.ownBlock=some k→w.heap.size≤k)∧Same w w':=by
 cases h with
 | done t v' he' hx hr hv hk=>
  obtain⟨rfl,_⟩:=he'.det he
  exact⟨v',hx,hr,hv,hk⟩
 | fail t er he' h0 hx hk=>exact absurd (he'.det he).2 h0

end Go.Proofs.YtggcbnhckcenmaaGreatDoor

namespace Go.Proofs.YtggcbnhckcenmaaGreatDoor
open Go.RowKit

set_option maxRecDepth 100000 in
set_option maxHeartbeats 2000000 in
theorem pfeed_done(w:World)(ob:Nat)(va:Value)(bs:List Nat)(hs:Sm w ob 0 (.slice none 0 0) (.pointer none) va 0 0)(ha:Row w va bs)(hne:va.ownBlock≠some ob)(v:Value)(I:Nat→Prop)(cs:List Nat)(hv:Src w I v cs)(hnil:∀n c,v=.slice none n c→n=0∧c=0)(hlen:bs.length+cs.length≤2000000):
  Calls Tryz.prog 29 #[.pointer (some ⟨ob,0,none⟩),v] w fun x w'=>x=.returned (.tuple #[.slice none 0 0,.int .i64 0])∧∃va',Sm w' ob 0 (.slice none 0 0) (.pointer none) va' 0 0∧Row w' va' (bs++cs)∧va'.ownBlock≠some ob∧(va'.ownBlock=va.ownBlock∨va'.ownBlock=some w.heap.size)∧Kept (fun j=>j=ob∨va.ownBlock=some j) w w':=by
 obtain⟨aa,capa,hva,_⟩:=ha.shape
 have HD:=pdone_any w ob 0 _ _ va 0 0 hs
 have HS:Hid (Sm w ob 0 (.slice none 0 0) (.pointer none) va 0 0):=hs
 have HA:Hid (Row w va bs):=ha
 have HV:Hid (Src w I v cs):=hv
 have HNIL:Hid (∀n c,v=.slice none n c→n=0∧c=0):=hnil
 have HLB:Hid (bs.length+cs.length≤1000000000000):=hid (by omega)
 have HNE:Hid (va.ownBlock≠some ob):=hne
 have HOB:Hid (ob<w.heap.size):=hid hs.lt
 obtain⟨LB,hLB⟩:∃L,L=bs.length:=⟨_,rfl⟩
 rw[←hLB]at hva
 subst hva
 obtain⟨av,cv,hvv,_⟩:=id hv
 generalize cs.length=nv at hvv
 subst hvv
 clear hs ha hv hnil hlen hne hLB
 go_enter Tryz.func29,Tryz.ntmps29
 go_wp2_with fail
 refine HD.mono ?_
 rintro x w1 ⟨rfl,m1,hw1⟩
 have HK1:Hid (Same w w1):=hid (by rw[hw1];exact(Kept.refl _ w).drewN m1)
 have HSZ1:Hid (w1.heap.size=w.heap.size):=hid (by rw[hw1];rfl)
 have HS1:Hid (Sm w1 ob 0 (.slice none 0 0) (.pointer none) (.slice aa LB capa) 0 0):=hid (HS.out.kept HK1.out (fun f=>f))
 have b3:w1.cell? ⟨ob,3,none⟩=some (.slice aa LB capa):=HS1.out.cell 3
 have HROW1:Hid (Row w1 (.slice aa LB capa) bs):=hid (HA.out.kept HK1.out (fun _ _ f=>f))
 have HV1:Hid (Src w1 I (.slice av nv cv) cs):=hid (HV.out.kept HK1.out (fun _ _ _ f=>f))
 clear hw1 HD HS HA HV
 simp only[show((0:Nat)==0)=true from by decide]
 go_wp2_with (at_builtin;refine wpList_append_any _ rfl (.tmp 19) (.tmp 20) rfl (.slice aa LB capa) bs rfl HROW1.out I (.slice av nv cv) cs rfl HNIL.out HV1.out HLB.out ?_)
 intro v2 w2 hr2 hg2 ho2
 have hk12:Kept (fun j=>(Value.slice aa LB capa).ownBlock=some j) w1 w2:=(Kept.refl _ w1).grown hg2 (fun j e=>.inl e)
 have HSM2:Hid (Sm w2 ob 0 (.slice none 0 0) (.pointer none) (.slice aa LB capa) 0 0):=hid (HS1.out.kept hk12 (fun f=>HNE.out f))
 have d3:w2.cell? ⟨ob,3,none⟩=some (.slice aa LB capa):=HSM2.out.cell 3
 have z3:w2.frozen? ⟨ob,3,none⟩=false:=HSM2.out.frozen 3
 have HR2:Hid (Row w2 v2 (bs++cs)):=hr2
 have HK12:Hid (Kept (fun j=>(Value.slice aa LB capa).ownBlock=some j) w1 w2):=hk12
 have HO2:Hid (v2.ownBlock=(Value.slice aa LB capa).ownBlock∨v2.ownBlock=some w1.heap.size):=ho2
 obtain⟨a2,cp2,hv2,_⟩:=hr2.shape
 generalize (bs++cs).length=n2 at hv2
 subst hv2
 clear hr2 hg2 ho2 hk12 b3
 go_wp2_with fail
 go_ret2
 have hn2:(Value.slice a2 n2 cp2).ownBlock≠some ob:=fun e=>by
  rcases HO2.out with h | h
  ·exact HNE.out (h.symm.trans e)
  ·rw[h]at e;injection e with e;have:=HSZ1.out;have:=HOB.out;omega
 have hks:Kept (·=ob) w2 (w2.setCell ⟨ob,3,none⟩ (.slice a2 n2 cp2)):=(Kept.refl (·=ob) w2).setCell ⟨ob,3,none⟩ _ (.inl rfl)
 refine⟨rfl,.slice a2 n2 cp2,?_,HR2.out.kept hks (fun k e e2=>hn2 (by rw[←e2];exact e)),hn2,by rw[←HSZ1.out];exact HO2.out,?_⟩
 ·have h9:=HSM2.out.set 3 (.slice a2 n2 cp2)
  simp at h9
  exact h9
 ·exact Kept.trans (Kept.trans (H:=fun j=>j=ob∨(Value.slice aa LB capa).ownBlock=some j) HK1.out HK12.out (fun _ _ f=>f.elim) (fun _ _ f=>.inr f)) hks (fun _ _ f=>f) (fun _ _ f=>.inl f)

set_option maxRecDepth 100000 in
set_option maxHeartbeats 2000000 in
theorem pfeed_failed(w:World)(ob most:Nat)(vl bv va:Value)(gone er:Nat)(hs:Sm w ob most vl bv va gone er)(h0:er≠0)(h5:er≠55)(v:Value):
  Calls Tryz.prog 29 #[.pointer (some ⟨ob,0,none⟩),v] w fun x w'=>x=.returned (.tuple #[.slice none 0 0,.int .i64 (er:Nat)])∧Same w w':=by
 have HD:=pdone_any w ob most vl bv va gone er hs
 have HS:Hid (Sm w ob most vl bv va gone er):=hs
 have hd0:(er==0)=false:=by simp;omega
 have hd5:((er:Int) != 55)=true:=by simp;omega
 rw[hd0]at HD
 clear hs h0 h5 hd0
 go_enter Tryz.func29,Tryz.ntmps29
 go_wp2_with fail
 refine HD.mono ?_
 rintro x w1 ⟨rfl,m1,hw1⟩
 have HK1:Hid (Same w w1):=hid (by rw[hw1];exact(Kept.refl _ w).drewN m1)
 have b5:w1.cell? ⟨ob,5,none⟩=some (.int .i64 (er:Nat)):=HK1.out.cell (HS.out.cell 5) (fun f=>f)
 clear hw1 HD HS
 go_wp2_with fail
 go_quiet (fail)
 go_wp2_with fail
 go_ret2
 exact⟨rfl,HK1.out.drewN _⟩

end Go.Proofs.YtggcbnhckcenmaaGreatDoor

namespace Go.Proofs.YtggcbnhckcenmaaGreatDoor
open Go.RowKit
theorem ends_behind{bs:List Nat}(cs:List Nat){most:Nat}{t:Ps}{e:Nat}(h:Ends (ofBytes bs) most ps0 t e)(he:e≠55):Ends (ofBytes (bs++cs)) most ps0 t e:=by
 rw[ofBytes_append]
 exact h.err (ofBytes_lt bs) (ofBytes cs) (ofBytes_lt cs) (ps0_ok _) (Nat.zero_le _) he

theorem ends_in{bs:List Nat}{most:Nat}{t:Ps}{e:Nat}(h:Ends (ofBytes bs) most ps0 t e):(t.c+7) / 8≤bs.length∧t.out.length≤most:=by
 have h1:=h.inv (ofBytes_lt bs) (ps0_ok _)
 have h2:=h1.1.le
 rw[ofBytes_length]at h2
 exact⟨by omega,h1.2.2.2 (Nat.zero_le _)⟩

theorem layP_pre{most:Nat}{out out':List Nat}{t:Tok}(h:layP most out t=.ok out'):∃r,out'=out++r:=by
 have hcp:∀(far n:Nat) (o:List Nat),∃r,cpL far n o=o++r:=fun far n=>by
  induction n with
  | zero=>exact fun o=>⟨[],by simp[cpL]⟩
  | succ n ih=>
   intro o
   obtain⟨r,hr⟩:=ih (o++[o.getD (o.length-far) 0])
   exact⟨o.getD (o.length-far) 0::r,by rw[cpL,hr,List.append_assoc];rfl⟩
 cases t with
 | fin=>simp only[layP,Except.ok.injEq]at h;exact⟨[],by simp[h]⟩
 | byte b=>
  simp only[layP]at h
  split at h
  ·cases h
  ·simp only[Except.ok.injEq]at h;exact⟨[b],h.symm⟩
 | copy n far=>
  simp only[layP]at h
  split at h
  ·cases h
  ·split at h
   ·cases h
   ·simp only[Except.ok.injEq]at h
    obtain⟨r,hr⟩:=hcp far n out
    exact⟨r,by rw[←h,hr]⟩

theorem stP_pre{ls:List Nat}{most:Nat}{s t:Ps}{d:Bool}(h:stP ls most s=.ok (t,d)):∃r,t.out=s.out++r:=by
 cases hbk:s.bk with
 | none=>
  cases hg:begP ls s.c with
  | error e=>rw[stP_none_err hbk hg]at h;cases h
  | ok x=>
   rw[stP_none_ok (b:=x.1) (c:=x.2) hbk hg]at h
   simp only[Except.ok.injEq,Prod.mk.injEq]at h
   obtain⟨rfl,_⟩:=h
   exact⟨[],by simp⟩
 | some b=>
  cases hst:stepP ls b s.c with
  | error e=>rw[stP_some_err hbk hst]at h;cases h
  | ok x=>
   obtain⟨⟨tk,b'⟩,c⟩:=x
   rw[stP_some_ok hbk hst]at h
   rcases goP_cases h with⟨_,_,h⟩ | ⟨_,_,h⟩ | ⟨_,⟨e,_,h⟩ | ⟨o,hl,h⟩⟩
   ·simp only[Except.ok.injEq,Prod.mk.injEq]at h;obtain⟨rfl,_⟩:=h;exact⟨[],by simp⟩
   ·simp only[Except.ok.injEq,Prod.mk.injEq]at h;obtain⟨rfl,_⟩:=h;exact⟨[],by simp⟩
   ·cases h
   ·simp only[Except.ok.injEq,Prod.mk.injEq]at h;obtain⟨rfl,_⟩:=h;exact layP_pre hl

theorem Ends.pre{ls:List Nat}{most:Nat}{s t:Ps}{e:Nat}(h:Ends ls most s t e):∃r,t.out=s.out++r:=by
 induction h with
 | stop h=>exact⟨[],by simp⟩
 | done h=>exact stP_pre h
 | step h _ ih=>
  obtain⟨r,hr⟩:=stP_pre h
  obtain⟨q,hq⟩:=ih
  exact⟨r++q,by rw[hq,hr,List.append_assoc]⟩

theorem Ends.all{ls:List Nat}{most:Nat}{s t:Ps}{e:Nat}(h:Ends ls most s t e):s.out++t.out.drop s.out.length=t.out:=by
 obtain⟨r,hr⟩:=h.pre
 rw[hr,List.drop_left]

theorem SI.clean{w:World}{ρ:Part}{h most e:Nat}{va:Value}{bs:List Nat}{cur:Ps}{vl bv:Value}(s:SI w ρ h most e va bs cur vl bv):∃ρ':Part,SI w ρ' h most e va bs cur vl bv∧(∀j,ρ' j=10→j=0)∧(∀j,ρ j≠10→ρ' j=ρ j)∧(∀j,ρ' j=0∨ρ' j=ρ j):=by
 obtain⟨ρ',hρ⟩:∃ρ':Part,ρ'=fun j=>if ρ j=10∧j≠0 then 0 else ρ j:=⟨_,rfl⟩
 have hq:∀j,ρ j≠10→ρ' j=ρ j:=fun j hj=>by rw[hρ];simp only;rw[if_neg (fun f=>hj f.1)]
 have hg:ρ' 0=10:=by rw[hρ];simp only;rw[if_neg (fun f=>f.2 rfl)];exact s.r10
 have h10:∀j,ρ' j=10→j=0:=fun j hj=>Classical.byContradiction (fun hc=>by
  by_cases hj2:ρ j=10
  ·rw[hρ]at hj;simp only at hj;rw[if_pos ⟨hj2,hc⟩]at hj;cases hj
  ·rw[hq j hj2]at hj;exact hj2 hj)
 have h0:∀j,ρ' j=0∨ρ' j=ρ j:=fun j=>by
  by_cases hj2:ρ j=10∧j≠0
  ·exact .inl (by rw[hρ];simp only;rw[if_pos hj2])
  ·exact .inr (by rw[hρ];simp only;rw[if_neg hj2])
 refine⟨ρ',⟨s.sm,s.row,s.ol,s.mo,?_,s.ok,s.ah,s.by',s.tab,?_,fun k e=>?_,fun k e=>?_,hg,fun j hj=>s.lt j ?_⟩,h10,hq,h0⟩
 ·have hb:=s.bk
  cases hc:cur.bk with
  | none=>rw[hc]at hb;exact hb
  | some k=>
   rw[hc]at hb
   obtain⟨b,h1,h2,h3⟩:=hb
   exact⟨b,h1,h2.less (fun j hj=>by rw[hq j (by omega)];exact hj),by rw[hq b (by omega)];exact h3⟩
 ·have:=s.r1;rw[hq h (by omega)];exact this
 ·have:=s.r2 k e;rw[hq k (by omega)];exact this
 ·have:=s.r9 k e;rw[hq k (by omega)];exact this
 ·rcases h0 j with h | h
  ·exact absurd h hj
  ·rw[←h];exact hj

inductive StI(N:Nat)(w:World)(h most:Nat)(P:List Nat)(t:Ps)(er:Nat)(F:Nat→Prop):Prop
 | wait (ρ:Part) (va vl bv:Value) (he:Ends (ofBytes P) most ps0 t er) (h5:er=55) (hs:SI w ρ h most 55 va (P.drop (t.c / 8)) ⟨t.c % 8,t.out,t.bk⟩ vl bv) (hn:∀j,ρ j=0∨own5 (ρ j)) (h10:∀j,ρ j=10→j=0) (hF:∀j,F j↔ρ j≠0∧ρ j≠10) (hN:∀j,F j→N≤j) (hb:∀b∈P,b<256) (hT:Tab w)
 | done (va:Value) (he:Ends (ofBytes P) most ps0 t er) (h0:er=0) (hs:Sm w h 0 (.slice none 0 0) (.pointer none) va 0 0) (ha:Row w va (P.drop ((t.c+7) / 8))) (hne:va.ownBlock≠some h) (hF:∀j,F j↔j=h∨va.ownBlock=some j) (hN:∀j,F j→N≤j) (hb:∀b∈P,b<256) (hT:Tab w)
 | fail (he:Ends (ofBytes P) most ps0 t er) (h0:er≠0) (h5:er≠55) (hs:Sm w h 0 (.slice none 0 0) (.pointer none) (.slice none 0 0) 0 er) (hF:∀j,F j↔j=h) (hN:∀j,F j→N≤j) (hb:∀b∈P,b<256) (hT:Tab w)

section
variable {N:Nat} {w:World} {h most:Nat} {P:List Nat} {t:Ps} {er:Nat} {F:Nat→Prop}

theorem StI.ends(s:StI N w h most P t er F):Ends (ofBytes P) most ps0 t er:=by cases s<;>assumption
theorem StI.from'(s:StI N w h most P t er F):∀j,F j→N≤j:=by cases s<;>assumption
theorem StI.bytes(s:StI N w h most P t er F):∀b∈P,b<256:=by cases s<;>assumption
theorem StI.tab(s:StI N w h most P t er F):Tab w:=by cases s<;>assumption
theorem StI.lt(s:StI N w h most P t er F):∀j,F j→j<w.heap.size:=by
 intro j hj
 cases s with
 | wait ρ va vl bv he h5 hs hn h10 hF hN hb hT=>exact hs.lt j ((hF j).1 hj).1
 | done va he h0 hs ha hne hF hN hb hT=>
  rcases(hF j).1 hj with rfl | e
  ·exact hs.lt
  ·exact ha.lt e
 | fail he h0 h5 hs hF hN hb hT=>rw[(hF j).1 hj];exact hs.lt

theorem StI.obj(s:StI N w h most P t er F):∃m vl bv va g,Sm w h m vl bv va g er:=by
 cases s with
 | wait ρ va vl bv he h5 hs hn h10 hF hN hb hT=>rw[h5];exact⟨_,_,_,_,_,hs.sm⟩
 | done va he h0 hs ha hne hF hN hb hT=>rw[h0];exact⟨_,_,_,_,_,hs⟩
 | fail he h0 h5 hs hF hN hb hT=>exact⟨_,_,_,_,_,hs⟩

theorem StI.kept{G:Nat→Prop}{w':World}(s:StI N w h most P t er F)(hk:Kept G w w')(hG:∀j,F j→¬G j)(hg:¬G 0):StI N w' h most P t er F:=by
 cases s with
 | wait ρ va vl bv he h5 hs hn h10 hF hN hb hT=>
  refine .wait ρ va vl bv he h5 (hs.kept hk (fun j hj=>?_)) hn h10 hF hN hb (hT.kept hk hg)
  by_cases e10:ρ j=10
  ·rw[h10 j e10];exact hg
  ·exact hG j ((hF j).2 ⟨by unfold own5 at hj;omega,e10⟩)
 | done va he h0 hs ha hne hF hN hb hT=>
  exact .done va he h0 (hs.kept hk (hG h ((hF h).2 (.inl rfl)))) (ha.kept hk (fun k e=>hG k ((hF k).2 (.inr e)))) hne hF hN hb (hT.kept hk hg)
 | fail he h0 h5 hs hF hN hb hT=>
  exact .fail he h0 h5 (hs.kept hk (hG h ((hF h).2 rfl))) hF hN hb (hT.kept hk hg)

theorem StI.size(s:StI N w h most P t er F):N≤w.heap.size∧F h∧h<w.heap.size:=by
 have hh:F h:=by
  cases s with
  | wait ρ va vl bv he h5 hs hn h10 hF hN hb hT=>exact(hF h).2 (by rw[hs.r1];decide)
  | done va he h0 hs ha hne hF hN hb hT=>exact(hF h).2 (.inl rfl)
  | fail he h0 h5 hs hF hN hb hT=>exact(hF h).2 rfl
 have h1:=s.from' h hh
 have h2:=s.lt h hh
 exact⟨by omega,hh,h2⟩

end

theorem StI.new(w w':World)(most:Nat)(hm:most≤16384)(hs:Sm w' w.heap.size most (.slice none 0 0) (.pointer none) (.slice none 0 0) 0 55)(hT:Tab w)(hk:Same w w'):∃F,StI w.heap.size w' w.heap.size most [] ps0 55 F:=by
 have hl:=hT.lt
 have hT':=hT.kept hk (fun f=>f)
 obtain⟨ρ,hsi,hn,h4,hz⟩:=SI.init w' w.heap.size most hs hm hT' (by omega)
 refine⟨fun j=>ρ j≠0∧ρ j≠10,.wait ρ _ _ _ ?_ rfl hsi hn (fun j hj=>?_) (fun j=>Iff.rfl) (fun j hj=>?_) (fun b hb=>by simp at hb) hT'⟩
 ·refine .stop (stP_none_err rfl ?_)
  exact bindP_no (tkP_end (by decide))
 ·refine Classical.byContradiction (fun hc=>?_)
  by_cases hjh:j=w.heap.size
  ·rw[hjh,hsi.r1]at hj;cases hj
  ·rw[hz j hjh hc]at hj;cases hj
 ·by_cases hjh:j=w.heap.size
  ·omega
  ·by_cases hjo:j=0
   ·rw[hjo]at hj;exact absurd hsi.r10 hj.2
   ·exact absurd (hz j hjh hjo) hj.1

structure FedA(N:Nat)(w w':World)(h most:Nat)(P:List Nat)(t:Ps)(F:Nat→Prop)(x:Ending)(u:Value)(t':Ps)(er':Nat)(F':Nat→Prop):Prop where
 ret:x=.returned (.tuple #[u,.int .i64 ((if er'=55 then 0 else er':Nat):Int)])
 st:StI N w' h most P t' er' F'
 row:Row w' u (if er'=0∨er'=55 then t'.out.drop t.out.length else [])
 new:∀k,u.ownBlock=some k→w.heap.size≤k∧¬F' k
 kept:Kept F w w'
 old:∀j,j<w.heap.size→F' j→F j
 all:er'=0∨er'=55→t.out++t'.out.drop t.out.length=t'.out

theorem stI_feed{N:Nat}(w:World)(h most:Nat)(P:List Nat)(t:Ps)(er:Nat)(F:Nat→Prop)(s:StI N w h most P t er F)(v:Value)(I:Nat→Prop)(cs:List Nat)(hv:Src w I v cs)(hb:∀b∈cs,b<256)(hnil:∀n c,v=.slice none n c→n=0∧c=0)(hlen:P.length+cs.length≤2000000)(hO:0<N):
  Calls Tryz.prog 29 #[.pointer (some ⟨h,0,none⟩),v] w fun x w'=>∃u t' er' F',FedA N w w' h most (P++cs) t F x u t' er' F':=by
 have hsz:=s.size
 have hbb:∀b∈P++cs,b<256:=fun b hx=>by
  rcases List.mem_append.1 hx with h | h
  ·exact s.bytes b h
  ·exact hb b h
 cases s with
 | wait ρ va vl bv he h5 hs hn h10 hF hN hbP hT=>
  subst h5
  have hin:=(he.inv (ofBytes_lt P) (ps0_ok _)).1.le
  rw[ofBytes_length]at hin
  refine(pfeed_wait w ρ h most va _ _ vl bv hs hn (show t.c % 8≤7 by omega) v I cs hv hb hnil (by rw[List.length_drop];omega)).mono ?_
  rintro x w' hf
  have hKF:∀{w2},Kept (fun j=>own4 (ρ j)) w w2→Kept F w w2:=fun hk=>hk.mono (fun j _ f=>(hF j).2 (by unfold own4 at f;omega))
  have hdrop:∀k,(P.drop (t.c / 8)++cs).drop k=(P++cs).drop (t.c / 8+k):=fun k=>by
   have e9:(P++cs).drop (t.c / 8)=P.drop (t.c / 8)++cs:=List.drop_append_of_le_length (by omega)
   rw[←e9,List.drop_drop]
  have hNw:∀j,w.heap.size≤j→N≤j:=fun j hj=>by omega
  cases hf with
  | done u v' va' he' hx hr hv' hs' ha hav hvh hk=>
   have hE:=he.goes he'
   refine⟨v',shS (t.c / 8*8) u,0,fun j=>j=h∨va'.ownBlock=some j,hx,.done va' hE rfl hs' ?_ (fun e=>?_) (fun j=>Iff.rfl) (fun j hj=>?_) hbb ?_,?_,fun k e=>⟨hv' k e,fun f=>?_⟩,hKF hk,fun j hj f=>?_,fun _=>?_⟩
   ·rw[hdrop,show t.c / 8+(u.c+7) / 8=(t.c / 8*8+u.c+7) / 8 by omega]at ha
    exact ha
   ·have:=(hav h e).1;omega
   ·rcases hj with rfl | e
    ·exact hN _ hsz.2.1
    ·exact hNw j (hav j e).1
   ·exact hT.kept hk (fun f=>by have:=hs.r10;unfold own4 at f;omega)
   ·rw[if_pos (.inl rfl)];exact hr
   ·rcases f with rfl | e2
    ·exact hvh e
    ·exact(hav k e2).2 e
   ·rcases f with rfl | e2
    ·exact hsz.2.1
    ·have:=(hav j e2).1;omega
   ·exact he'.all
  | wait u v' va' ρ' vl' bv' he' hx hr hv' hs' hn' ho hk=>
   have hE:=he.goes he'
   obtain⟨ρ2,hs2,c10,cq,c0⟩:=hs'.clean
   have hqe:t.c / 8*8+u.c=(shS (t.c / 8*8) u).c:=rfl
   refine⟨v',shS (t.c / 8*8) u,55,fun j=>ρ2 j≠0∧ρ2 j≠10,hx,.wait ρ2 va' vl' bv' hE rfl ?_ (fun j=>?_) c10 (fun j=>Iff.rfl) (fun j hj=>?_) hbb hs'.tab,?_,fun k e=>⟨(hv' k e).1,fun f=>?_⟩,hKF hk,fun j hj f=>?_,fun _=>?_⟩
   ·rw[hdrop,show t.c / 8+u.c / 8=(t.c / 8*8+u.c) / 8 by omega]at hs2
    have e8:u.c % 8=(t.c / 8*8+u.c) % 8:=by omega
    rw[e8]at hs2
    exact hs2
   ·rcases c0 j with h1 | h1
    ·exact .inl h1
    ·rw[h1];exact hn' j
   ·by_cases hjw:j<w.heap.size
    ·rcases c0 j with h1 | h1
     ·exact absurd h1 hj.1
     ·rw[h1,ho j hjw]at hj;exact hN j ((hF j).2 hj)
    ·exact hNw j (by omega)
   ·rw[if_pos (.inr rfl)];exact hr
   ·rcases c0 k with h1 | h1
    ·exact f.1 h1
    ·rw[h1,(hv' k e).2]at f;exact f.1 rfl
   ·rcases c0 j with h1 | h1
    ·exact absurd h1 f.1
    ·rw[h1,ho j hj]at f;exact(hF j).2 f
   ·exact he'.all
  | fail u er' he' h0 h5 hx hs' hk=>
   have hE:=he.goes he'
   refine⟨.slice none 0 0,shS (t.c / 8*8) u,er',fun j=>j=h,?_,.fail hE h0 h5 hs' (fun j=>Iff.rfl) (fun j hj=>?_) hbb ?_,?_,fun k e=>(by cases e),hKF hk,fun j hj f=>?_,fun h9=>absurd h9 (by omega)⟩
   ·rw[if_neg h5];exact hx
   ·rw[hj];exact hN _ hsz.2.1
   ·exact hT.kept hk (fun f=>by have:=hs.r10;unfold own4 at f;omega)
   ·rw[if_neg (by omega)];exact World.ownsRow_nil w' 0 5 1
   ·rw[f];exact hsz.2.1
 | done va he h0 hs ha hne hF hN hbP hT=>
  subst h0
  have hin:=ends_in he
  refine(pfeed_done w h va _ hs ha hne v I cs hv hnil (by rw[List.length_drop];omega)).mono ?_
  rintro x w' ⟨hx,va',hs',ha',hne',hown,hk⟩
  have hkF:Kept F w w':=hk.mono (fun j _ f=>(hF j).2 f)
  have hgo:¬(0=h∨va.ownBlock=some 0):=fun f=>by have h1:=hN _ ((hF _).2 f);omega
  refine⟨.slice none 0 0,t,0,fun j=>j=h∨va'.ownBlock=some j,hx,.done va' (ends_behind cs he (by decide)) rfl hs' ?_ hne' (fun j=>Iff.rfl) (fun j hj=>?_) hbb (hT.kept hk hgo),?_,fun k e=>(by cases e),hkF,fun j hj f=>?_,fun _=>?_⟩
  ·rw[List.drop_append_of_le_length hin.1];exact ha'
  ·rcases hj with rfl | e
   ·exact hN _ hsz.2.1
   ·rcases hown with h1 | h1
    ·rw[h1]at e;exact hN j ((hF j).2 (.inr e))
    ·rw[h1]at e;injection e with e;omega
  ·rw[if_pos (.inl rfl),List.drop_length];exact World.ownsRow_nil w' 0 5 1
  ·rcases f with rfl | e
   ·exact hsz.2.1
   ·rcases hown with h1 | h1
    ·rw[h1]at e;exact(hF j).2 (.inr e)
    ·rw[h1]at e;injection e with e;omega
  ·rw[List.drop_length,List.append_nil]
 | fail he h0 h5 hs hF hN hbP hT=>
  refine(pfeed_failed w h 0 _ _ _ 0 er hs h0 h5 v).mono ?_
  rintro x w' ⟨hx,hk⟩
  refine⟨.slice none 0 0,t,er,F,?_,.fail (ends_behind cs he h5) h0 h5 (hs.kept hk (fun f=>f)) hF hN hbb (hT.kept hk (fun f=>f)),?_,fun k e=>(by cases e),hk.mono (fun _ _ f=>f.elim),fun _ _ f=>f,fun h9=>absurd h9 (by omega)⟩
  ·rw[if_neg h5];exact hx
  ·rw[if_neg (by omega)];exact World.ownsRow_nil w' 0 5 1

end Go.Proofs.YtggcbnhckcenmaaGreatDoor
