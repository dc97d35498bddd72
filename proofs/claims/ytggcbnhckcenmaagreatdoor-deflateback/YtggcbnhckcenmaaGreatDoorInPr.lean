import Derived.Test.YtggcbnhckcenmaaGreatDoorInPw
import Derived.WalkMore
namespace Go.Proofs.YtggcbnhckcenmaaGreatDoor
open Go.RowKit

theorem begP_adv{ls:List Nat}(hb:∀b∈ls,b<2){c c':Nat}{b:Bk}(h:begP ls c=.ok (b,c')):c+3≤c':=by
 obtain⟨l,c1,h1,h⟩:=bindP_ok.1 h
 obtain⟨k,c2,h2,h⟩:=bindP_ok.1 h
 have a1:=tkP_ok h1
 have a2:=tkP_ok h2
 have:=(kndP_loc ls hb (l==1) c2 k (by omega)).ge _ _ h
 omega

theorem syP_adv{ns ls:List Nat}{c last y c':Nat}(h:syP ns ls c last=.ok (y,c')):c<c':=by
 rcases syP_cases h with⟨h1,_⟩ | ⟨h1,_⟩ | ⟨y1,k1,hn,⟨_,h1⟩ | ⟨_,h1⟩⟩
 ·cases h1
 ·cases h1
 ·cases h1
 ·simp only[Except.ok.injEq,Prod.mk.injEq]at h1
  have:=nextF_len hn
  omega

theorem stepP_adv{ls:List Nat}(hb:∀b∈ls,b<2){k k':Bk}{t:Tok}{c c':Nat}(hk:BkOk (some k))(hc:c≤ls.length)(h:stepP ls k c=.ok ((t,k'),c'))(ht:t≠.fin):c<c':=by
 cases k with
 | raw last left=>
  cases left with
  | zero=>
   rw[stepP_zero]at h
   simp only[Except.ok.injEq,Prod.mk.injEq]at h
   exact absurd h.1.1.symm ht
  | succ n=>
   rw[stepP_raw]at h
   obtain⟨v,c2,h1,h⟩:=bindP_ok.1 h
   simp only[Except.ok.injEq,Prod.mk.injEq]at h
   have:=tkP_ok h1
   omega
 | sym last lit dist=>
  rw[stepP_sym]at h
  obtain⟨y,c2,h1,h⟩:=bindP_ok.1 h
  have a1:=syP_adv h1
  have a2:=((syP_loc (show OkL lit dist from hk).lit.pf ls hb c 285 hc).ge _ _ h1).2
  unfold symP at h
  split at h
  ·simp only[Except.ok.injEq,Prod.mk.injEq]at h;omega
  ·split at h
   ·simp only[Except.ok.injEq,Prod.mk.injEq]at h;omega
   ·obtain⟨x,c3,h2,h⟩:=bindP_ok.1 h
    simp only[Except.ok.injEq,Prod.mk.injEq]at h
    have:=(copP_loc (show OkL lit dist from hk).pf ls hb c2 y a2).ge _ _ h2
    omega

theorem BkP.last0{O:Nat→Prop}{w:World}{b:Nat}{k:Bk}(h:BkP w b O k):w.cell? ⟨b,0,none⟩=some (.bool k.last):=by
 cases k with
 | raw last left=>exact h.1.cell 0
 | sym last lit dist=>obtain⟨j,h1,_⟩:=h;exact h1.cell 0

def ms(L:Nat)(s:Ps):Nat:=2*(L-s.c)+(match s.bk with | none=>0 | some _=>1)

def tokOk:Tok→Prop
 | .fin=>True
 | .byte b=>b<256
 | .copy n far=>3≤n∧n≤258∧1≤far∧far≤40000

theorem stepP_tok{ls:List Nat}(hb:∀b∈ls,b<2){k k':Bk}{t:Tok}{c c':Nat}(h:stepP ls k c=.ok ((t,k'),c')):tokOk t:=by
 cases k with
 | raw last left=>
  cases left with
  | zero=>
   rw[stepP_zero]at h
   simp only[Except.ok.injEq,Prod.mk.injEq]at h
   obtain⟨⟨rfl,_⟩,_⟩:=h
   exact trivial
  | succ n=>
   rw[stepP_raw]at h
   obtain⟨v,c2,h1,h⟩:=bindP_ok.1 h
   simp only[Except.ok.injEq,Prod.mk.injEq]at h
   obtain⟨⟨rfl,_⟩,_⟩:=h
   show v<256
   rw[(tkP_ok h1).1]
   exact numAt_lt _ hb _ _
 | sym last lit dist=>
  rw[stepP_sym]at h
  obtain⟨y,c2,h1,h⟩:=bindP_ok.1 h
  have hy:y≤285:=by
   rcases syP_cases h1 with⟨h2,_⟩ | ⟨h2,_⟩ | ⟨y1,k1,hn,⟨_,h2⟩ | ⟨_,h2⟩⟩
   ·cases h2
   ·cases h2
   ·cases h2
   ·simp only[Except.ok.injEq,Prod.mk.injEq]at h2;omega
  unfold symP at h
  split at h
  ·simp only[Except.ok.injEq,Prod.mk.injEq]at h
   obtain⟨⟨rfl,_⟩,_⟩:=h
   assumption
  ·split at h
   ·simp only[Except.ok.injEq,Prod.mk.injEq]at h
    obtain⟨⟨rfl,_⟩,_⟩:=h
    exact trivial
   ·obtain⟨x,c3,h2,h⟩:=bindP_ok.1 h
    simp only[Except.ok.injEq,Prod.mk.injEq]at h
    obtain⟨⟨rfl,_⟩,_⟩:=h
    obtain⟨n,c4,h3,h2⟩:=bindP_ok.1 h2
    obtain⟨z,c5,h4,h2⟩:=bindP_ok.1 h2
    obtain⟨d,c6,h5,h2⟩:=bindP_ok.1 h2
    simp only[Except.ok.injEq,Prod.mk.injEq]at h2
    obtain⟨rfl,_⟩:=h2
    have hl:=lenP_le hb hy (by omega) h3
    have hz:z≤29:=by
     unfold dsyP at h4
     split at h4
     ·cases h4
     ·rcases syP_cases h4 with⟨h2,_⟩ | ⟨h2,_⟩ | ⟨y1,k1,hn,⟨_,h2⟩ | ⟨_,h2⟩⟩
      ·cases h2
      ·cases h2
      ·cases h2
      ·simp only[Except.ok.injEq,Prod.mk.injEq]at h2;omega
    have hd:=numP2_le hb hz h5
    exact⟨hl.1,hl.2,by show 1≤1+d;omega,by show 1+d≤40000;omega⟩

def Leads(ls:List Nat)(most:Nat)(start cur:Ps):Prop:=∀t er,Ends ls most cur t er→Ends ls most start t er
theorem Leads.next{ls:List Nat}{most:Nat}{start cur cur':Ps}(h:Leads ls most start cur)(hs:stP ls most cur=.ok (cur',false)):Leads ls most start cur':=fun t er he=>h t er (.step hs he)

theorem pstep_any(w:World)(b p c:Nat)(s:Value)(bs:List Nat)(k:Bk)(O:Nat→Prop)(hB:BkP w b O k)(hOL:∀j,O j→j<w.heap.size)(hO:∀j,O j→¬Fp p s j)(hbp:¬Fp p s b)(hok:BkOk (some k))(hs:St w p s bs c)(hc:c≤8*bs.length)(hlen:bs.length≤100000000):
  Calls Tryz.prog 75 #[.pointer (some ⟨b,0,none⟩),.pointer (some ⟨p,0,none⟩)] w fun e w'=>StepPA w' b p s bs O k e (stepP (ofBytes bs) k c)∧Kept (fun j=>j=p∨j=b) w w':=by
 cases k with
 | raw last left=>exact pstep_raw w b p c s bs last left O hB hOL hbp hs hc hlen
 | sym last lit dist=>exact pstep_sym w b p c s bs last lit dist O hB hOL hO hbp hok hs hc hlen

set_option maxRecDepth 100000 in
set_option maxHeartbeats 8000000 in
theorem pread_any(w0:World)(ρ0:Part)(h most e:Nat)(va:Value)(bs:List Nat)(start:Ps)(vl0 bv0:Value)(hs:SI w0 ρ0 h most e va bs start vl0 bv0)(hn:∀j,ρ0 j=0∨own5 (ρ0 j))(h7:start.c≤7)(hlen:bs.length≤2000000):
  Calls Tryz.prog 50 #[.pointer (some ⟨h,0,none⟩)] w0 fun x w'=>∃er t ρ vl bv out gone,x=.returned (.int .i64 (er:Nat))∧RdP w0 w' ρ0 h most e va bs start er t ρ vl bv out gone:=by
 have HNR:=newReader_any va _ bs w0 (Src.ofRow hs.ah) (by omega) hs.by'
 have c3:=hs.sm.cell 3
 obtain⟨aa,capa,hva,_⟩:=hs.ah.shape
 subst hva
 simp at c3
 have HS:Hid (SI w0 ρ0 h most e (.slice aa bs.length capa) bs start vl0 bv0):=hs
 have HN:Hid (∀j,ρ0 j=0∨own5 (ρ0 j)):=hn
 have hl8:=hs.len
 obtain⟨LB,hLB⟩:∃L,L=bs.length:=⟨_,rfl⟩
 rw[←hLB]at c3 HNR
 have HLB:Hid (LB=bs.length):=hLB
 clear hs hn hLB
 go_enter Tryz.func50,Tryz.ntmps50
 go_wp2_with fail
 go_step3
 go_wp2_with fail
 refine HNR.mono ?_
 rintro x w1 ⟨r,sr,rfl,hst1,hk1,hfp⟩
 have HK1:Hid (Same w0 w1):=hk1
 have HFP:Hid (∀k,Fp r sr k→w0.heap.size≤k):=hfp
 have HT:=take_good r 0 start.c sr bs w1 hst1 (by omega) (by omega) (by omega)
 obtain⟨g0,hg0⟩:∃g,g=start.c:=⟨_,rfl⟩
 have HFL:Hid (∀k,Fp r sr k→k<w1.heap.size):=hid (fun k hk=>hst1.fp_lt hk)
 have c4:w1.cell? ⟨h,4,none⟩=some (.int .i64 (g0:Nat)):=by rw[hg0];exact hk1.cell (HS.out.sm.cell 4) (fun f=>f)
 rw[←hg0]at HT h7 hl8
 have HG0:Hid (g0=start.c):=hg0
 generalize n256 bs / 2 ^ 0 % 2 ^ g0=tk0 at HT
 clear hst1 hk1 hfp HNR hg0
 go_wp2_with fail
 refine HT.mono ?_
 rintro x w2 ⟨rfl,hst2,hk2⟩
 have HST2:Hid (St w2 r sr bs g0):=hid (by rw[Nat.zero_add]at hst2;exact hst2)
 have HK2:Hid (Kept (·=r) w1 w2):=hk2
 have HON:=ponce_any w2
 clear hst2 hk2 HT
 go_wp2_with fail
 refine HON.mono ?_
 rintro x w3 ⟨rfl,hon3,hk3,_⟩
 obtain⟨bx,hbx⟩:∃b,b=w2.heap.size+1:=⟨_,rfl⟩
 obtain⟨fx,hfx⟩:∃b,b=w2.heap.size:=⟨_,rfl⟩
 have HR0:Hid (∃ρ,RI w0 w3 ρ0 ρ h r bx fx sr most e (.slice aa bs.length capa) bs start vl0 bv0):=hid (by
  rw[hbx,hfx]
  exact RI.start HS.out HN.out HK1.out HFP.out (by rw[←HG0.out];exact HST2.out) HK2.out (fun k hk=>Nat.lt_of_lt_of_le (HFL.out k hk) HK2.out.size) hon3 hk3)
 rw[←hbx,←hfx]
 clear hon3 hk3 HON hbx hfx HK1 HFP HFL HST2 HK2 c3 c4 HG0
 go_wp2_with fail
 go_step3
 go_wp2_with fail
 obtain⟨L8,hL8⟩:∃L,L=8*bs.length:=⟨_,rfl⟩
 have HL8:Hid (L8=(ofBytes bs).length):=hid (by rw[hL8,ofBytes_length])
 have HLEN:Hid (bs.length≤100000000):=hid (by omega)
 go_loopg [5] (2*L8+1) (fun q z wr=>∃(cur:Ps) (ρ:Part) (vl bv:Value),ms L8 cur≤q∧Hid (RI w0 wr ρ0 ρ h r bx fx sr most e (.slice aa bs.length capa) bs cur vl bv)∧Hid (Leads (ofBytes bs) most start cur)∧Hid (start.out.length≤cur.out.length))
 case atStart=>
  obtain⟨ρ,hr⟩:=HR0.out
  refine⟨start,ρ,vl0,bv0,?_,hr,hid (fun _ _ x=>x),hid (Nat.le_refl _)⟩
  unfold ms
  split<;>omega
 case round=>
  clear HR0 HS
  obtain⟨cur,ρ,vl,bv,hq,HR,HLD,HMO⟩:=hrel
  obtain⟨G,hG⟩:∃G,G=gk:=⟨_,rfl⟩
  cases hbk:cur.bk with
  | none=>
   have hbv:bv=.pointer none:=by have:=HR.out.si.bk;rw[hbk]at this;exact this
   subst hbv
   have d2:wr.cell? ⟨h,2,none⟩=some (.pointer none):=HR.out.si.sm.cell 2
   have HBG:=pbegin_any wr r cur.c sr bs bx fx _ HR.out.st HR.out.si.len HLEN.out HR.out.bx
   cases hbe:begP (ofBytes bs) cur.c with
   | error er=>
    rw[hbe]at HBG
    have HE:Hid (stP (ofBytes bs) most cur=.error er):=hid (stP_none_err hbk hbe)
    clear hbe
    go_wp2_with fail
    refine HBG.mono ?_
    rintro x w4 ⟨hb4,hk4⟩
    obtain⟨rfl,her,_⟩:=hb4.err
    have hed:((er:Int) != 0)=true:=by simp;omega
    have HKB:Hid (Kept (fun j=>j=r∨j=bx) wr w4):=hk4
    have HER:Hid (er≠0):=her
    clear hb4 hk4 her HBG
    go_wp2_with fail
    rw[Exit.noGoto_ret]
    go_ret
    exact⟨er,cur,_,_,_,_,_,rfl,HR.out.stops HKB.out HER.out (HLD.out _ _ (.stop HE.out)) HMO.out⟩
   | ok x=>
    obtain⟨k,c4⟩:=x
    rw[hbe]at HBG
    have HE:Hid (stP (ofBytes bs) most cur=.ok (⟨c4,cur.out,some k⟩,false)):=hid (stP_none_ok hbk hbe)
    have hadv:=begP_adv (ofBytes_lt bs) hbe
    have HBE:Hid (begP (ofBytes bs) cur.c=.ok (k,c4)):=hbe
    clear hbe
    go_wp2_with fail
    refine HBG.mono ?_
    rintro x w4 ⟨hb4,hk4⟩
    obtain⟨⟨b,O',rfl,hBk,hbw,hnb,hon4,hsub,hnew⟩,hc4,hst4⟩:=hb4.ok
    have HR4:Hid (∃ρ',RI w0 ((w4.setCell ⟨h,2,none⟩ (.pointer (some ⟨b,0,none⟩))).setCell ⟨h,4,none⟩ (.int .i64 (c4:Nat))) ρ0 ρ' h r bx fx sr most e (.slice aa bs.length capa) bs ⟨c4,cur.out,some k⟩ vl (.pointer (some ⟨b,0,none⟩))):=hid (HR.out.begun hBk hbw hnb hon4 hnew hst4 hk4 ⟨by rw[ofBytes_length];exact hc4,begP_ok HBE.out⟩)
    have HGO:=gone_any r c4 sr bs w4 hst4
    have HLD4:Hid (Leads (ofBytes bs) most start ⟨c4,cur.out,some k⟩):=hid (HLD.out.next HE.out)
    have hhl:h≠r∧h≠bx:=⟨fun e1=>by have:=HR.out.si.r1;rw[e1,HR.out.r5]at this;omega,fun e1=>by have:=HR.out.si.r1;rw[e1,HR.out.r7]at this;omega⟩
    have HS4:Hid (Sm w4 h most vl (.pointer none) (.slice aa bs.length capa) cur.c e):=hid (HR.out.si.sm.kept hk4 (fun f=>by rcases f with f | f;exact hhl.1 f;exact hhl.2 f))
    have e2:w4.cell? ⟨h,2,none⟩=some (.pointer none):=HS4.out.cell 2
    have f2:w4.frozen? ⟨h,2,none⟩=false:=HS4.out.frozen 2
    have e4:(w4.setCell ⟨h,2,none⟩ (.pointer (some ⟨b,0,none⟩))).cell? ⟨h,4,none⟩=some (.int .i64 (cur.c:Nat)):=(HS4.out.two _).cell 4
    have f4:(w4.setCell ⟨h,2,none⟩ (.pointer (some ⟨b,0,none⟩))).frozen? ⟨h,4,none⟩=false:=(HS4.out.two _).frozen 4
    have hm4:ms L8 ⟨c4,cur.out,some k⟩≤G:=by
     have h1:ms L8 ⟨c4,cur.out,some k⟩=2*(L8-c4)+1:=rfl
     have h2:ms L8 cur=2*(L8-cur.c):=by unfold ms;rw[hbk];rfl
     have h3:c4≤L8:=by have:=HL8.out;rw[ofBytes_length]at this;omega
     omega
    have HI:Hid (∃(cur:Ps) (ρ:Part) (vl bv:Value) (k:Bk),cur.bk=some k∧ms L8 cur≤G∧Hid (RI w0 ((w4.setCell ⟨h,2,none⟩ (.pointer (some ⟨b,0,none⟩))).setCell ⟨h,4,none⟩ (.int .i64 (c4:Nat))) ρ0 ρ h r bx fx sr most e (.slice aa bs.length capa) bs cur vl bv)∧Hid (Leads (ofBytes bs) most start cur)∧Hid (start.out.length≤cur.out.length)):=hid (by
     obtain⟨ρ4,hr4⟩:=HR4.out
     exact⟨_,ρ4,_,_,k,rfl,hm4,hr4,HLD4,HMO⟩)
    clear hb4 hk4 hBk hbw hnb hon4 hsub hnew hc4 hst4 HBG HR4 HLD4 HR HLD HMO hm4
    go_wp2_with fail
    refine HGO.mono ?_
    rintro x w5 ⟨rfl,hw5⟩
    subst hw5
    clear HGO
    go_wp2_with fail
    go_loopg [7] G (fun q z wr=>∃(cur:Ps) (ρ:Part) (vl bv:Value) (k:Bk),cur.bk=some k∧ms L8 cur≤q∧q≤G∧Hid (RI w0 wr ρ0 ρ h r bx fx sr most e (.slice aa bs.length capa) bs cur vl bv)∧Hid (Leads (ofBytes bs) most start cur)∧Hid (start.out.length≤cur.out.length))
    case atStart=>
     obtain⟨cur,ρ,vl,bv,k,h1,h2,h3,h4,h5⟩:=HI.out
     exact⟨cur,ρ,vl,bv,k,h1,h2,Nat.le_refl _,h3,h4,h5⟩
    case round=>
     clear HI
     obtain⟨cur,ρ,vl,bv,k,hbk,hq,hqG,HR,HLD,HMO⟩:=hrel
     have hbkin:=HR.out.si.bk
     rw[hbk]at hbkin
     obtain⟨b,rfl,hBk,hb3⟩:=hbkin
     have d2:wr.cell? ⟨h,2,none⟩=some (.pointer (some ⟨b,0,none⟩)):=HR.out.si.sm.cell 2
     have hbok:BkOk (some k):=by rw[←hbk];exact HR.out.si.ok.bk
     have HBOK:Hid (BkOk (some k)):=hbok
     have HSP:=pstep_any wr b r cur.c sr bs k (fun j=>ρ j=4) hBk (fun j hj=>HR.out.si.lt j (by omega)) (fun j hj hf=>by have:=HR.out.fp hf;omega) (fun hf=>by have:=HR.out.fp hf;omega) hbok HR.out.st HR.out.si.len HLEN.out
     have hhb:h≠b:=fun e1=>by have:=HR.out.si.r1;rw[e1,hb3]at this;cases this
     have hhr:h≠r:=fun e1=>by have:=HR.out.si.r1;rw[e1,HR.out.r5]at this;cases this
     have hcL:cur.c≤L8:=by have:=HR.out.si.ok.le;rw[←HL8.out]at this;exact this
     have hms1:ms L8 cur=2*(L8-cur.c)+1:=by unfold ms;rw[hbk]
     clear hBk hbok
     cases hsp:stepP (ofBytes bs) k cur.c with
     | error er=>
      rw[hsp]at HSP
      have HE:Hid (stP (ofBytes bs) most cur=.error er):=hid (stP_some_err hbk hsp)
      clear hsp
      go_wp2_with fail
      refine HSP.mono ?_
      rintro x w4 ⟨hb4,hk4⟩
      obtain⟨rfl,her,hBk4,_⟩:=hb4.err
      have hed:((er:Int) != 0)=true:=by simp;omega
      have HKB:Hid (Kept (fun j=>j=r∨j=b) wr w4):=hk4
      have HBK4:Hid (BkP w4 b (fun j=>ρ j=4) k):=hBk4
      have HER:Hid (er≠0):=her
      clear hb4 hk4 her HSP hBk4
      go_wp2_with fail
      rw[Exit.noGoto_ret]
      go_ret
      have hkT:Same w4 (w4.alloc (.cells #[.int .u8 0,.int .i64 0,.int .i64 0] 33)):=(Kept.refl _ w4).alloc _
      exact⟨er,cur,_,_,_,_,_,rfl,HR.out.stays rfl hbk hb3 (HBK4.out.kept hkT (fun _ _ f=>f) (fun f=>f)) (Kept.trans HKB.out hkT (fun _ _ f=>f) (fun _ _ f=>f.elim)) HER.out (HLD.out _ _ (.stop HE.out)) HMO.out⟩
     | ok x=>
      obtain⟨⟨t,k'⟩,c4⟩:=x
      rw[hsp]at HSP
      have hso:=stepP_ok hsp HBOK.out
      have htk:=stepP_tok (ofBytes_lt bs) hsp
      have hge:=(stepP_loc (ofBytes bs) (ofBytes_lt bs) k cur.c HBOK.out HR.out.si.ok.le).ge _ _ hsp
      have HSE:Hid (stP (ofBytes bs) most cur=goP most cur k ((t,k'),c4)):=hid (stP_some_ok hbk hsp)
      have HADV:Hid (t≠.fin→cur.c<c4):=hid (fun ht=>stepP_adv (ofBytes_lt bs) HBOK.out HR.out.si.ok.le hsp ht)
      rw[←HL8.out]at hge
      clear hsp
      cases t with
      | fin=>
       have HL:Hid (k'.last=k.last):=hso.2
       clear htk HADV
       cases hlast:k.last with
       | true=>
        have HE:Hid (stP (ofBytes bs) most cur=.ok (⟨c4,cur.out,some k'⟩,true)):=hid (by rw[HSE.out,goP_fin,hlast,if_pos rfl])
        have HLT:Hid (k'.last=true):=hid (HL.out.trans hlast)
        clear hlast HSE
        go_wp2_with fail
        refine HSP.mono ?_
        rintro x w4 ⟨hb4,hk4⟩
        obtain⟨rfl,hBk4,hc4,hst4⟩:=hb4.ok
        have HKB:Hid (Kept (fun j=>j=r∨j=b) wr w4):=hk4
        have HBK4:Hid (BkP w4 b (fun j=>ρ j=4) k'):=hBk4
        have HST4:Hid (St w4 r sr bs c4):=hst4
        have HC4:Hid (c4≤8*bs.length):=hc4
        have HGO:=gone_any r c4 sr bs (w4.alloc (.cells #[.int .u8 0,.int .i64 0,.int .i64 0] 33)) (hst4.kept ((Kept.refl (fun _=>False) w4).alloc _) (fun _ _ f=>f))
        have HS4:Hid (Sm w4 h most vl (.pointer (some ⟨b,0,none⟩)) (.slice aa bs.length capa) cur.c e):=hid (HR.out.si.sm.kept HKB.out (fun f=>by rcases f with f | f;exact hhr f;exact hhb f))
        have e4:(w4.alloc (.cells #[.int .u8 0,.int .i64 0,.int .i64 0] 33)).cell? ⟨h,4,none⟩=some (.int .i64 (cur.c:Nat)):=(HS4.out.kept ((Kept.refl (fun _=>False) w4).alloc _) (fun f=>f)).cell 4
        have f4:(w4.alloc (.cells #[.int .u8 0,.int .i64 0,.int .i64 0] 33)).frozen? ⟨h,4,none⟩=false:=(HS4.out.kept ((Kept.refl (fun _=>False) w4).alloc _) (fun f=>f)).frozen 4
        have HS6:Hid (Sm ((w4.setCell ⟨h,4,none⟩ (.int .i64 (c4:Nat))).alloc (.cells #[.int .u8 0,.int .i64 0,.int .i64 0] 33)) h most vl (.pointer (some ⟨b,0,none⟩)) (.slice aa bs.length capa) c4 e):=hid ((HS4.out.four c4).kept ((Kept.refl (fun _=>False) _).alloc _) (fun f=>f))
        have g2:((w4.setCell ⟨h,4,none⟩ (.int .i64 (c4:Nat))).alloc (.cells #[.int .u8 0,.int .i64 0,.int .i64 0] 33)).cell? ⟨h,2,none⟩=some (.pointer (some ⟨b,0,none⟩)):=HS6.out.cell 2
        have z2:((w4.setCell ⟨h,4,none⟩ (.int .i64 (c4:Nat))).alloc (.cells #[.int .u8 0,.int .i64 0,.int .i64 0] 33)).frozen? ⟨h,2,none⟩=false:=HS6.out.frozen 2
        have HKH:Hid (Kept (·=h) w4 ((w4.setCell ⟨h,4,none⟩ (.int .i64 (c4:Nat))).alloc (.cells #[.int .u8 0,.int .i64 0,.int .i64 0] 33))):=hid (((Kept.refl (·=h) w4).setCell ⟨h,4,none⟩ _ (.inl rfl)).alloc _)
        have hhs:h<w4.heap.size:=HS4.out.lt
        clear hb4 hk4 hBk4 hc4 hst4 HSP
        simp only[tokC,isFin,tok0]
        go_wp2_with fail
        refine HGO.mono ?_
        rintro x w6 ⟨rfl,hw6⟩
        subst hw6
        clear HGO
        have b0:((w4.setCell ⟨h,4,none⟩ (.int .i64 (c4:Nat))).alloc (.cells #[.int .u8 0,.int .i64 0,.int .i64 0] 33)).cell? ⟨b,0,none⟩=some (.bool true):=by
         have:=(HBK4.out.kept HKH.out (fun j hj e1=>by have:=HR.out.si.r1;rw[←e1]at this;omega) (fun e1=>hhb e1.symm)).last0
         rw[HLT.out]at this
         exact this
        have HAL:=ralign_any r c4 sr bs _ (HST4.out.kept HKH.out (fun j hj e1=>by have:=HR.out.fp hj;rw[e1,HR.out.si.r1]at this;omega)) (by have:=HC4.out;have:=HLEN.out;omega)
        go_wp2_with fail
        refine HAL.mono ?_
        rintro x w7 ⟨rfl,hst7,hk7⟩
        obtain⟨cc,hcc⟩:∃cc,cc=(c4+7) / 8*8:=⟨_,rfl⟩
        rw[←hcc]at hst7
        have HGO:=gone_any r cc sr bs w7 hst7
        have HS7:Hid (Sm w7 h most vl (.pointer (some ⟨b,0,none⟩)) (.slice aa bs.length capa) c4 e):=hid (HS6.out.kept hk7 hhr)
        have e7:w7.cell? ⟨h,4,none⟩=some (.int .i64 (c4:Nat)):=HS7.out.cell 4
        have f7:w7.frozen? ⟨h,4,none⟩=false:=HS7.out.frozen 4
        have HK7:Hid (Kept (·=r) ((w4.setCell ⟨h,4,none⟩ (.int .i64 (c4:Nat))).alloc (.cells #[.int .u8 0,.int .i64 0,.int .i64 0] 33)) w7):=hk7
        have HCC:Hid (cc=(c4+7) / 8*8):=hcc
        clear hst7 hk7 HAL hcc
        go_wp2_with fail
        refine HGO.mono ?_
        rintro x w8 ⟨rfl,hw8⟩
        subst hw8
        clear HGO
        go_wp2_with fail
        rw[Exit.noGoto_ret]
        go_ret
        have hKs:Kept (·=h) w8 (w8.setCell ⟨h,4,none⟩ (.int .i64 (cc:Nat))):=(Kept.refl (·=h) w8).setCell ⟨h,4,none⟩ _ (.inl rfl)
        have hKA:Kept (fun j=>j=r∨j=b∨j=h) wr (w8.setCell ⟨h,4,none⟩ (.int .i64 (cc:Nat))):=Kept.trans (Kept.trans (H:=fun j=>j=r∨j=b∨j=h) (Kept.trans (H:=fun j=>j=r∨j=b∨j=h) HKB.out HKH.out (fun _ _ f=>by rcases f with f | f;exact .inl f;exact .inr (.inl f)) (fun _ _ f=>.inr (.inr f))) HK7.out (fun _ _ f=>f) (fun _ _ f=>.inl f)) hKs (fun _ _ f=>f) (fun _ _ f=>.inr (.inr f))
        exact⟨0,⟨c4,cur.out,some k'⟩,_,_,_,_,_,rfl,HR.out.halts hb3 hKA (HS7.out.four cc) (by have:=HC4.out;have:=HCC.out;omega) (by decide) (HLD.out _ _ (.done HE.out)) HMO.out (fun _=>⟨rfl,HCC.out⟩)⟩
       | false=>
        have HE:Hid (stP (ofBytes bs) most cur=.ok (⟨c4,cur.out,none⟩,false)):=hid (by rw[HSE.out,goP_fin,hlast,if_neg (by decide)])
        have HLT:Hid (k'.last=false):=hid (HL.out.trans hlast)
        clear hlast HSE
        go_wp2_with fail
        refine HSP.mono ?_
        rintro x w4 ⟨hb4,hk4⟩
        obtain⟨rfl,hBk4,hc4,hst4⟩:=hb4.ok
        have HKB:Hid (Kept (fun j=>j=r∨j=b) wr w4):=hk4
        have HBK4:Hid (BkP w4 b (fun j=>ρ j=4) k'):=hBk4
        have HST4:Hid (St w4 r sr bs c4):=hst4
        have HC4:Hid (c4≤8*bs.length):=hc4
        have HGO:=gone_any r c4 sr bs (w4.alloc (.cells #[.int .u8 0,.int .i64 0,.int .i64 0] 33)) (hst4.kept ((Kept.refl (fun _=>False) w4).alloc _) (fun _ _ f=>f))
        have HS4:Hid (Sm w4 h most vl (.pointer (some ⟨b,0,none⟩)) (.slice aa bs.length capa) cur.c e):=hid (HR.out.si.sm.kept HKB.out (fun f=>by rcases f with f | f;exact hhr f;exact hhb f))
        have e4:(w4.alloc (.cells #[.int .u8 0,.int .i64 0,.int .i64 0] 33)).cell? ⟨h,4,none⟩=some (.int .i64 (cur.c:Nat)):=(HS4.out.kept ((Kept.refl (fun _=>False) w4).alloc _) (fun f=>f)).cell 4
        have f4:(w4.alloc (.cells #[.int .u8 0,.int .i64 0,.int .i64 0] 33)).frozen? ⟨h,4,none⟩=false:=(HS4.out.kept ((Kept.refl (fun _=>False) w4).alloc _) (fun f=>f)).frozen 4
        have HS6:Hid (Sm ((w4.setCell ⟨h,4,none⟩ (.int .i64 (c4:Nat))).alloc (.cells #[.int .u8 0,.int .i64 0,.int .i64 0] 33)) h most vl (.pointer (some ⟨b,0,none⟩)) (.slice aa bs.length capa) c4 e):=hid ((HS4.out.four c4).kept ((Kept.refl (fun _=>False) _).alloc _) (fun f=>f))
        have g2:((w4.setCell ⟨h,4,none⟩ (.int .i64 (c4:Nat))).alloc (.cells #[.int .u8 0,.int .i64 0,.int .i64 0] 33)).cell? ⟨h,2,none⟩=some (.pointer (some ⟨b,0,none⟩)):=HS6.out.cell 2
        have z2:((w4.setCell ⟨h,4,none⟩ (.int .i64 (c4:Nat))).alloc (.cells #[.int .u8 0,.int .i64 0,.int .i64 0] 33)).frozen? ⟨h,2,none⟩=false:=HS6.out.frozen 2
        have HKH:Hid (Kept (·=h) w4 ((w4.setCell ⟨h,4,none⟩ (.int .i64 (c4:Nat))).alloc (.cells #[.int .u8 0,.int .i64 0,.int .i64 0] 33))):=hid (((Kept.refl (·=h) w4).setCell ⟨h,4,none⟩ _ (.inl rfl)).alloc _)
        have hhs:h<w4.heap.size:=HS4.out.lt
        clear hb4 hk4 hBk4 hc4 hst4 HSP
        simp only[tokC,isFin,tok0]
        go_wp2_with fail
        refine HGO.mono ?_
        rintro x w6 ⟨rfl,hw6⟩
        subst hw6
        clear HGO
        have b0:((w4.setCell ⟨h,4,none⟩ (.int .i64 (c4:Nat))).alloc (.cells #[.int .u8 0,.int .i64 0,.int .i64 0] 33)).cell? ⟨b,0,none⟩=some (.bool false):=by
         have:=(HBK4.out.kept HKH.out (fun j hj e1=>by have:=HR.out.si.r1;rw[←e1]at this;omega) (fun e1=>hhb e1.symm)).last0
         rw[HLT.out]at this
         exact this
        go_wp2_with fail
        go_roundg (G-1)
        case measure=>omega
        case rel=>
         refine⟨⟨c4,cur.out,none⟩,ρ,vl,_,?_,(HR.out.ended hb3 HST4.out HKB.out HC4.out).same ((Kept.refl _ _).alloc _),hid (HLD.out.next HE.out),HMO⟩
         have h1:ms L8 ⟨c4,cur.out,none⟩=2*(L8-c4):=rfl
         omega
      | byte v=>
       have hadv:=HADV.out (by intro h9;cases h9)
       have HV:Hid (v<256):=htk
       clear htk HADV
       go_wp2_with fail
       refine HSP.mono ?_
       rintro x w4 ⟨hb4,hk4⟩
       obtain⟨rfl,hBk4,hc4,hst4⟩:=hb4.ok
       have HKB:Hid (Kept (fun j=>j=r∨j=b) wr w4):=hk4
       have HBK4:Hid (BkP w4 b (fun j=>ρ j=4) k'):=hBk4
       have HST4:Hid (St w4 r sr bs c4):=hst4
       have HC4:Hid (c4≤8*bs.length):=hc4
       have HGO:=gone_any r c4 sr bs (w4.alloc (.cells #[.int .u8 (v:Nat),.int .i64 0,.int .i64 0] 33)) (hst4.kept ((Kept.refl (fun _=>False) w4).alloc _) (fun _ _ f=>f))
       have HS4:Hid (Sm w4 h most vl (.pointer (some ⟨b,0,none⟩)) (.slice aa bs.length capa) cur.c e):=hid (HR.out.si.sm.kept HKB.out (fun f=>by rcases f with f | f;exact hhr f;exact hhb f))
       have e4:(w4.alloc (.cells #[.int .u8 (v:Nat),.int .i64 0,.int .i64 0] 33)).cell? ⟨h,4,none⟩=some (.int .i64 (cur.c:Nat)):=(HS4.out.kept ((Kept.refl (fun _=>False) w4).alloc _) (fun f=>f)).cell 4
       have f4:(w4.alloc (.cells #[.int .u8 (v:Nat),.int .i64 0,.int .i64 0] 33)).frozen? ⟨h,4,none⟩=false:=(HS4.out.kept ((Kept.refl (fun _=>False) w4).alloc _) (fun f=>f)).frozen 4
       have HS6:Hid (Sm ((w4.setCell ⟨h,4,none⟩ (.int .i64 (c4:Nat))).alloc (.cells #[.int .u8 (v:Nat),.int .i64 0,.int .i64 0] 33)) h most vl (.pointer (some ⟨b,0,none⟩)) (.slice aa bs.length capa) c4 e):=hid ((HS4.out.four c4).kept ((Kept.refl (fun _=>False) _).alloc _) (fun f=>f))
       have g2:((w4.setCell ⟨h,4,none⟩ (.int .i64 (c4:Nat))).alloc (.cells #[.int .u8 (v:Nat),.int .i64 0,.int .i64 0] 33)).cell? ⟨h,2,none⟩=some (.pointer (some ⟨b,0,none⟩)):=HS6.out.cell 2
       have z2:((w4.setCell ⟨h,4,none⟩ (.int .i64 (c4:Nat))).alloc (.cells #[.int .u8 (v:Nat),.int .i64 0,.int .i64 0] 33)).frozen? ⟨h,2,none⟩=false:=HS6.out.frozen 2
       have HKH:Hid (Kept (·=h) w4 ((w4.setCell ⟨h,4,none⟩ (.int .i64 (c4:Nat))).alloc (.cells #[.int .u8 (v:Nat),.int .i64 0,.int .i64 0] 33))):=hid (((Kept.refl (·=h) w4).setCell ⟨h,4,none⟩ _ (.inl rfl)).alloc _)
       have hhs:h<w4.heap.size:=HS4.out.lt
       clear hb4 hk4 hBk4 hc4 hst4 HSP
       simp only[tokC,isFin]
       go_wp2_with fail
       refine HGO.mono ?_
       rintro x w6 ⟨rfl,hw6⟩
       subst hw6
       clear HGO
       have HLY:=play_byte ((w4.setCell ⟨h,4,none⟩ (.int .i64 (c4:Nat))).alloc (.cells #[.int .u8 (v:Nat),.int .i64 0,.int .i64 0] 33)) h most vl (.pointer (some ⟨b,0,none⟩)) (.slice aa bs.length capa) c4 e cur.out v HS6.out (HR.out.si.row.kept (Kept.trans (H:=fun j=>j=r∨j=b∨j=h) HKB.out HKH.out (fun _ _ f=>by rcases f with f | f;exact .inl f;exact .inr (.inl f)) (fun _ _ f=>.inr (.inr f))) (fun j hj f=>by
        have:=HR.out.si.r2 j hj
        rcases f with rfl | rfl | rfl
        ·have:=HR.out.r5;omega
        ·omega
        ·have:=HR.out.si.r1;omega)) HR.out.si.neh HR.out.si.mo HR.out.si.ol
       cases hly:layP most cur.out (.byte v) with
       | error er=>
        rw[hly]at HLY
        have hne:=layP_ne hly
        have HE:Hid (stP (ofBytes bs) most cur=.error er):=hid (by rw[HSE.out];exact goP_err (by intro h9;cases h9) hly)
        clear hly HSE
        go_wp2_with fail
        refine HLY.mono ?_
        rintro x w7 ⟨rfl,her,hk7⟩
        have hed:((er:Int) != 0)=true:=by simp;omega
        have HK7:Hid (Same ((w4.setCell ⟨h,4,none⟩ (.int .i64 (c4:Nat))).alloc (.cells #[.int .u8 (v:Nat),.int .i64 0,.int .i64 0] 33)) w7):=hk7
        have HNE:Hid (er≠55):=hid (by omega)
        clear hk7 HLY her hne
        go_wp2_with fail
        rw[Exit.noGoto_ret]
        go_ret
        have hKA:Kept (fun j=>j=r∨j=b∨j=h) wr w7:=Kept.trans (Kept.trans (H:=fun j=>j=r∨j=b∨j=h) HKB.out HKH.out (fun _ _ f=>by rcases f with f | f;exact .inl f;exact .inr (.inl f)) (fun _ _ f=>.inr (.inr f))) HK7.out (fun _ _ f=>f) (fun _ _ f=>f.elim)
        exact⟨er,cur,_,_,_,_,_,rfl,HR.out.halts hb3 hKA (HS6.out.kept HK7.out (fun f=>f)) HC4.out HNE.out (HLD.out _ _ (.stop HE.out)) HMO.out (fun e0=>absurd (HE.out) (fun h9=>stP_ne (ofBytes_lt bs) HR.out.si.ok h9 e0))⟩
       | ok out=>
        rw[hly]at HLY
        have hlo:=layP_ok hly
        have HE:Hid (stP (ofBytes bs) most cur=.ok (⟨c4,out,some k'⟩,false)):=hid (by rw[HSE.out];exact goP_ok (by intro h9;cases h9) hly)
        clear hly HSE
        go_wp2_with fail
        refine HLY.mono ?_
        rintro x w7 ⟨rfl,⟨vl',hsm7,hrow7,hown7⟩,hk7⟩
        have HRN:Hid (∃ρ',RI w0 w7 ρ0 ρ' h r bx fx sr most e (.slice aa bs.length capa) bs ⟨c4,out,some k'⟩ vl' (.pointer (some ⟨b,0,none⟩))):=hid (HR.out.laid rfl hb3 HBK4.out HST4.out HKB.out HKH.out hsm7 hrow7 hown7 hk7 (hlo.2.1 HR.out.si.ol) ⟨by rw[ofBytes_length];exact HC4.out,hso.1⟩)
        have HMN:Hid (start.out.length≤out.length):=hid (Nat.le_trans HMO.out hlo.1)
        clear hsm7 hrow7 hown7 hk7 HLY hlo
        go_wp2_with fail
        go_roundg (gk-1)
        case measure=>omega
        case rel=>
         obtain⟨ρ',hr'⟩:=HRN.out
         refine⟨⟨c4,out,some k'⟩,ρ',vl',_,k',rfl,?_,by omega,hr',hid (HLD.out.next HE.out),HMN⟩
         have h1:ms L8 ⟨c4,out,some k'⟩=2*(L8-c4)+1:=rfl
         omega
      | copy n far=>
       have hadv:=HADV.out (by intro h9;cases h9)
       obtain⟨hn3,hn258,hf1,hf4⟩:3≤n∧n≤258∧1≤far∧far≤40000:=htk
       clear HADV
       go_wp2_with fail
       refine HSP.mono ?_
       rintro x w4 ⟨hb4,hk4⟩
       obtain⟨rfl,hBk4,hc4,hst4⟩:=hb4.ok
       have HKB:Hid (Kept (fun j=>j=r∨j=b) wr w4):=hk4
       have HBK4:Hid (BkP w4 b (fun j=>ρ j=4) k'):=hBk4
       have HST4:Hid (St w4 r sr bs c4):=hst4
       have HC4:Hid (c4≤8*bs.length):=hc4
       have HGO:=gone_any r c4 sr bs (w4.alloc (.cells #[.int .u8 0,.int .i64 (n:Nat),.int .i64 (far:Nat)] 33)) (hst4.kept ((Kept.refl (fun _=>False) w4).alloc _) (fun _ _ f=>f))
       have HS4:Hid (Sm w4 h most vl (.pointer (some ⟨b,0,none⟩)) (.slice aa bs.length capa) cur.c e):=hid (HR.out.si.sm.kept HKB.out (fun f=>by rcases f with f | f;exact hhr f;exact hhb f))
       have e4:(w4.alloc (.cells #[.int .u8 0,.int .i64 (n:Nat),.int .i64 (far:Nat)] 33)).cell? ⟨h,4,none⟩=some (.int .i64 (cur.c:Nat)):=(HS4.out.kept ((Kept.refl (fun _=>False) w4).alloc _) (fun f=>f)).cell 4
       have f4:(w4.alloc (.cells #[.int .u8 0,.int .i64 (n:Nat),.int .i64 (far:Nat)] 33)).frozen? ⟨h,4,none⟩=false:=(HS4.out.kept ((Kept.refl (fun _=>False) w4).alloc _) (fun f=>f)).frozen 4
       have HS6:Hid (Sm ((w4.setCell ⟨h,4,none⟩ (.int .i64 (c4:Nat))).alloc (.cells #[.int .u8 0,.int .i64 (n:Nat),.int .i64 (far:Nat)] 33)) h most vl (.pointer (some ⟨b,0,none⟩)) (.slice aa bs.length capa) c4 e):=hid ((HS4.out.four c4).kept ((Kept.refl (fun _=>False) _).alloc _) (fun f=>f))
       have g2:((w4.setCell ⟨h,4,none⟩ (.int .i64 (c4:Nat))).alloc (.cells #[.int .u8 0,.int .i64 (n:Nat),.int .i64 (far:Nat)] 33)).cell? ⟨h,2,none⟩=some (.pointer (some ⟨b,0,none⟩)):=HS6.out.cell 2
       have z2:((w4.setCell ⟨h,4,none⟩ (.int .i64 (c4:Nat))).alloc (.cells #[.int .u8 0,.int .i64 (n:Nat),.int .i64 (far:Nat)] 33)).frozen? ⟨h,2,none⟩=false:=HS6.out.frozen 2
       have HKH:Hid (Kept (·=h) w4 ((w4.setCell ⟨h,4,none⟩ (.int .i64 (c4:Nat))).alloc (.cells #[.int .u8 0,.int .i64 (n:Nat),.int .i64 (far:Nat)] 33))):=hid (((Kept.refl (·=h) w4).setCell ⟨h,4,none⟩ _ (.inl rfl)).alloc _)
       have hhs:h<w4.heap.size:=HS4.out.lt
       clear hb4 hk4 hBk4 hc4 hst4 HSP
       simp only[tokC,isFin]
       go_wp2_with fail
       refine HGO.mono ?_
       rintro x w6 ⟨rfl,hw6⟩
       subst hw6
       clear HGO
       have HLY:=play_copy ((w4.setCell ⟨h,4,none⟩ (.int .i64 (c4:Nat))).alloc (.cells #[.int .u8 0,.int .i64 (n:Nat),.int .i64 (far:Nat)] 33)) h most vl (.pointer (some ⟨b,0,none⟩)) (.slice aa bs.length capa) c4 e cur.out n far HS6.out (HR.out.si.row.kept (Kept.trans (H:=fun j=>j=r∨j=b∨j=h) HKB.out HKH.out (fun _ _ f=>by rcases f with f | f;exact .inl f;exact .inr (.inl f)) (fun _ _ f=>.inr (.inr f))) (fun j hj f=>by
        have:=HR.out.si.r2 j hj
        rcases f with rfl | rfl | rfl
        ·have:=HR.out.r5;omega
        ·omega
        ·have:=HR.out.si.r1;omega)) HR.out.si.neh HR.out.si.mo HR.out.si.ol hn3 hn258 hf1 hf4
       cases hly:layP most cur.out (.copy n far) with
       | error er=>
        rw[hly]at HLY
        have hne:=layP_ne hly
        have HE:Hid (stP (ofBytes bs) most cur=.error er):=hid (by rw[HSE.out];exact goP_err (by intro h9;cases h9) hly)
        clear hly HSE
        go_wp2_with fail
        refine HLY.mono ?_
        rintro x w7 ⟨rfl,her,hk7⟩
        have hed:((er:Int) != 0)=true:=by simp;omega
        have HK7:Hid (Same ((w4.setCell ⟨h,4,none⟩ (.int .i64 (c4:Nat))).alloc (.cells #[.int .u8 0,.int .i64 (n:Nat),.int .i64 (far:Nat)] 33)) w7):=hk7
        have HNE:Hid (er≠55):=hid (by omega)
        clear hk7 HLY her hne
        go_wp2_with fail
        rw[Exit.noGoto_ret]
        go_ret
        have hKA:Kept (fun j=>j=r∨j=b∨j=h) wr w7:=Kept.trans (Kept.trans (H:=fun j=>j=r∨j=b∨j=h) HKB.out HKH.out (fun _ _ f=>by rcases f with f | f;exact .inl f;exact .inr (.inl f)) (fun _ _ f=>.inr (.inr f))) HK7.out (fun _ _ f=>f) (fun _ _ f=>f.elim)
        exact⟨er,cur,_,_,_,_,_,rfl,HR.out.halts hb3 hKA (HS6.out.kept HK7.out (fun f=>f)) HC4.out HNE.out (HLD.out _ _ (.stop HE.out)) HMO.out (fun e0=>absurd (HE.out) (fun h9=>stP_ne (ofBytes_lt bs) HR.out.si.ok h9 e0))⟩
       | ok out=>
        rw[hly]at HLY
        have hlo:=layP_ok hly
        have HE:Hid (stP (ofBytes bs) most cur=.ok (⟨c4,out,some k'⟩,false)):=hid (by rw[HSE.out];exact goP_ok (by intro h9;cases h9) hly)
        clear hly HSE
        go_wp2_with fail
        refine HLY.mono ?_
        rintro x w7 ⟨rfl,⟨vl',hsm7,hrow7,hown7⟩,hk7⟩
        have HRN:Hid (∃ρ',RI w0 w7 ρ0 ρ' h r bx fx sr most e (.slice aa bs.length capa) bs ⟨c4,out,some k'⟩ vl' (.pointer (some ⟨b,0,none⟩))):=hid (HR.out.laid rfl hb3 HBK4.out HST4.out HKB.out HKH.out hsm7 hrow7 hown7 hk7 (hlo.2.1 HR.out.si.ol) ⟨by rw[ofBytes_length];exact HC4.out,hso.1⟩)
        have HMN:Hid (start.out.length≤out.length):=hid (Nat.le_trans HMO.out hlo.1)
        clear hsm7 hrow7 hown7 hk7 HLY hlo
        go_wp2_with fail
        go_roundg (gk-1)
        case measure=>omega
        case rel=>
         obtain⟨ρ',hr'⟩:=HRN.out
         refine⟨⟨c4,out,some k'⟩,ρ',vl',_,k',rfl,?_,by omega,hr',hid (HLD.out.next HE.out),HMN⟩
         have h1:ms L8 ⟨c4,out,some k'⟩=2*(L8-c4)+1:=rfl
         omega
  | some k=>
   have hbkin:=HR.out.si.bk
   rw[hbk]at hbkin
   obtain⟨b,rfl,_,_⟩:=hbkin
   have d2:wr.cell? ⟨h,2,none⟩=some (.pointer (some ⟨b,0,none⟩)):=HR.out.si.sm.cell 2
   have HI:Hid (∃(cur:Ps) (ρ:Part) (vl bv:Value) (k:Bk),cur.bk=some k∧ms L8 cur≤G∧Hid (RI w0 wr ρ0 ρ h r bx fx sr most e (.slice aa bs.length capa) bs cur vl bv)∧Hid (Leads (ofBytes bs) most start cur)∧Hid (start.out.length≤cur.out.length)):=hid ⟨cur,ρ,vl,_,k,hbk,by omega,HR,HLD,HMO⟩
   clear HR HLD HMO
   go_wp2_with fail
   go_loopg [7] G (fun q z wr=>∃(cur:Ps) (ρ:Part) (vl bv:Value) (k:Bk),cur.bk=some k∧ms L8 cur≤q∧q≤G∧Hid (RI w0 wr ρ0 ρ h r bx fx sr most e (.slice aa bs.length capa) bs cur vl bv)∧Hid (Leads (ofBytes bs) most start cur)∧Hid (start.out.length≤cur.out.length))
   case atStart=>
    obtain⟨cur,ρ,vl,bv,k,h1,h2,h3,h4,h5⟩:=HI.out
    exact⟨cur,ρ,vl,bv,k,h1,h2,Nat.le_refl _,h3,h4,h5⟩
   case round=>
    clear HI
    obtain⟨cur,ρ,vl,bv,k,hbk,hq,hqG,HR,HLD,HMO⟩:=hrel
    have hbkin:=HR.out.si.bk
    rw[hbk]at hbkin
    obtain⟨b,rfl,hBk,hb3⟩:=hbkin
    have d2:wr.cell? ⟨h,2,none⟩=some (.pointer (some ⟨b,0,none⟩)):=HR.out.si.sm.cell 2
    have hbok:BkOk (some k):=by rw[←hbk];exact HR.out.si.ok.bk
    have HBOK:Hid (BkOk (some k)):=hbok
    have HSP:=pstep_any wr b r cur.c sr bs k (fun j=>ρ j=4) hBk (fun j hj=>HR.out.si.lt j (by omega)) (fun j hj hf=>by have:=HR.out.fp hf;omega) (fun hf=>by have:=HR.out.fp hf;omega) hbok HR.out.st HR.out.si.len HLEN.out
    have hhb:h≠b:=fun e1=>by have:=HR.out.si.r1;rw[e1,hb3]at this;cases this
    have hhr:h≠r:=fun e1=>by have:=HR.out.si.r1;rw[e1,HR.out.r5]at this;cases this
    have hcL:cur.c≤L8:=by have:=HR.out.si.ok.le;rw[←HL8.out]at this;exact this
    have hms1:ms L8 cur=2*(L8-cur.c)+1:=by unfold ms;rw[hbk]
    clear hBk hbok
    cases hsp:stepP (ofBytes bs) k cur.c with
    | error er=>
     rw[hsp]at HSP
     have HE:Hid (stP (ofBytes bs) most cur=.error er):=hid (stP_some_err hbk hsp)
     clear hsp
     go_wp2_with fail
     refine HSP.mono ?_
     rintro x w4 ⟨hb4,hk4⟩
     obtain⟨rfl,her,hBk4,_⟩:=hb4.err
     have hed:((er:Int) != 0)=true:=by simp;omega
     have HKB:Hid (Kept (fun j=>j=r∨j=b) wr w4):=hk4
     have HBK4:Hid (BkP w4 b (fun j=>ρ j=4) k):=hBk4
     have HER:Hid (er≠0):=her
     clear hb4 hk4 her HSP hBk4
     go_wp2_with fail
     rw[Exit.noGoto_ret]
     go_ret
     have hkT:Same w4 (w4.alloc (.cells #[.int .u8 0,.int .i64 0,.int .i64 0] 33)):=(Kept.refl _ w4).alloc _
     exact⟨er,cur,_,_,_,_,_,rfl,HR.out.stays rfl hbk hb3 (HBK4.out.kept hkT (fun _ _ f=>f) (fun f=>f)) (Kept.trans HKB.out hkT (fun _ _ f=>f) (fun _ _ f=>f.elim)) HER.out (HLD.out _ _ (.stop HE.out)) HMO.out⟩
    | ok x=>
     obtain⟨⟨t,k'⟩,c4⟩:=x
     rw[hsp]at HSP
     have hso:=stepP_ok hsp HBOK.out
     have htk:=stepP_tok (ofBytes_lt bs) hsp
     have hge:=(stepP_loc (ofBytes bs) (ofBytes_lt bs) k cur.c HBOK.out HR.out.si.ok.le).ge _ _ hsp
     have HSE:Hid (stP (ofBytes bs) most cur=goP most cur k ((t,k'),c4)):=hid (stP_some_ok hbk hsp)
     have HADV:Hid (t≠.fin→cur.c<c4):=hid (fun ht=>stepP_adv (ofBytes_lt bs) HBOK.out HR.out.si.ok.le hsp ht)
     rw[←HL8.out]at hge
     clear hsp
     cases t with
     | fin=>
      have HL:Hid (k'.last=k.last):=hso.2
      clear htk HADV
      cases hlast:k.last with
      | true=>
       have HE:Hid (stP (ofBytes bs) most cur=.ok (⟨c4,cur.out,some k'⟩,true)):=hid (by rw[HSE.out,goP_fin,hlast,if_pos rfl])
       have HLT:Hid (k'.last=true):=hid (HL.out.trans hlast)
       clear hlast HSE
       go_wp2_with fail
       refine HSP.mono ?_
       rintro x w4 ⟨hb4,hk4⟩
       obtain⟨rfl,hBk4,hc4,hst4⟩:=hb4.ok
       have HKB:Hid (Kept (fun j=>j=r∨j=b) wr w4):=hk4
       have HBK4:Hid (BkP w4 b (fun j=>ρ j=4) k'):=hBk4
       have HST4:Hid (St w4 r sr bs c4):=hst4
       have HC4:Hid (c4≤8*bs.length):=hc4
       have HGO:=gone_any r c4 sr bs (w4.alloc (.cells #[.int .u8 0,.int .i64 0,.int .i64 0] 33)) (hst4.kept ((Kept.refl (fun _=>False) w4).alloc _) (fun _ _ f=>f))
       have HS4:Hid (Sm w4 h most vl (.pointer (some ⟨b,0,none⟩)) (.slice aa bs.length capa) cur.c e):=hid (HR.out.si.sm.kept HKB.out (fun f=>by rcases f with f | f;exact hhr f;exact hhb f))
       have e4:(w4.alloc (.cells #[.int .u8 0,.int .i64 0,.int .i64 0] 33)).cell? ⟨h,4,none⟩=some (.int .i64 (cur.c:Nat)):=(HS4.out.kept ((Kept.refl (fun _=>False) w4).alloc _) (fun f=>f)).cell 4
       have f4:(w4.alloc (.cells #[.int .u8 0,.int .i64 0,.int .i64 0] 33)).frozen? ⟨h,4,none⟩=false:=(HS4.out.kept ((Kept.refl (fun _=>False) w4).alloc _) (fun f=>f)).frozen 4
       have HS6:Hid (Sm ((w4.setCell ⟨h,4,none⟩ (.int .i64 (c4:Nat))).alloc (.cells #[.int .u8 0,.int .i64 0,.int .i64 0] 33)) h most vl (.pointer (some ⟨b,0,none⟩)) (.slice aa bs.length capa) c4 e):=hid ((HS4.out.four c4).kept ((Kept.refl (fun _=>False) _).alloc _) (fun f=>f))
       have g2:((w4.setCell ⟨h,4,none⟩ (.int .i64 (c4:Nat))).alloc (.cells #[.int .u8 0,.int .i64 0,.int .i64 0] 33)).cell? ⟨h,2,none⟩=some (.pointer (some ⟨b,0,none⟩)):=HS6.out.cell 2
       have z2:((w4.setCell ⟨h,4,none⟩ (.int .i64 (c4:Nat))).alloc (.cells #[.int .u8 0,.int .i64 0,.int .i64 0] 33)).frozen? ⟨h,2,none⟩=false:=HS6.out.frozen 2
       have HKH:Hid (Kept (·=h) w4 ((w4.setCell ⟨h,4,none⟩ (.int .i64 (c4:Nat))).alloc (.cells #[.int .u8 0,.int .i64 0,.int .i64 0] 33))):=hid (((Kept.refl (·=h) w4).setCell ⟨h,4,none⟩ _ (.inl rfl)).alloc _)
       have hhs:h<w4.heap.size:=HS4.out.lt
       clear hb4 hk4 hBk4 hc4 hst4 HSP
       simp only[tokC,isFin,tok0]
       go_wp2_with fail
       refine HGO.mono ?_
       rintro x w6 ⟨rfl,hw6⟩
       subst hw6
       clear HGO
       have b0:((w4.setCell ⟨h,4,none⟩ (.int .i64 (c4:Nat))).alloc (.cells #[.int .u8 0,.int .i64 0,.int .i64 0] 33)).cell? ⟨b,0,none⟩=some (.bool true):=by
        have:=(HBK4.out.kept HKH.out (fun j hj e1=>by have:=HR.out.si.r1;rw[←e1]at this;omega) (fun e1=>hhb e1.symm)).last0
        rw[HLT.out]at this
        exact this
       have HAL:=ralign_any r c4 sr bs _ (HST4.out.kept HKH.out (fun j hj e1=>by have:=HR.out.fp hj;rw[e1,HR.out.si.r1]at this;omega)) (by have:=HC4.out;have:=HLEN.out;omega)
       go_wp2_with fail
       refine HAL.mono ?_
       rintro x w7 ⟨rfl,hst7,hk7⟩
       obtain⟨cc,hcc⟩:∃cc,cc=(c4+7) / 8*8:=⟨_,rfl⟩
       rw[←hcc]at hst7
       have HGO:=gone_any r cc sr bs w7 hst7
       have HS7:Hid (Sm w7 h most vl (.pointer (some ⟨b,0,none⟩)) (.slice aa bs.length capa) c4 e):=hid (HS6.out.kept hk7 hhr)
       have e7:w7.cell? ⟨h,4,none⟩=some (.int .i64 (c4:Nat)):=HS7.out.cell 4
       have f7:w7.frozen? ⟨h,4,none⟩=false:=HS7.out.frozen 4
       have HK7:Hid (Kept (·=r) ((w4.setCell ⟨h,4,none⟩ (.int .i64 (c4:Nat))).alloc (.cells #[.int .u8 0,.int .i64 0,.int .i64 0] 33)) w7):=hk7
       have HCC:Hid (cc=(c4+7) / 8*8):=hcc
       clear hst7 hk7 HAL hcc
       go_wp2_with fail
       refine HGO.mono ?_
       rintro x w8 ⟨rfl,hw8⟩
       subst hw8
       clear HGO
       go_wp2_with fail
       rw[Exit.noGoto_ret]
       go_ret
       have hKs:Kept (·=h) w8 (w8.setCell ⟨h,4,none⟩ (.int .i64 (cc:Nat))):=(Kept.refl (·=h) w8).setCell ⟨h,4,none⟩ _ (.inl rfl)
       have hKA:Kept (fun j=>j=r∨j=b∨j=h) wr (w8.setCell ⟨h,4,none⟩ (.int .i64 (cc:Nat))):=Kept.trans (Kept.trans (H:=fun j=>j=r∨j=b∨j=h) (Kept.trans (H:=fun j=>j=r∨j=b∨j=h) HKB.out HKH.out (fun _ _ f=>by rcases f with f | f;exact .inl f;exact .inr (.inl f)) (fun _ _ f=>.inr (.inr f))) HK7.out (fun _ _ f=>f) (fun _ _ f=>.inl f)) hKs (fun _ _ f=>f) (fun _ _ f=>.inr (.inr f))
       exact⟨0,⟨c4,cur.out,some k'⟩,_,_,_,_,_,rfl,HR.out.halts hb3 hKA (HS7.out.four cc) (by have:=HC4.out;have:=HCC.out;omega) (by decide) (HLD.out _ _ (.done HE.out)) HMO.out (fun _=>⟨rfl,HCC.out⟩)⟩
      | false=>
       have HE:Hid (stP (ofBytes bs) most cur=.ok (⟨c4,cur.out,none⟩,false)):=hid (by rw[HSE.out,goP_fin,hlast,if_neg (by decide)])
       have HLT:Hid (k'.last=false):=hid (HL.out.trans hlast)
       clear hlast HSE
       go_wp2_with fail
       refine HSP.mono ?_
       rintro x w4 ⟨hb4,hk4⟩
       obtain⟨rfl,hBk4,hc4,hst4⟩:=hb4.ok
       have HKB:Hid (Kept (fun j=>j=r∨j=b) wr w4):=hk4
       have HBK4:Hid (BkP w4 b (fun j=>ρ j=4) k'):=hBk4
       have HST4:Hid (St w4 r sr bs c4):=hst4
       have HC4:Hid (c4≤8*bs.length):=hc4
       have HGO:=gone_any r c4 sr bs (w4.alloc (.cells #[.int .u8 0,.int .i64 0,.int .i64 0] 33)) (hst4.kept ((Kept.refl (fun _=>False) w4).alloc _) (fun _ _ f=>f))
       have HS4:Hid (Sm w4 h most vl (.pointer (some ⟨b,0,none⟩)) (.slice aa bs.length capa) cur.c e):=hid (HR.out.si.sm.kept HKB.out (fun f=>by rcases f with f | f;exact hhr f;exact hhb f))
       have e4:(w4.alloc (.cells #[.int .u8 0,.int .i64 0,.int .i64 0] 33)).cell? ⟨h,4,none⟩=some (.int .i64 (cur.c:Nat)):=(HS4.out.kept ((Kept.refl (fun _=>False) w4).alloc _) (fun f=>f)).cell 4
       have f4:(w4.alloc (.cells #[.int .u8 0,.int .i64 0,.int .i64 0] 33)).frozen? ⟨h,4,none⟩=false:=(HS4.out.kept ((Kept.refl (fun _=>False) w4).alloc _) (fun f=>f)).frozen 4
       have HS6:Hid (Sm ((w4.setCell ⟨h,4,none⟩ (.int .i64 (c4:Nat))).alloc (.cells #[.int .u8 0,.int .i64 0,.int .i64 0] 33)) h most vl (.pointer (some ⟨b,0,none⟩)) (.slice aa bs.length capa) c4 e):=hid ((HS4.out.four c4).kept ((Kept.refl (fun _=>False) _).alloc _) (fun f=>f))
       have g2:((w4.setCell ⟨h,4,none⟩ (.int .i64 (c4:Nat))).alloc (.cells #[.int .u8 0,.int .i64 0,.int .i64 0] 33)).cell? ⟨h,2,none⟩=some (.pointer (some ⟨b,0,none⟩)):=HS6.out.cell 2
       have z2:((w4.setCell ⟨h,4,none⟩ (.int .i64 (c4:Nat))).alloc (.cells #[.int .u8 0,.int .i64 0,.int .i64 0] 33)).frozen? ⟨h,2,none⟩=false:=HS6.out.frozen 2
       have HKH:Hid (Kept (·=h) w4 ((w4.setCell ⟨h,4,none⟩ (.int .i64 (c4:Nat))).alloc (.cells #[.int .u8 0,.int .i64 0,.int .i64 0] 33))):=hid (((Kept.refl (·=h) w4).setCell ⟨h,4,none⟩ _ (.inl rfl)).alloc _)
       have hhs:h<w4.heap.size:=HS4.out.lt
       clear hb4 hk4 hBk4 hc4 hst4 HSP
       simp only[tokC,isFin,tok0]
       go_wp2_with fail
       refine HGO.mono ?_
       rintro x w6 ⟨rfl,hw6⟩
       subst hw6
       clear HGO
       have b0:((w4.setCell ⟨h,4,none⟩ (.int .i64 (c4:Nat))).alloc (.cells #[.int .u8 0,.int .i64 0,.int .i64 0] 33)).cell? ⟨b,0,none⟩=some (.bool false):=by
        have:=(HBK4.out.kept HKH.out (fun j hj e1=>by have:=HR.out.si.r1;rw[←e1]at this;omega) (fun e1=>hhb e1.symm)).last0
        rw[HLT.out]at this
        exact this
       go_wp2_with fail
       go_roundg (G-1)
       case measure=>omega
       case rel=>
        refine⟨⟨c4,cur.out,none⟩,ρ,vl,_,?_,(HR.out.ended hb3 HST4.out HKB.out HC4.out).same ((Kept.refl _ _).alloc _),hid (HLD.out.next HE.out),HMO⟩
        have h1:ms L8 ⟨c4,cur.out,none⟩=2*(L8-c4):=rfl
        omega
     | byte v=>
      have hadv:=HADV.out (by intro h9;cases h9)
      have HV:Hid (v<256):=htk
      clear htk HADV
      go_wp2_with fail
      refine HSP.mono ?_
      rintro x w4 ⟨hb4,hk4⟩
      obtain⟨rfl,hBk4,hc4,hst4⟩:=hb4.ok
      have HKB:Hid (Kept (fun j=>j=r∨j=b) wr w4):=hk4
      have HBK4:Hid (BkP w4 b (fun j=>ρ j=4) k'):=hBk4
      have HST4:Hid (St w4 r sr bs c4):=hst4
      have HC4:Hid (c4≤8*bs.length):=hc4
      have HGO:=gone_any r c4 sr bs (w4.alloc (.cells #[.int .u8 (v:Nat),.int .i64 0,.int .i64 0] 33)) (hst4.kept ((Kept.refl (fun _=>False) w4).alloc _) (fun _ _ f=>f))
      have HS4:Hid (Sm w4 h most vl (.pointer (some ⟨b,0,none⟩)) (.slice aa bs.length capa) cur.c e):=hid (HR.out.si.sm.kept HKB.out (fun f=>by rcases f with f | f;exact hhr f;exact hhb f))
      have e4:(w4.alloc (.cells #[.int .u8 (v:Nat),.int .i64 0,.int .i64 0] 33)).cell? ⟨h,4,none⟩=some (.int .i64 (cur.c:Nat)):=(HS4.out.kept ((Kept.refl (fun _=>False) w4).alloc _) (fun f=>f)).cell 4
      have f4:(w4.alloc (.cells #[.int .u8 (v:Nat),.int .i64 0,.int .i64 0] 33)).frozen? ⟨h,4,none⟩=false:=(HS4.out.kept ((Kept.refl (fun _=>False) w4).alloc _) (fun f=>f)).frozen 4
      have HS6:Hid (Sm ((w4.setCell ⟨h,4,none⟩ (.int .i64 (c4:Nat))).alloc (.cells #[.int .u8 (v:Nat),.int .i64 0,.int .i64 0] 33)) h most vl (.pointer (some ⟨b,0,none⟩)) (.slice aa bs.length capa) c4 e):=hid ((HS4.out.four c4).kept ((Kept.refl (fun _=>False) _).alloc _) (fun f=>f))
      have g2:((w4.setCell ⟨h,4,none⟩ (.int .i64 (c4:Nat))).alloc (.cells #[.int .u8 (v:Nat),.int .i64 0,.int .i64 0] 33)).cell? ⟨h,2,none⟩=some (.pointer (some ⟨b,0,none⟩)):=HS6.out.cell 2
      have z2:((w4.setCell ⟨h,4,none⟩ (.int .i64 (c4:Nat))).alloc (.cells #[.int .u8 (v:Nat),.int .i64 0,.int .i64 0] 33)).frozen? ⟨h,2,none⟩=false:=HS6.out.frozen 2
      have HKH:Hid (Kept (·=h) w4 ((w4.setCell ⟨h,4,none⟩ (.int .i64 (c4:Nat))).alloc (.cells #[.int .u8 (v:Nat),.int .i64 0,.int .i64 0] 33))):=hid (((Kept.refl (·=h) w4).setCell ⟨h,4,none⟩ _ (.inl rfl)).alloc _)
      have hhs:h<w4.heap.size:=HS4.out.lt
      clear hb4 hk4 hBk4 hc4 hst4 HSP
      simp only[tokC,isFin]
      go_wp2_with fail
      refine HGO.mono ?_
      rintro x w6 ⟨rfl,hw6⟩
      subst hw6
      clear HGO
      have HLY:=play_byte ((w4.setCell ⟨h,4,none⟩ (.int .i64 (c4:Nat))).alloc (.cells #[.int .u8 (v:Nat),.int .i64 0,.int .i64 0] 33)) h most vl (.pointer (some ⟨b,0,none⟩)) (.slice aa bs.length capa) c4 e cur.out v HS6.out (HR.out.si.row.kept (Kept.trans (H:=fun j=>j=r∨j=b∨j=h) HKB.out HKH.out (fun _ _ f=>by rcases f with f | f;exact .inl f;exact .inr (.inl f)) (fun _ _ f=>.inr (.inr f))) (fun j hj f=>by
       have:=HR.out.si.r2 j hj
       rcases f with rfl | rfl | rfl
       ·have:=HR.out.r5;omega
       ·omega
       ·have:=HR.out.si.r1;omega)) HR.out.si.neh HR.out.si.mo HR.out.si.ol
      cases hly:layP most cur.out (.byte v) with
      | error er=>
       rw[hly]at HLY
       have hne:=layP_ne hly
       have HE:Hid (stP (ofBytes bs) most cur=.error er):=hid (by rw[HSE.out];exact goP_err (by intro h9;cases h9) hly)
       clear hly HSE
       go_wp2_with fail
       refine HLY.mono ?_
       rintro x w7 ⟨rfl,her,hk7⟩
       have hed:((er:Int) != 0)=true:=by simp;omega
       have HK7:Hid (Same ((w4.setCell ⟨h,4,none⟩ (.int .i64 (c4:Nat))).alloc (.cells #[.int .u8 (v:Nat),.int .i64 0,.int .i64 0] 33)) w7):=hk7
       have HNE:Hid (er≠55):=hid (by omega)
       clear hk7 HLY her hne
       go_wp2_with fail
       rw[Exit.noGoto_ret]
       go_ret
       have hKA:Kept (fun j=>j=r∨j=b∨j=h) wr w7:=Kept.trans (Kept.trans (H:=fun j=>j=r∨j=b∨j=h) HKB.out HKH.out (fun _ _ f=>by rcases f with f | f;exact .inl f;exact .inr (.inl f)) (fun _ _ f=>.inr (.inr f))) HK7.out (fun _ _ f=>f) (fun _ _ f=>f.elim)
       exact⟨er,cur,_,_,_,_,_,rfl,HR.out.halts hb3 hKA (HS6.out.kept HK7.out (fun f=>f)) HC4.out HNE.out (HLD.out _ _ (.stop HE.out)) HMO.out (fun e0=>absurd (HE.out) (fun h9=>stP_ne (ofBytes_lt bs) HR.out.si.ok h9 e0))⟩
      | ok out=>
       rw[hly]at HLY
       have hlo:=layP_ok hly
       have HE:Hid (stP (ofBytes bs) most cur=.ok (⟨c4,out,some k'⟩,false)):=hid (by rw[HSE.out];exact goP_ok (by intro h9;cases h9) hly)
       clear hly HSE
       go_wp2_with fail
       refine HLY.mono ?_
       rintro x w7 ⟨rfl,⟨vl',hsm7,hrow7,hown7⟩,hk7⟩
       have HRN:Hid (∃ρ',RI w0 w7 ρ0 ρ' h r bx fx sr most e (.slice aa bs.length capa) bs ⟨c4,out,some k'⟩ vl' (.pointer (some ⟨b,0,none⟩))):=hid (HR.out.laid rfl hb3 HBK4.out HST4.out HKB.out HKH.out hsm7 hrow7 hown7 hk7 (hlo.2.1 HR.out.si.ol) ⟨by rw[ofBytes_length];exact HC4.out,hso.1⟩)
       have HMN:Hid (start.out.length≤out.length):=hid (Nat.le_trans HMO.out hlo.1)
       clear hsm7 hrow7 hown7 hk7 HLY hlo
       go_wp2_with fail
       go_roundg (gk-1)
       case measure=>omega
       case rel=>
        obtain⟨ρ',hr'⟩:=HRN.out
        refine⟨⟨c4,out,some k'⟩,ρ',vl',_,k',rfl,?_,by omega,hr',hid (HLD.out.next HE.out),HMN⟩
        have h1:ms L8 ⟨c4,out,some k'⟩=2*(L8-c4)+1:=rfl
        omega
     | copy n far=>
      have hadv:=HADV.out (by intro h9;cases h9)
      obtain⟨hn3,hn258,hf1,hf4⟩:3≤n∧n≤258∧1≤far∧far≤40000:=htk
      clear HADV
      go_wp2_with fail
      refine HSP.mono ?_
      rintro x w4 ⟨hb4,hk4⟩
      obtain⟨rfl,hBk4,hc4,hst4⟩:=hb4.ok
      have HKB:Hid (Kept (fun j=>j=r∨j=b) wr w4):=hk4
      have HBK4:Hid (BkP w4 b (fun j=>ρ j=4) k'):=hBk4
      have HST4:Hid (St w4 r sr bs c4):=hst4
      have HC4:Hid (c4≤8*bs.length):=hc4
      have HGO:=gone_any r c4 sr bs (w4.alloc (.cells #[.int .u8 0,.int .i64 (n:Nat),.int .i64 (far:Nat)] 33)) (hst4.kept ((Kept.refl (fun _=>False) w4).alloc _) (fun _ _ f=>f))
      have HS4:Hid (Sm w4 h most vl (.pointer (some ⟨b,0,none⟩)) (.slice aa bs.length capa) cur.c e):=hid (HR.out.si.sm.kept HKB.out (fun f=>by rcases f with f | f;exact hhr f;exact hhb f))
      have e4:(w4.alloc (.cells #[.int .u8 0,.int .i64 (n:Nat),.int .i64 (far:Nat)] 33)).cell? ⟨h,4,none⟩=some (.int .i64 (cur.c:Nat)):=(HS4.out.kept ((Kept.refl (fun _=>False) w4).alloc _) (fun f=>f)).cell 4
      have f4:(w4.alloc (.cells #[.int .u8 0,.int .i64 (n:Nat),.int .i64 (far:Nat)] 33)).frozen? ⟨h,4,none⟩=false:=(HS4.out.kept ((Kept.refl (fun _=>False) w4).alloc _) (fun f=>f)).frozen 4
      have HS6:Hid (Sm ((w4.setCell ⟨h,4,none⟩ (.int .i64 (c4:Nat))).alloc (.cells #[.int .u8 0,.int .i64 (n:Nat),.int .i64 (far:Nat)] 33)) h most vl (.pointer (some ⟨b,0,none⟩)) (.slice aa bs.length capa) c4 e):=hid ((HS4.out.four c4).kept ((Kept.refl (fun _=>False) _).alloc _) (fun f=>f))
      have g2:((w4.setCell ⟨h,4,none⟩ (.int .i64 (c4:Nat))).alloc (.cells #[.int .u8 0,.int .i64 (n:Nat),.int .i64 (far:Nat)] 33)).cell? ⟨h,2,none⟩=some (.pointer (some ⟨b,0,none⟩)):=HS6.out.cell 2
      have z2:((w4.setCell ⟨h,4,none⟩ (.int .i64 (c4:Nat))).alloc (.cells #[.int .u8 0,.int .i64 (n:Nat),.int .i64 (far:Nat)] 33)).frozen? ⟨h,2,none⟩=false:=HS6.out.frozen 2
      have HKH:Hid (Kept (·=h) w4 ((w4.setCell ⟨h,4,none⟩ (.int .i64 (c4:Nat))).alloc (.cells #[.int .u8 0,.int .i64 (n:Nat),.int .i64 (far:Nat)] 33))):=hid (((Kept.refl (·=h) w4).setCell ⟨h,4,none⟩ _ (.inl rfl)).alloc _)
      have hhs:h<w4.heap.size:=HS4.out.lt
      clear hb4 hk4 hBk4 hc4 hst4 HSP
      simp only[tokC,isFin]
      go_wp2_with fail
      refine HGO.mono ?_
      rintro x w6 ⟨rfl,hw6⟩
      subst hw6
      clear HGO
      have HLY:=play_copy ((w4.setCell ⟨h,4,none⟩ (.int .i64 (c4:Nat))).alloc (.cells #[.int .u8 0,.int .i64 (n:Nat),.int .i64 (far:Nat)] 33)) h most vl (.pointer (some ⟨b,0,none⟩)) (.slice aa bs.length capa) c4 e cur.out n far HS6.out (HR.out.si.row.kept (Kept.trans (H:=fun j=>j=r∨j=b∨j=h) HKB.out HKH.out (fun _ _ f=>by rcases f with f | f;exact .inl f;exact .inr (.inl f)) (fun _ _ f=>.inr (.inr f))) (fun j hj f=>by
       have:=HR.out.si.r2 j hj
       rcases f with rfl | rfl | rfl
       ·have:=HR.out.r5;omega
       ·omega
       ·have:=HR.out.si.r1;omega)) HR.out.si.neh HR.out.si.mo HR.out.si.ol hn3 hn258 hf1 hf4
      cases hly:layP most cur.out (.copy n far) with
      | error er=>
       rw[hly]at HLY
       have hne:=layP_ne hly
       have HE:Hid (stP (ofBytes bs) most cur=.error er):=hid (by rw[HSE.out];exact goP_err (by intro h9;cases h9) hly)
       clear hly HSE
       go_wp2_with fail
       refine HLY.mono ?_
       rintro x w7 ⟨rfl,her,hk7⟩
       have hed:((er:Int) != 0)=true:=by simp;omega
       have HK7:Hid (Same ((w4.setCell ⟨h,4,none⟩ (.int .i64 (c4:Nat))).alloc (.cells #[.int .u8 0,.int .i64 (n:Nat),.int .i64 (far:Nat)] 33)) w7):=hk7
       have HNE:Hid (er≠55):=hid (by omega)
       clear hk7 HLY her hne
       go_wp2_with fail
       rw[Exit.noGoto_ret]
       go_ret
       have hKA:Kept (fun j=>j=r∨j=b∨j=h) wr w7:=Kept.trans (Kept.trans (H:=fun j=>j=r∨j=b∨j=h) HKB.out HKH.out (fun _ _ f=>by rcases f with f | f;exact .inl f;exact .inr (.inl f)) (fun _ _ f=>.inr (.inr f))) HK7.out (fun _ _ f=>f) (fun _ _ f=>f.elim)
       exact⟨er,cur,_,_,_,_,_,rfl,HR.out.halts hb3 hKA (HS6.out.kept HK7.out (fun f=>f)) HC4.out HNE.out (HLD.out _ _ (.stop HE.out)) HMO.out (fun e0=>absurd (HE.out) (fun h9=>stP_ne (ofBytes_lt bs) HR.out.si.ok h9 e0))⟩
      | ok out=>
       rw[hly]at HLY
       have hlo:=layP_ok hly
       have HE:Hid (stP (ofBytes bs) most cur=.ok (⟨c4,out,some k'⟩,false)):=hid (by rw[HSE.out];exact goP_ok (by intro h9;cases h9) hly)
       clear hly HSE
       go_wp2_with fail
       refine HLY.mono ?_
       rintro x w7 ⟨rfl,⟨vl',hsm7,hrow7,hown7⟩,hk7⟩
       have HRN:Hid (∃ρ',RI w0 w7 ρ0 ρ' h r bx fx sr most e (.slice aa bs.length capa) bs ⟨c4,out,some k'⟩ vl' (.pointer (some ⟨b,0,none⟩))):=hid (HR.out.laid rfl hb3 HBK4.out HST4.out HKB.out HKH.out hsm7 hrow7 hown7 hk7 (hlo.2.1 HR.out.si.ol) ⟨by rw[ofBytes_length];exact HC4.out,hso.1⟩)
       have HMN:Hid (start.out.length≤out.length):=hid (Nat.le_trans HMO.out hlo.1)
       clear hsm7 hrow7 hown7 hk7 HLY hlo
       go_wp2_with fail
       go_roundg (gk-1)
       case measure=>omega
       case rel=>
        obtain⟨ρ',hr'⟩:=HRN.out
        refine⟨⟨c4,out,some k'⟩,ρ',vl',_,k',rfl,?_,by omega,hr',hid (HLD.out.next HE.out),HMN⟩
        have h1:ms L8 ⟨c4,out,some k'⟩=2*(L8-c4)+1:=rfl
        omega

end Go.Proofs.YtggcbnhckcenmaaGreatDoor
