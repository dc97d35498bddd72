/-
  Of the proof: parts ChO, ChP, ChQ, ChR, ChUp.
-/
import Derived.Maps.RangeWalk
import Derived.Test.YtcfociogljhbiaaGreatDoorJ16
import Derived.Test.YtcfociogljhbiaaGreatDoorJ15

namespace Go.Proofs.YtcfociogljhbiaaGreatDoor
open Go.RowKit Go.Maps Go.Sort

theorem rangesK{P:Program}{k:TypeId}{R:Value→Option (DataW Unit×List MemPlace)}{w w':World}{b r n:Nat}{D:DataW Unit}{left:Lit→Bool}{cnt:Nat}(h:w.ranges P k R b r n D left cnt){F:Nat→Prop}(hk:Kept F w w')(hb:¬F b)(hr:¬F r):w'.ranges P k R b r n D left cnt:=by
 obtain⟨es,clock,since,seen,c0,h1,h2,h3,h4,h5,h6⟩:=h
 exact⟨es,clock,since,seen,c0,by rw[hk.block b (Array.getElem?_eq_some_iff.1 h1).1 hb];exact h1,h2,h3,h4,by rw[hk.block r (Array.getElem?_eq_some_iff.1 h5).1 hr];exact h5,h6⟩

theorem keyN_inv{x:Value}{kl:Lit}(h:keyOf Tryz.prog 9 x=some kl):∃n:Nm,x=.string n.s∧kl=kN n:=by
 cases x<;>simp[keyOf,Tryz.underlying9,mapKey]at h
 rename_i s
 exact⟨⟨s,by first | exact h.1 | omega⟩,rfl,by unfold kN;first | exact h.2.symm | exact h.symm⟩

section
variable {κ:Type} [DecidableEq κ] {kl:κ→Lit}

theorem mpD_has(hK:KL kl){L:List (κ×Nat)}{s:κ}{y:DataW Unit}(h:∀z,(mpD kl L).atKey (kl s) z=y):∃f,getK s L=some f∧y=.lit (.int .i64 (f:Nat)):=by
 cases hg:getK s L with
 | none=>
  have h1:=h .nil
  have h2:=h (.lit (.int .i64 0))
  rw[mpD_at hK,hg]at h1 h2
  rw[←h1]at h2
  cases h2
 | some f=>
  have h1:=h .nil
  rw[mpD_at hK,hg]at h1
  exact⟨f,rfl,h1.symm⟩

theorem left_step(hK:KL kl)(left:Lit→Bool)(s t:κ):(left (kl t) && !(kl t).sameKey (kl s))=false↔left (kl t)=false∨t=s:=by
 rw[hK.same]
 by_cases e:t=s
 ·simp[e]
 ·simp[e]

end

section
variable {K N:Nat} {w:World} {p:Nat} {s:Cs} {ρ:Nat→Nat} {mb:Nat}

theorem Ck.setArc(h:Ck K N w p s ρ mb){a:Nat}(ha:ρ a=3){L':List (Nm×Nat)}(hsub:∀x∈L',x∈s.ar a)(hlen:L'.length≤(s.ar a).length){w':World}(hm:MpK 9 ptC kN w' a L')(hk:Kept (·=a) w w'):
  Ck K N w' p {s with ar:=fun x=>if x=a then L' else s.ar x} ρ mb:=by
 have hne:∀k,ρ k≠3→¬k=a:=fun k e e2=>e (by rw[e2];exact ha)
 have hmem:∀a' x,x∈(if a'=a then L' else s.ar a')→x∈s.ar a':=fun a' x hx=>by
  by_cases e:a'=a
  ·rw[if_pos e]at hx;rw[e];exact hsub x hx
  ·rwa [if_neg e]at hx
 refine {h with blk:=h.blk.kept hk (hne p (by rw[h.rp];decide)),bm:=h.bm.kept hk (hne mb (by rw[h.rm];decide)),am:=fun a' h'=>?_,cm:=fun c hc=>?_,ac:=fun a' h' x hx=>h.ac a' h' x (hmem a' x hx),injc:=fun a' h1 a'' h2 x hx y hy=>h.injc a' h1 a'' h2 x (hmem a' x hx) y (hmem a'' y hy),new:=fun k hk2=>⟨(h.new k hk2).1,Nat.lt_of_lt_of_le (h.new k hk2).2 hk.size⟩,lens:=⟨h.lens.1,fun a' h'=>?_,h.lens.2.2⟩}
 ·show MpK _ _ _ w' a' (if a'=a then L' else s.ar a')
  by_cases e:a'=a
  ·rw[if_pos e,e];exact hm
  ·rw[if_neg e];exact(h.am a' h').kept hk e
 ·obtain⟨v,h1,h2,h3⟩:=h.cm c hc
  exact⟨v,h1.kept hk (hne c (by rw[hc];decide)),h2.kept hk (fun k e=>hne k (by rw[h3 k e];omega)),h3⟩
 ·show(if a'=a then L' else s.ar a').length≤K
  have:=h.lens.2.1 a' h'
  by_cases e:a'=a
  ·rw[if_pos e];rw[e]at this;omega
  ·rw[if_neg e];exact this

theorem vers_del(h:Ck K N w p s ρ mb){b:Bx}{a:Nat}(hg:getK b s.bx=some a){n:Nm}(hn:vers s b n=[])(b':Bx)(n':Nm):
  vers {s with ar:=fun x=>if x=a then delK n (s.ar a)else s.ar x} b' n'=vers s b' n':=by
 unfold vers fndC at hn ⊢
 rw[hg]at hn
 change ((getK n (s.ar a)).map s.vr).getD []=[]at hn
 cases hg':getK b' s.bx with
 | none=>rfl
 | some a'=>
  show((getK n' (if a'=a then delK n (s.ar a)else s.ar a')).map s.vr).getD []=((getK n' (s.ar a')).map s.vr).getD []
  by_cases e:a'=a
  ·rw[if_pos e,getK_del (h.apa (h.ba _ (getK_mem hg))),e]
   by_cases en:n=n'
   ·rw[if_pos en,←en,hn];rfl
   ·rw[if_neg en]
  ·rw[if_neg e]

end

theorem ExtC.keptP{w w' w'':World}{ρ ρ':Nat→Nat}(h:ExtC w ρ ρ')(hk:Kept (fun k=>3≤ρ k) w w')(hk':Kept (fun k=>3≤ρ' k) w' w''):Kept (fun k=>3≤ρ k) w w'':=
 Kept.trans hk hk' (fun _ _ e=>e) (fun k hlt e=>by
  rcases h k with h1 | h1
  ·rw[←h1];exact e
  ·omega)

def ApA(K N:Nat)(w:World)(p:Nat)(s:Cs)(ρ:Nat→Nat)(mb a:Nat)(f:Int)(e:Ending)(w':World):Prop:=
 ∃k s' ρ',e=.returned (.int .i64 ((k:Nat):Int))∧Ck K N w' p s' ρ' mb∧s'.bx=s.bx∧s'.now=s.now∧s'.floor=s.floor∧(∀b n,vers s' b n=if getK b s.bx=some a then pruV (vers s b n) f else vers s b n)∧(∀m,TotIs (vers s) m→∃m',TotIs (vers s') m'∧m'+k=m)∧ExtC w ρ ρ'∧Kept (fun k=>3≤ρ k) w w'

theorem VerOk.prune{now:Int}{l:List Ver}(h:VerOk now l)(f:Int):VerOk now (pruV l f):=
 ⟨pruV_ris h.ris f,fun v hv=>h.low v (pruV_mem hv),fun v hv=>h.gone v (pruV_mem hv),fun v hv=>h.big v (pruV_mem hv)⟩

structure ApI(K N:Nat)(w w0:World)(p:Nat)(s:Cs)(ρ:Nat→Nat)(mb a r n0:Nat)(f:Int)(m:Nat)(wr:World)(U:Nat)(left:Lit→Bool)(cnt:Nat)(si:Cs)(ρi:Nat→Nat):Prop where
 rg:wr.ranges Tryz.prog 9 ptC a r n0 (mpD kN (si.ar a)) left cnt
 ck:Ck K N wr p si ρi mb
 bx:si.bx=s.bx
 now:si.now=s.now
 floor:si.floor=s.floor
 vs:∀b n,vers si b n=if getK b s.bx=some a∧left (kN n)=false then pruV (vers s b n) f else vers s b n
 tot:∃mi,TotIs (vers si) mi∧mi+U=m
 siz:w0.heap.size≤wr.heap.size
 ext:ExtC w0 ρ ρi
 kept:Kept (fun k=>3≤ρ k) w wr

theorem ApI.next{K N:Nat}{w w0:World}{p:Nat}{s:Cs}{ρ:Nat→Nat}{mb a r n0:Nat}{f:Int}{m:Nat}{wr:World}{U:Nat}{left:Lit→Bool}{cnt:Nat}{si:Cs}{ρi:Nat→Nat}(hi:ApI K N w w0 p s ρ mb a r n0 f m wr U left cnt si ρi)
  {b0:Bx} (hg0:getK b0 s.bx=some a) {n:Nm} (hl:left (kN n)=true) {s2:Cs} (hv:∀b' n',vers s2 b' n'=if b'=b0∧n'=n then pruV (vers si b0 n) f else vers si b' n'):
  (∀b n',vers s2 b n'=if getK b s.bx=some a∧(left (kN n') && !(kN n').sameKey (kN n))=false then pruV (vers s b n') f else vers s b n')∧∃mi,TotIs (vers s2) mi∧mi+(U+goV (vers si b0 n) f)=m:=by
 have h0:vers si b0 n=vers s b0 n:=by rw[hi.vs,if_neg (fun e=>by rw[hl]at e;cases e.2)]
 refine⟨fun b n'=>?_,?_⟩
 ·rw[hv]
  by_cases e:b=b0∧n'=n
  ·rw[if_pos e,e.1,e.2,if_pos ⟨hg0,(left_step klN left n n).2 (.inr rfl)⟩,h0]
  ·rw[if_neg e,hi.vs]
   by_cases eb:getK b s.bx=some a
   ·have hb:b=b0:=hi.ck.inja (b,a) (by rw[hi.bx];exact getK_mem eb) (b0,a) (by rw[hi.bx];exact getK_mem hg0) rfl
    have hn:¬n'=n:=fun e2=>e ⟨hb,e2⟩
    by_cases el:left (kN n')=false
    ·rw[if_pos ⟨eb,el⟩,if_pos ⟨eb,(left_step klN left n n').2 (.inl el)⟩]
    ·rw[if_neg (fun e2=>el e2.2),if_neg (fun e2=>((left_step klN left n n').1 e2.2).elim el hn)]
   ·rw[if_neg (fun e2=>eb e2.1),if_neg (fun e2=>eb e2.1)]
 ·obtain⟨mi,h1,h2⟩:=hi.tot
  obtain⟨m2,h3,h4⟩:=h1.upd b0 n _ hv
  have:=goV_len (vers si b0 n) f
  exact⟨m2,h3,by omega⟩

set_option maxRecDepth 100000 in
set_option maxHeartbeats 2000000 in
theorem aprune_any{K N:Nat}{w:World}{p:Nat}{s:Cs}{ρ:Nat→Nat}{mb:Nat}(h:Ck K N w p s ρ mb){b0:Bx}{a:Nat}(hg0:getK b0 s.bx=some a)(f:Int):
  Calls Tryz.prog 133 #[.map (some a),.int .i64 f] w fun e w'=>ApA K N w p s ρ mb a f e w':=by
 have ha3:=h.ba _ (getK_mem hg0)
 obtain⟨m,hm⟩:∃m,m=(s.bx.map (fun x=>sizA s x.2)).sum:=⟨_,rfl⟩
 have hmt:TotIs (vers s) m:=by rw[hm];exact h.tot
 have hml:m≤1000000000000000:=by rw[hm];exact tot_le h
 have HC:Hid (Ck K N w p s ρ mb):=h
 have HM:Hid (MpK 9 ptC kN w a (s.ar a)):=hid (h.am a ha3)
 have HT:Hid (TotIs (vers s) m∧getK b0 s.bx=some a∧ρ a=3):=hid ⟨hmt,hg0,ha3⟩
 clear h ha3 hm hmt hg0
 go_enter Tryz.func133,Tryz.ntmps133
 go_wp2_with (at_range;refine wpList_range_own _ rfl _ 176 rfl 9 143 nameKey Tryz.underlying176 ptC a (s.ar a).length (mpD kN (s.ar a)) rfl HM.out ?_;intro w0 hrg0 hg0 hs0)
 obtain⟨r,hr⟩:∃r,r=w.heap.size:=⟨_,rfl⟩
 rw[←hr]at hrg0 ⊢
 have HK0:Hid (Same w w0):=hid ((Kept.refl _ w).grown hg0 (fun k e=>by cases e))
 have HRR:Hid (r=w.heap.size∧r<w0.heap.size∧ρ r=0):=hid ⟨hr,hrg0.lt,HC.out.zero (by omega)⟩
 obtain⟨K0,hK0⟩:∃k,k=Maps.size (mpD kN (s.ar a)):=⟨_,rfl⟩
 have HI0:Hid (ApI K N w w0 p s ρ mb a r (s.ar a).length f m w0 0 (Maps.has (mpD kN (s.ar a))) K0 s ρ):=hid
  {rg:=by rw[hK0];exact hrg0
   ck:=HC.out.same HK0.out
   bx:=rfl,now:=rfl,floor:=rfl
   vs:=fun b n=>by
    split
    ·rename_i e
     have:vers s b n=[]:=by
      unfold vers fndC
      rw[e.1]
      show((getK n (s.ar a)).map s.vr).getD []=[]
      cases hn:getK n (s.ar a) with
      | none=>rfl
      | some c=>have:=has_mp klN (s.ar a) _ (getK_mem hn);rw[this]at e;cases e.2
     rw[this];rfl
    ·rfl
   tot:=⟨m,HT.out.1,by omega⟩
   siz:=Nat.le_refl _
   ext:=ExtC.refl _ _
   kept:=HK0.out.mono (fun _ _ f=>f.elim)}
 clear hrg0 hg0 hs0 hr hK0
 go_frame
 go_loopg [5] K0 (fun q z5 wr=>∃(U:Nat) (left:Lit→Bool) (cnt:Nat) (si:Cs) (ρi:Nat→Nat),z5=.int .i64 (U:Nat)∧cnt≤q∧U≤m∧Hid (ApI K N w w0 p s ρ mb a r (s.ar a).length f m wr U left cnt si ρi))
 case atStart=>exact⟨0,_,_,s,ρ,rfl,Nat.le_refl _,Nat.zero_le _,HI0⟩
 case round=>
  obtain⟨U,left,cnt,si,ρi,rfl,hcnt,hUm,HI⟩:=hrel
  go_wp2_with (at_next;refine wpList_next_ranges _ rfl (.tmp 9) rfl 9 nameKey ptC (fun x:Value=>x) (fun x:Value=>x) (fun key kl _=>⟨key,rfl⟩) (fun v y _=>⟨v,rfl⟩) a r (s.ar a).length (mpD kN (si.ar a)) left cnt rfl HI.out.rg ?_ ?_)
  ·intro hc0 hl0
   have HE:Hid (ApA K N w p s ρ mb a f (.returned (.int .i64 (U:Nat))) wr):=hid (by
    have hi:=HI.out
    refine⟨U,si,ρi,rfl,hi.ck,hi.bx,hi.now,hi.floor,fun b n=>?_,fun m' hm'=>?_,hi.ext.low HK0.out.size,hi.kept⟩
    ·rw[hi.vs b n]
     by_cases e:getK b s.bx=some a
     ·rw[if_pos ⟨e,hl0 _⟩,if_pos e]
     ·rw[if_neg (fun e2=>e e2.1),if_neg e]
    ·obtain⟨mi,h1,h2⟩:=hi.tot
     exact⟨mi,h1,by rw[h2];exact HT.out.1.det hm'⟩)
   clear hc0 hl0
   go_wp2_with fail
   go_ret
   exact HE.out
  ·intro x c kl y1 y2 w2 cnt2 hkey hlx hv hat hrg2 hlt hg2 hs2 hen
   obtain⟨n,rfl,rfl⟩:=keyN_inv hkey
   obtain⟨c0,hgn,hy⟩:=mpD_has klN hat
   obtain rfl:c=.pointer (some ⟨c0,0,none⟩):=rdP.inv _ c0 y2 (by rw[hv,←hy])
   have hi:=HI.out
   have ha3i:ρi a=3:=by rcases hi.ext a with e | e;rw[e];exact HT.out.2.2;have:=HT.out.2.2;omega
   have hrz:ρi r=0:=hi.ext.zero HRR.out.2.1 HRR.out.2.2
   have hk2:Kept (·=r) wr w2:=(Kept.refl _ wr).grown hg2 (fun k e=>.inl (by simpa using e.symm))
   have hck2:Ck K N w2 p si ρi mb:=hi.ck.kept hk2 (fun k e=>by rw[e];exact hrz)
   have hc4:ρi c0=4:=hi.ck.ac a ha3i _ (getK_mem hgn)
   have hf0:fndC si b0 n=some c0:=by unfold fndC;rw[hi.bx,HT.out.2.1];exact hgn
   have HPR:=cprune_any (hck2.cm c0 hc4) (hck2.okv c0 hc4).ris (Nat.le_trans (hck2.lens.2.2 c0 hc4) hck2.big) (by rw[hc4];omega) f
   have hvv:vers si b0 n=si.vr c0:=by unfold vers;rw[hf0];rfl
   rw[←hvv]at HPR
   obtain⟨g,hg⟩:∃g,g=goV (vers si b0 n) f:=⟨_,rfl⟩
   rw[←hg]at HPR
   have hnx:∀s2:Cs,(∀b' n',vers s2 b' n'=if b'=b0∧n'=n then pruV (vers si b0 n) f else vers si b' n')→_:=fun s2 hv=>hi.next HT.out.2.1 hlx hv
   have HNX:=hid hnx
   have hgU:U+g≤m:=by
    obtain⟨mi,_,h2⟩:=(hi.next HT.out.2.1 hlx (fun b' n'=>vers_set hi.ck hf0 (pruV (vers si b0 n) f) b' n')).2
    rw[←hg]at h2
    omega
   obtain⟨U2,hU2⟩:∃u,u=U+g:=⟨_,rfl⟩
   have q1:(U:Int)+(g:Int)=(U2:Int):=by omega
   have q1w:IntKind.i64.wrap (U2:Int)=(U2:Int):=by rw[IntKind.wrap_i64];omega
   have HU2:Hid (U2=U+g∧U2≤m∧g=goV (vers si b0 n) f):=hid ⟨hU2,by omega,hg⟩
   have HQ:Hid (ρi a=3∧ρi r=0∧Kept (·=r) wr w2∧Ck K N w2 p si ρi mb∧ρi c0=4∧fndC si b0 n=some c0∧vers si b0 n=si.vr c0∧cnt2<cnt∧w2.ranges Tryz.prog 9 ptC a r (s.ar a).length (mpD kN (si.ar a)) (fun z=>left z && !z.sameKey (kN n)) cnt2):=hid ⟨ha3i,hrz,hk2,hck2,hc4,hf0,hvv,hlt,hrg2⟩
   clear hkey hlx hv hat hrg2 hlt hg2 hs2 hy hgn hi ha3i hrz hk2 hck2 hc4 hf0 hvv hg hnx hgU hU2
   go_wp2_with fail
   refine HPR.mono ?_
   rintro e w3 ⟨rfl,hB⟩
   clear HPR
   obtain⟨v,hb3,hrow3,hown3,hk3⟩:=id hB
   obtain⟨ao,cap,hv3,_⟩:=hrow3.shape
   obtain⟨Ln,hLn⟩:∃x,x=(pruV (vers si b0 n) f).length:=⟨_,rfl⟩
   rw[←hLn]at hv3
   subst hv3
   have d3:w3.cell? ⟨c0,0,none⟩=some (.slice ao Ln cap):=hb3.cell 0
   have hq:=HQ.out
   have hvo:VerOk si.now (pruV (vers si b0 n) f):=by rw[hq.2.2.2.2.2.2.1];exact(hq.2.2.2.1.okv c0 hq.2.2.2.2.1).prune f
   obtain⟨ρ2,hck3,hext3,hkp3⟩:=hq.2.2.2.1.setChain hq.2.2.2.2.1 hB hvo (by rw[hq.2.2.2.2.2.2.1];exact Nat.le_trans (pruV_len _ _) (hq.2.2.2.1.lens.2.2 c0 hq.2.2.2.2.1))
   have hvs2:=fun b' n'=>vers_set hq.2.2.2.1 hq.2.2.2.2.2.1 (pruV (vers si b0 n) f) b' n'
   obtain⟨s2,hs2⟩:∃x:Cs,x={si with vr:=fun x=>if x=c0 then pruV (vers si b0 n) f else si.vr x}:=⟨_,rfl⟩
   rw[←hs2]at hck3
   have hrg3:w3.ranges Tryz.prog 9 ptC a r (s.ar a).length (mpD kN (s2.ar a)) (fun z=>left z && !z.sameKey (kN n)) cnt2:=by
    rw[hs2]
    refine rangesK hq.2.2.2.2.2.2.2.2 hk3 (fun e=>?_) (fun e=>?_)
    ·rcases e with e | e
     ·have h1:=hq.1;rw[e,hq.2.2.2.2.1]at h1;cases h1
     ·rw[hq.1]at e;omega
    ·rcases e with e | e
     ·have h1:=hq.2.1;rw[e,hq.2.2.2.2.1]at h1;cases h1
     ·rw[hq.2.1]at e;omega
   have HI3:Hid (ApI K N w w0 p s ρ mb a r (s.ar a).length f m w3 U2 (fun z=>left z && !z.sameKey (kN n)) cnt2 s2 ρ2∧(Ln=0→vers s2 b0 n=[])∧ρ2 a=3):=hid (by
    have hi:=HI.out
    have hvs3:∀b' n',vers s2 b' n'=if b'=b0∧n'=n then pruV (vers si b0 n) f else vers si b' n':=fun b' n'=>by rw[hs2];exact hvs2 b' n'
    obtain⟨h1,mi,h2,h3⟩:=HNX.out s2 hvs3
    have hsz:wr.heap.size≤w2.heap.size:=hq.2.2.1.size
    refine⟨{rg:=hrg3,ck:=hck3,bx:=by rw[hs2];exact hi.bx,now:=by rw[hs2];exact hi.now,floor:=by rw[hs2];exact hi.floor,vs:=h1,tot:=⟨mi,h2,by rw[HU2.out.1,HU2.out.2.2];exact h3⟩,siz:=?_,ext:=hi.ext.trans hext3 ?_,kept:=?_},fun e=>?_,?_⟩
    ·exact Nat.le_trans hi.siz (Nat.le_trans hsz hkp3.size)
    ·exact Nat.le_trans hi.siz hsz
    ·have hk2:Kept (fun k=>3≤ρ k) w w2:=Kept.trans hi.kept hq.2.2.1 (fun _ _ e=>e) (fun k hlt e=>by have:=HRR.out.1;omega)
     refine(hi.ext.low HK0.out.size).keptP hk2 (hk3.mono (fun k _ e=>?_))
     rcases e with e | e
     ·rw[e,hq.2.2.2.2.1];decide
     ·rw[e];omega
    ·rw[hvs3,if_pos ⟨rfl,rfl⟩]
     exact List.eq_nil_of_length_eq_zero (by rw[←hLn];exact e)
    ·rcases hext3 a with e | e
     ·rw[e];exact hq.1
     ·rw[hq.1]at e;omega)
   clear hB hb3 hrow3 hown3 hk3 hLn hq hvo hck3 hext3 hkp3 hvs2 hs2 hrg3
   by_cases hz:Ln=0
   ·subst hz
    obtain⟨w4,cnt4,hdel,hrg4,hle4,hturn⟩:=HI3.out.1.rg.drop nameKey Tryz.underlying176 (keyN n) 0
    rw[Maps.strike_twice,mpD_del klN]at hrg4
    have HI4:Hid (ApI K N w w0 p s ρ mb a r (s.ar a).length f m w4 U2 (fun z=>left z && !z.sameKey (kN n)) cnt4 {s2 with ar:=fun x=>if x=a then delK n (s2.ar a)else s2.ar x} ρ2∧cnt4≤cnt2):=hid (by
     have h3:=HI3.out.1
     have hk4:Kept (·=a) w3 w4:=turnedK hturn
     have hg9:getK b0 s2.bx=some a:=by rw[h3.bx];exact HT.out.2.1
     refine⟨{rg:=by simp only[if_true];exact hrg4,ck:=h3.ck.setArc HI3.out.2.2 (fun x hx=>(delK_mem.1 hx).1) (delK_len _ _) (MpK.tight hrg4.owns) hk4,bx:=h3.bx,now:=h3.now,floor:=h3.floor,vs:=fun b n'=>?_,tot:=?_,siz:=Nat.le_trans h3.siz hk4.size,ext:=h3.ext,kept:=?_},hle4⟩
     ·rw[vers_del h3.ck hg9 (HI3.out.2.1 rfl)];exact h3.vs b n'
     ·obtain⟨mi,h1,h2⟩:=h3.tot
      exact⟨mi,h1.same (fun b n'=>vers_del h3.ck hg9 (HI3.out.2.1 rfl) b n'),h2⟩
     ·exact Kept.trans h3.kept hk4 (fun _ _ e=>e) (fun k _ e=>by rw[e,HT.out.2.2];decide))
    have hdel2:(Builtin.delete_ #[176,9] 0 #[.map (some a),.string n.s]).run Tryz.prog w3=.ok (.tuple #[]) w4:=hdel
    clear hdel hrg4 hle4 hturn
    go_wp2_with fail
    go_roundg (gk-1)
    case measure=>have:=HQ.out.2.2.2.2.2.2.2.1;omega
    case rel=>exact⟨U2,_,cnt4,_,ρ2,by go_num,by have:=HQ.out.2.2.2.2.2.2.2.1;have:=HI4.out.2;omega,HU2.out.2.1,hid HI4.out.1⟩
   ·have bz:((Ln:Int)==0)=false:=by simp;omega
    go_wp2_with fail
    go_roundg (gk-1)
    case measure=>have:=HQ.out.2.2.2.2.2.2.2.1;omega
    case rel=>exact⟨U2,_,cnt2,s2,ρ2,by go_num,by have:=HQ.out.2.2.2.2.2.2.2.1;omega,HU2.out.2.1,hid HI3.out.1⟩

end Go.Proofs.YtcfociogljhbiaaGreatDoor

namespace Go.Proofs.YtcfociogljhbiaaGreatDoor
open Go.RowKit Go.Maps Go.Sort

theorem keyB_inv{x:Value}{kl:Lit}(h:keyOf Tryz.prog 128 x=some kl):∃b:Bx,x=.agg #[.string b.tn,.string b.ar]∧kl=kB b:=by
 have h0:=h
 have hs0:0<Tryz.prog.types.size:=by decide +kernel
 have hsz:∃m,Tryz.prog.types.size=m+1:=⟨Tryz.prog.types.size-1,by omega⟩
 have hkt:Tryz.prog.keyType 128=true:=by kernel_rfl
 have hc:Tryz.prog.cellsOf 128=2:=by kernel_rfl
 have hc1:Tryz.prog.cellsOf 9=1:=by kernel_rfl
 obtain⟨m,hm⟩:=hsz
 unfold keyOf at h
 simp only[Tryz.underlying128]at h
 split at h
 ·rename_i hf
  obtain⟨ls,h1,_⟩:=Option.map_eq_some_iff.1 h
  rw[hkt,Bool.true_and]at hf
  cases x with
  | agg cs=>
   rw[hm]at h1
   unfold Program.keyLits at h1
   simp only[Tryz.underlying128,Value.cells]at h1
   split at h1
   ·rename_i hl
    rw[hc]at hl
    obtain⟨a,b,e⟩:∃a b,cs.toList=[a,b]:=by
     have h2:=hl.1
     generalize cs.toList=l at h2
     rcases l with _ | ⟨a,_ | ⟨b,_ | ⟨c,r⟩⟩⟩
     ·simp at h2
     ·simp at h2
     ·exact⟨a,b,rfl⟩
     ·simp at h2
    obtain rfl:cs=#[a,b]:=Array.toList_inj.1 e
    obtain⟨lls,h2,_⟩:=Option.map_eq_some_iff.1 h1
    simp only[List.mapM_cons,List.mapM_nil,bind,Option.bind_eq_some_iff,hc1]at h2
    obtain⟨l1,g1,_,⟨l2,g2,_⟩,_⟩:=h2
    obtain⟨s1,e1,_⟩:=keyLits_string' Tryz.underlying9 g1
    obtain⟨s2,e2,_⟩:=keyLits_string' Tryz.underlying9 g2
    have e3:a=.string s1:=by simpa using e1
    have e4:b=.string s2:=by simpa using e2
    subst e3 e4
    have q1:s1.size≤maxLen:=by
     by_cases e:s1.size≤maxLen
     ·exact e
     ·simp[Program.keyLits,Tryz.underlying9,e]at g1
    have q2:s2.size≤maxLen:=by
     by_cases e:s2.size≤maxLen
     ·exact e
     ·simp[Program.keyLits,Tryz.underlying9,e]at g2
    refine⟨⟨s1,s2,q1,q2⟩,rfl,?_⟩
    have h3:=keyB ⟨s1,s2,q1,q2⟩
    unfold bxV at h3
    simp only at h3
    rw[h0]at h3
    exact Option.some.inj h3
   ·cases h1
  | _=>simp[Value.formed,Tryz.underlying128]at hf
 ·cases h

section
variable {K N:Nat} {w:World} {p:Nat} {s:Cs} {ρ:Nat→Nat} {mb:Nat}

theorem Ck.setFloor(h:Ck K N w p s ρ mb){t:Int}(h0:0≤t)(ht:t≤s.now){w':World}(hb:Blk w' p #[.int .i64 s.now,.int .i64 t,.map (some mb)] 142)(hk:Kept (·=p) w w'):Ck K N w' p {s with floor:=t} ρ mb:=by
 have hne:∀k,ρ k≠1→¬k=p:=fun k e e2=>e (by rw[e2];exact h.rp)
 refine {h with blk:=hb,bm:=h.bm.kept hk (hne mb (by rw[h.rm];decide)),am:=fun a ha=>(h.am a ha).kept hk (hne a (by rw[ha];decide)),cm:=fun c hc=>?_,new:=fun k hk2=>⟨(h.new k hk2).1,Nat.lt_of_lt_of_le (h.new k hk2).2 hk.size⟩,nums:=⟨h0,ht,h.nums.2.2⟩}
 obtain⟨v,h1,h2,h3⟩:=h.cm c hc
 exact⟨v,h1.kept hk (hne c (by rw[hc];decide)),h2.kept hk (fun k e=>hne k (by rw[h3 k e];omega)),h3⟩

theorem Ck.setBx(h:Ck K N w p s ρ mb){L':List (Bx×Nat)}(hsub:∀x∈L',x∈s.bx)(hlen:L'.length≤s.bx.length){w':World}(hm:MpK 128 mpC kB w' mb L')(hk:Kept (·=mb) w w'):Ck K N w' p {s with bx:=L'} ρ mb:=by
 have hne:∀k,ρ k≠2→¬k=mb:=fun k e e2=>e (by rw[e2];exact h.rm)
 refine {h with blk:=h.blk.kept hk (hne p (by rw[h.rp];decide)),bm:=hm,am:=fun a ha=>(h.am a ha).kept hk (hne a (by rw[ha];decide)),cm:=fun c hc=>?_,ba:=fun x hx=>h.ba x (hsub x hx),inja:=fun x hx y hy=>h.inja x (hsub x hx) y (hsub y hy),new:=fun k hk2=>⟨(h.new k hk2).1,Nat.lt_of_lt_of_le (h.new k hk2).2 hk.size⟩,lens:=⟨Nat.le_trans hlen h.lens.1,h.lens.2⟩}
 obtain⟨v,h1,h2,h3⟩:=h.cm c hc
 exact⟨v,h1.kept hk (hne c (by rw[hc];decide)),h2.kept hk (fun k e=>hne k (by rw[h3 k e];omega)),h3⟩

theorem vers_delB(h:Ck K N w p s ρ mb){b:Bx}{a:Nat}(hg:getK b s.bx=some a)(hn:s.ar a=[])(b':Bx)(n':Nm):vers {s with bx:=delK b s.bx} b' n'=vers s b' n':=by
 unfold vers fndC
 simp only
 rw[getK_del h.apb]
 by_cases e:b=b'
 ·rw[if_pos e,←e,hg]
  show _=((getK n' (s.ar a)).map s.vr).getD []
  rw[hn]
  rfl
 ·rw[if_neg e]

end

def PrA(K N:Nat)(w:World)(p:Nat)(s:Cs)(ρ:Nat→Nat)(mb:Nat)(f:Int)(e:Ending)(w':World):Prop:=
 ∃k s' ρ',e=.returned (.int .i64 ((k:Nat):Int))∧Ck K N w' p s' ρ' mb∧s'.now=s.now∧s'.floor=f∧(∀b n,vers s' b n=pruV (vers s b n) f)∧(∀m,TotIs (vers s) m→∃m',TotIs (vers s') m'∧m'+k=m)∧ExtC w ρ ρ'∧Kept (fun k=>ρ k≠0) w w'

structure PrI(K N:Nat)(w w0:World)(p:Nat)(s:Cs)(ρ:Nat→Nat)(mb r n0:Nat)(f:Int)(m:Nat)(wr:World)(U:Nat)(left:Lit→Bool)(cnt:Nat)(si:Cs)(ρi:Nat→Nat):Prop where
 rg:wr.ranges Tryz.prog 128 mpC mb r n0 (mpD kB si.bx) left cnt
 ck:Ck K N wr p si ρi mb
 now:si.now=s.now
 floor:si.floor=f
 vs:∀b n,vers si b n=if left (kB b)=false then pruV (vers s b n) f else vers s b n
 tot:∃mi,TotIs (vers si) mi∧mi+U=m
 siz:w0.heap.size≤wr.heap.size
 ext:ExtC w0 ρ ρi
 kept:Kept (fun k=>ρ k≠0) w wr

set_option maxHeartbeats 400000 in
theorem prune_old{K N:Nat}{w:World}{p:Nat}{s:Cs}{ρ:Nat→Nat}{mb:Nat}(h:Ck K N w p s ρ mb)(t:Int)(ht:t≤s.floor):Calls Tryz.prog 95 #[.pointer (some ⟨p,0,none⟩),.int .i64 t] w fun e w'=>e=.returned (.int .i64 0)∧Same w w':=by
 have p1:w.cell? ⟨p,1,none⟩=some (.int .i64 s.floor):=h.blk.cell 1
 have b1:decide (t≤s.floor)=true:=by simpa using ht
 clear h ht
 go_enter Tryz.func95,Tryz.ntmps95
 go_wp2_with fail
 go_ret
 exact⟨rfl,Kept.refl _ _⟩

theorem PrI.next{K N:Nat}{w w0:World}{p:Nat}{s:Cs}{ρ:Nat→Nat}{mb r n0:Nat}{f:Int}{m:Nat}{wr:World}{U:Nat}{left:Lit→Bool}{cnt:Nat}{si:Cs}{ρi:Nat→Nat}(hi:PrI K N w w0 p s ρ mb r n0 f m wr U left cnt si ρi)
  {b0:Bx} {a:Nat} (hg0:getK b0 si.bx=some a) (hl:left (kB b0)=true) {s2:Cs} (hv:∀b n,vers s2 b n=if getK b si.bx=some a then pruV (vers si b n) f else vers si b n):
  ∀b n,vers s2 b n=if (left (kB b) && !(kB b).sameKey (kB b0))=false then pruV (vers s b n) f else vers s b n:=by
 intro b n
 rw[hv,hi.vs]
 by_cases e:b=b0
 ·rw[e,if_pos hg0,if_pos ((left_step klB left b0 b0).2 (.inr rfl)),if_neg (by rw[hl];decide)]
 ·have hne:¬getK b si.bx=some a:=fun e2=>e (hi.ck.inja (b,a) (getK_mem e2) (b0,a) (getK_mem hg0) rfl)
  rw[if_neg hne]
  by_cases el:left (kB b)=false
  ·rw[if_pos el,if_pos ((left_step klB left b0 b).2 (.inl el))]
  ·rw[if_neg el,if_neg (fun e2=>((left_step klB left b0 b).1 e2).elim el e)]

set_option maxRecDepth 100000 in
set_option maxHeartbeats 2000000 in
theorem prune_new{K N:Nat}{w:World}{p:Nat}{s:Cs}{ρ:Nat→Nat}{mb:Nat}(h:Ck K N w p s ρ mb)(t:Int)(ht:s.floor<t):
  Calls Tryz.prog 95 #[.pointer (some ⟨p,0,none⟩),.int .i64 t] w fun e w'=>PrA K N w p s ρ mb (min t s.now) e w':=by
 have p0:w.cell? ⟨p,0,none⟩=some (.int .i64 s.now):=h.blk.cell 0
 have p1:w.cell? ⟨p,1,none⟩=some (.int .i64 s.floor):=h.blk.cell 1
 have p2:w.cell? ⟨p,2,none⟩=some (.map (some mb)):=h.blk.cell 2
 have z1:=h.blk.frozen 1
 have b1:decide (t≤s.floor)=false:=by simp;omega
 obtain⟨nw,hnw⟩:∃x,x=s.now:=⟨_,rfl⟩
 obtain⟨f,hf⟩:∃x,x=min t nw:=⟨_,rfl⟩
 obtain⟨wA,hwA⟩:∃W,W=w.setCell ⟨p,1,none⟩ (.int .i64 (min t nw)):=⟨_,rfl⟩
 have hkA:Kept (·=p) w wA:=by rw[hwA];exact(Kept.refl (·=p) w).setCell _ _ (.inl rfl)
 have hbA:Blk wA p #[.int .i64 s.now,.int .i64 f,.map (some mb)] 142:=by
  rw[hwA,hf]
  have h9:=h.blk.set 1 (.int .i64 (min t nw))
  simpa using h9
 have hCA:Ck K N wA p {s with floor:=f} ρ mb:=h.setFloor (by have:=h.nums;omega) (by omega) hbA hkA
 obtain⟨m,hm⟩:∃m,m=(s.bx.map (fun x=>sizA s x.2)).sum:=⟨_,rfl⟩
 have hmt:TotIs (vers s) m:=by rw[hm];exact h.tot
 have hml:m≤1000000000000000:=by rw[hm];exact tot_le h
 have HCA:Hid (Ck K N wA p {s with floor:=f} ρ mb):=hCA
 have HC:Hid (Ck K N w p s ρ mb):=h
 have HKA:Hid (Kept (·=p) w wA):=hkA
 have HM:Hid (MpK 128 mpC kB wA mb s.bx):=hid hCA.bm
 have HT:Hid (TotIs (vers s) m):=hmt
 have p2A:(w.setCell ⟨p,1,none⟩ (.int .i64 (min t nw))).cell? ⟨p,2,none⟩=some (.map (some mb)):=by rw[←hwA];exact hCA.blk.cell 2
 rw[←hnw]at p0 ⊢
 rw[←hf]
 have HF:Hid (f=min t nw):=hf
 clear h hm hmt hkA hbA hCA hnw ht hf
 go_enter Tryz.func95,Tryz.ntmps95
 go_wp2_with (at_range;rw[←hwA];refine wpList_range_own _ rfl _ 140 rfl 128 176 boxKey Tryz.underlying140 mpC mb s.bx.length (mpD kB s.bx) rfl HM.out ?_;intro w0 hrg0 hg0 hs0)
 obtain⟨r,hr⟩:∃r,r=wA.heap.size:=⟨_,rfl⟩
 rw[←hr]at hrg0 ⊢
 have HK0:Hid (Same wA w0):=hid ((Kept.refl _ wA).grown hg0 (fun k e=>by cases e))
 have HRR:Hid (r=wA.heap.size∧r<w0.heap.size∧ρ r=0∧w.heap.size≤wA.heap.size):=hid ⟨hr,hrg0.lt,HCA.out.zero (by omega),HKA.out.size⟩
 obtain⟨K0,hK0⟩:∃k,k=Maps.size (mpD kB s.bx):=⟨_,rfl⟩
 have HI0:Hid (PrI K N w w0 p s ρ mb r s.bx.length f m w0 0 (Maps.has (mpD kB s.bx)) K0 {s with floor:=f} ρ):=hid
  {rg:=by rw[hK0];exact hrg0
   ck:=HCA.out.same HK0.out
   now:=rfl,floor:=rfl
   vs:=fun b n=>by
    split
    ·rename_i e
     have:vers s b n=[]:=by
      unfold vers fndC
      cases hn:getK b s.bx with
      | none=>rfl
      | some c=>have:=has_mp klB s.bx _ (getK_mem hn);rw[this]at e;cases e
     show vers s b n=_
     rw[this];rfl
    ·rfl
   tot:=⟨m,HT.out,by omega⟩
   siz:=Nat.le_refl _
   ext:=ExtC.refl _ _
   kept:=Kept.trans HKA.out HK0.out (fun k _ e=>by rw[e,HC.out.rp];decide) (fun _ _ f=>f.elim)}
 clear hrg0 hg0 hs0 hr hK0 p0 p1 p2 p2A z1 hwA
 go_frame
 go_loopg [5] K0 (fun q z5 wr=>∃(U:Nat) (left:Lit→Bool) (cnt:Nat) (si:Cs) (ρi:Nat→Nat),z5=.int .i64 (U:Nat)∧cnt≤q∧U≤m∧Hid (PrI K N w w0 p s ρ mb r s.bx.length f m wr U left cnt si ρi))
 case atStart=>exact⟨0,_,_,{s with floor:=f},ρ,rfl,Nat.le_refl _,Nat.zero_le _,HI0⟩
 case round=>
  obtain⟨U,left,cnt,si,ρi,rfl,hcnt,hUm,HI⟩:=hrel
  go_wp2_with (at_next;refine wpList_next_ranges _ rfl (.tmp 31) rfl 128 boxKey mpC (fun x:Value=>x) (fun x:Value=>x) (fun key kl _=>⟨key,rfl⟩) (fun v y _=>⟨v,rfl⟩) mb r s.bx.length (mpD kB si.bx) left cnt rfl HI.out.rg ?_ ?_)
  ·intro hc0 hl0
   have HE:Hid (PrA K N w p s ρ mb f (.returned (.int .i64 (U:Nat))) wr):=hid (by
    have hi:=HI.out
    refine⟨U,si,ρi,rfl,hi.ck,hi.now,hi.floor,fun b n=>?_,fun m' hm'=>?_,hi.ext.low (Nat.le_trans HRR.out.2.2.2 HK0.out.size),hi.kept⟩
    ·rw[hi.vs b n,if_pos (hl0 _)]
    ·obtain⟨mi,h1,h2⟩:=hi.tot
     exact⟨mi,h1,by rw[h2];exact HT.out.det hm'⟩)
   clear hc0 hl0
   go_wp2_with fail
   go_ret
   exact HE.out
  ·intro x c kl y1 y2 w2 cnt2 hkey hlx hv hat hrg2 hlt hg2 hs2 hen
   obtain⟨b0,rfl,rfl⟩:=keyB_inv hkey
   obtain⟨a,hgn,hy⟩:=mpD_has klB hat
   obtain rfl:c=.map (some a):=rdM.inv _ a y2 (by rw[hv,←hy])
   have hi:=HI.out
   have hrz:ρi r=0:=hi.ext.zero HRR.out.2.1 HRR.out.2.2.1
   have hk2:Kept (·=r) wr w2:=(Kept.refl _ wr).grown hg2 (fun k e=>.inl (by simpa using e.symm))
   obtain⟨w3,hw3⟩:∃W,W=w2.alloc (.cells #[.string b0.tn,.string b0.ar] 128):=⟨_,rfl⟩
   have hk3:Same w2 w3:=by rw[hw3];exact(Kept.refl _ _).alloc _
   obtain⟨xb,hxb⟩:∃x,x=w2.heap.size:=⟨_,rfl⟩
   have hbx:Blk w3 xb #[.string b0.tn,.string b0.ar] 128:=by rw[hw3,hxb];exact Blk.new w2 _ _
   have hck3:Ck K N w3 p si ρi mb:=(hi.ck.kept hk2 (fun k e=>by rw[e];exact hrz)).same hk3
   have hrg3:=rangesK hrg2 hk3 (fun f=>f) (fun f=>f)
   have HAP:=aprune_any hck3 hgn f
   have p1:w3.cell? ⟨p,1,none⟩=some (.int .i64 f):=by rw[←hi.floor];exact hck3.blk.cell 1
   have p1':(w2.alloc (.cells #[.string b0.tn,.string b0.ar] 128)).cell? ⟨p,1,none⟩=some (.int .i64 f):=by rw[←hw3];exact p1
   have HQ:Hid (ρi r=0∧Kept (·=r) wr w2∧Same w2 w3∧Ck K N w3 p si ρi mb∧getK b0 si.bx=some a∧left (kB b0)=true∧cnt2<cnt∧w3.ranges Tryz.prog 128 mpC mb r s.bx.length (mpD kB si.bx) (fun z=>left z && !z.sameKey (kB b0)) cnt2∧Blk w3 xb #[.string b0.tn,.string b0.ar] 128∧xb=w2.heap.size):=hid ⟨hrz,hk2,hk3,hck3,hgn,hlx,hlt,hrg3,hbx,hxb⟩
   clear hkey hlx hv hat hrg2 hlt hg2 hs2 hy hgn hi hrz hk2 hk3 hbx hck3 hrg3
   go_wp2_with fail
   rw[←hw3,←hxb]
   clear p1' p1 hw3 hxb
   refine HAP.mono ?_
   rintro e w4 ⟨g,s2,ρ2,rfl,hck4,hbx4,hnow4,hfl4,hvs4,htot4,hext4,hkp4⟩
   clear HAP
   have hq:=HQ.out
   have hi:=HI.out
   have hmid:∃mi,TotIs (vers s2) mi∧mi+(U+g)=m:=by
    obtain⟨mi,h1,h2⟩:=hi.tot
    obtain⟨m',h3,h4⟩:=htot4 mi h1
    exact⟨m',h3,by omega⟩
   obtain⟨U2,hU2⟩:∃u,u=U+g:=⟨_,rfl⟩
   have hU2m:U2≤m:=by obtain⟨mi,_,h2⟩:=hmid;omega
   have q1:(U:Int)+(g:Int)=(U2:Int):=by omega
   have q1w:IntKind.i64.wrap (U2:Int)=(U2:Int):=by rw[IntKind.wrap_i64];omega
   have s23:w2.heap.size≤w3.heap.size:=hq.2.2.1.size
   have sr2:wr.heap.size≤w2.heap.size:=hq.2.1.size
   have hxl:xb<w3.heap.size:=hq.2.2.2.2.2.2.2.2.1.lt
   have hxz:ρi xb=0:=(hi.ck.kept hq.2.1 (fun k e=>by rw[e];exact hq.1)).zero (by rw[hq.2.2.2.2.2.2.2.2.2];exact Nat.le_refl _)
   have hrg4:w4.ranges Tryz.prog 128 mpC mb r s.bx.length (mpD kB s2.bx) (fun z=>left z && !z.sameKey (kB b0)) cnt2:=by
    rw[hbx4]
    exact rangesK hq.2.2.2.2.2.2.2.1 hkp4 (fun e=>by rw[hq.2.2.2.1.rm]at e;omega) (fun e=>by rw[hq.1]at e;omega)
   have hx4:Blk w4 xb #[.string b0.tn,.string b0.ar] 128:=hq.2.2.2.2.2.2.2.2.1.kept hkp4 (fun e=>by rw[hxz]at e;omega)
   have hr3:wr.heap.size≤w3.heap.size:=Nat.le_trans sr2 s23
   have HI4:Hid (PrI K N w w0 p s ρ mb r s.bx.length f m w4 U2 (fun z=>left z && !z.sameKey (kB b0)) cnt2 s2 ρ2):=hid
    {rg:=hrg4
     ck:=hck4
     now:=by rw[hnow4];exact hi.now
     floor:=by rw[hfl4];exact hi.floor
     vs:=hi.next hq.2.2.2.2.1 hq.2.2.2.2.2.1 hvs4
     tot:=by rw[hU2];exact hmid
     siz:=Nat.le_trans hi.siz (Nat.le_trans hr3 hkp4.size)
     ext:=hi.ext.trans hext4 (Nat.le_trans hi.siz hr3)
     kept:=by
      have hk3:Kept (fun k=>ρ k≠0) w w3:=Kept.trans (Kept.trans hi.kept hq.2.1 (fun _ _ e=>e) (fun k hlt e=>by have:=HRR.out;omega)) hq.2.2.1 (fun _ _ e=>e) (fun _ _ f=>f.elim)
      exact(hi.ext.low (Nat.le_trans HRR.out.2.2.2 HK0.out.size)).kept hk3 (hkp4.mono (fun k _ e=>by omega))}
   have hg4:getK b0 s2.bx=some a:=by rw[hbx4];exact hq.2.2.2.2.1
   have ha3:ρ2 a=3:=hck4.ba _ (getK_mem hg4)
   have hln:=(hck4.am a ha3).len 176 143 Tryz.underlying176
   have p2:w4.cell? ⟨p,2,none⟩=some (.map (some mb)):=hck4.blk.cell 2
   have y0:=hx4.cell 0
   have y1:=hx4.cell 1
   simp at y0 y1
   obtain⟨Ln,hLn⟩:∃x,x=(s2.ar a).length:=⟨_,rfl⟩
   rw[←hLn]at hln
   have HL:Hid (Ln=(s2.ar a).length∧getK b0 s2.bx=some a∧U2≤m∧cnt2<cnt∧Ck K N w4 p s2 ρ2 mb):=hid ⟨hLn,hg4,hU2m,hq.2.2.2.2.2.2.1,hck4⟩
   clear hck4 hbx4 hnow4 hfl4 hvs4 htot4 hext4 hkp4 hq hi hmid hU2 hU2m s23 sr2 hxl hxz hrg4 hx4 hr3 hg4 ha3 hLn
   by_cases hz:Ln=0
   ·subst hz
    obtain⟨w5,cnt5,hdel,hrg5,hle5,hturn⟩:=(rangesK HI4.out.rg (w':=w4.drew) (F:=fun _=>False) (Kept.refl _ w4).drew (fun f=>f) (fun f=>f)).drop boxKey Tryz.underlying140 (keyB b0) 0
    rw[Maps.strike_twice,mpD_del klB]at hrg5
    have HI5:Hid (PrI K N w w0 p s ρ mb r s.bx.length f m w5 U2 (fun z=>left z && !z.sameKey (kB b0)) cnt5 {s2 with bx:=delK b0 s2.bx} ρ2∧cnt5≤cnt2):=hid (by
     have h4:=HI4.out
     have hk5:Kept (·=mb) w4 w5:=(turnedK hturn).undrewC
     have he:s2.ar a=[]:=List.eq_nil_of_length_eq_zero HL.out.1.symm
     refine⟨{rg:=hrg5,ck:=h4.ck.setBx (fun x hx=>(delK_mem.1 hx).1) (delK_len _ _) (MpK.tight hrg5.owns) hk5,now:=h4.now,floor:=h4.floor,vs:=fun b n=>?_,tot:=?_,siz:=Nat.le_trans h4.siz hk5.size,ext:=h4.ext,kept:=?_},hle5⟩
     ·rw[vers_delB h4.ck HL.out.2.1 he];exact h4.vs b n
     ·obtain⟨mi,h1,h2⟩:=h4.tot
      exact⟨mi,h1.same (fun b n=>vers_delB h4.ck HL.out.2.1 he b n),h2⟩
     ·exact Kept.trans h4.kept hk5 (fun _ _ e=>e) (fun k hlt e=>by rw[e,HC.out.rm];decide))
    have hdel2:(Builtin.delete_ #[140,128] 0 #[.map (some mb),.agg #[.string b0.tn,.string b0.ar]]).run Tryz.prog w4.drew=.ok (.tuple #[]) w5:=hdel
    clear hdel hrg5 hle5 hturn
    go_upto_region 10 with fail
    go_region
    go_wp2_with fail
    go_roundg (gk-1)
    case measure=>have:=HL.out.2.2.2.1;omega
    case rel=>exact⟨U2,_,cnt5,_,ρ2,by go_num,by have:=HL.out.2.2.2.1;have:=HI5.out.2;omega,HL.out.2.2.1,hid HI5.out.1⟩
   ·have bz:((Ln:Int)==0)=false:=by simp;omega
    go_wp2_with fail
    go_roundg (gk-1)
    case measure=>have:=HL.out.2.2.2.1;omega
    case rel=>exact⟨U2,_,cnt2,s2,ρ2,by go_num,by have:=HL.out.2.2.2.1;omega,HL.out.2.2.1,HI4⟩

end Go.Proofs.YtcfociogljhbiaaGreatDoor

namespace Go.Proofs.YtcfociogljhbiaaGreatDoor
open Go.RowKit Go.Maps Go.Sort

set_option maxHeartbeats 400000 in
theorem cnew_any(w:World):Calls Tryz.prog 35 #[] w fun e w'=>∃p s ρ mb,e=.returned (.pointer (some ⟨p,0,none⟩))∧Ck 0 w.heap.size w' p s ρ mb∧s.now=0∧s.floor=0∧(∀b n,vers s b n=[])∧(∀k,k<w.heap.size→ρ k=0)∧Same w w':=by
 have hmm:=@run_makeMap Tryz.prog
 go_enter Tryz.func35,Tryz.ntmps35
 go_wp2_with fail
 go_ret
 have hkk:Same w ((w.alloc (.map #[] 0)).alloc (.cells #[.int .i64 0,.int .i64 0,.map (some w.heap.size)] 142)):=((Kept.refl _ w).alloc _).alloc _
 have hb:=Blk.new (w.alloc (.map #[] 0)) #[.int .i64 0,.int .i64 0,.map (some w.heap.size)] 142
 have hm:MpK 128 mpC kB ((w.alloc (.map #[] 0)).alloc (.cells #[.int .i64 0,.int .i64 0,.map (some w.heap.size)] 142)) w.heap.size []:=(MpK.new w).kept (F:=fun _=>False) ((Kept.refl _ _).alloc _) (fun f=>f)
 rw[World.size_alloc]at hb
 have hr:∀k q,q≠0→(if k=w.heap.size+1 then 1 else if k=w.heap.size then 2 else 0)=q→(k=w.heap.size+1∧q=1)∨(k=w.heap.size∧q=2):=fun k q hq e=>by
  by_cases e1:k=w.heap.size+1
  ·rw[if_pos e1]at e;exact .inl ⟨e1,e.symm⟩
  ·rw[if_neg e1]at e
   by_cases e2:k=w.heap.size
   ·rw[if_pos e2]at e;exact .inr ⟨e2,e.symm⟩
   ·rw[if_neg e2]at e;exact absurd e.symm hq
 refine⟨w.heap.size+1,⟨0,0,[],fun _=>[],fun _=>[]⟩,fun k=>if k=w.heap.size+1 then 1 else if k=w.heap.size then 2 else 0,w.heap.size,rfl,?_,rfl,rfl,fun b n=>rfl,fun k hk=>?_,hkk⟩
 ·refine {blk:=hb,bm:=hm,am:=fun a ha=>?_,cm:=fun c hc=>?_,okv:=fun c hc=>?_,ba:=fun x hx=>(by cases hx),ac:=fun a ha x hx=>(by cases hx),inja:=fun x hx=>(by cases hx),injc:=fun a ha a' ha' x hx=>(by cases hx),rp:=if_pos rfl,rm:=?_,new:=fun k e=>?_,lens:=⟨Nat.le_refl _,fun a ha=>Nat.le_refl _,fun c hc=>Nat.le_refl _⟩,big:=by decide,nums:=⟨by decide,by decide,by decide⟩}
  ·rcases hr a 3 (by decide) ha with e | e<;>exact absurd e.2 (by decide)
  ·rcases hr c 4 (by decide) hc with e | e<;>exact absurd e.2 (by decide)
  ·rcases hr c 4 (by decide) hc with e | e<;>exact absurd e.2 (by decide)
  ·show(if w.heap.size=w.heap.size+1 then 1 else if w.heap.size=w.heap.size then 2 else 0)=2
   rw[if_neg (by omega),if_pos rfl]
  ·rcases hr k _ e rfl with e2 | e2
   ·rw[e2.1];simp
   ·rw[e2.1];simp;omega
 ·show(if k=w.heap.size+1 then 1 else if k=w.heap.size then 2 else 0)=0
  rw[if_neg (by omega),if_neg (by omega)]

end Go.Proofs.YtcfociogljhbiaaGreatDoor

namespace Go.Proofs.YtcfociogljhbiaaGreatDoor
open Go.RowKit Go.Maps Go.Sort

structure Mst where
 now:Int
 floor:Int
 V:Vs

def Sto(K N:Nat)(w:World)(p:Nat)(M:Mst)(ρ:Nat→Nat):Prop:=∃s mb,Ck K N w p s ρ mb∧M=⟨s.now,s.floor,vers s⟩

def StoA(K N:Nat)(w:World)(p:Nat)(ρ:Nat→Nat)(M:Mst)(w':World):Prop:=∃ρ',Sto K N w' p M ρ'∧ExtC w ρ ρ'∧Kept (fun k=>ρ k≠0) w w'

def putM(M:Mst)(t:Int)(ws:List Wr):Mst:=⟨t,M.floor,putsF M.V ws t⟩
def pruM(M:Mst)(f:Int):Mst:=⟨M.now,f,fun b n=>pruV (M.V b n) f⟩

section
variable {K N:Nat} {w:World} {p:Nat} {M:Mst} {ρ:Nat→Nat}

theorem Sto.kept(h:Sto K N w p M ρ){F:Nat→Prop}{w':World}(hk:Kept F w w')(hF:∀k,F k→ρ k=0):Sto K N w' p M ρ:=by
 obtain⟨s,mb,h1,h2⟩:=h
 exact⟨s,mb,h1.kept hk hF,h2⟩
theorem Sto.same(h:Sto K N w p M ρ){w':World}(hk:Same w w'):Sto K N w' p M ρ:=h.kept hk (fun _ f=>f.elim)
theorem Sto.more(h:Sto K N w p M ρ){K':Nat}(hK:K≤K')(hb:K'≤100000):Sto K' N w p M ρ:=by
 obtain⟨s,mb,h1,h2⟩:=h
 exact⟨s,mb,h1.more hK hb,h2⟩
theorem Sto.nums(h:Sto K N w p M ρ):0≤M.floor∧M.floor≤M.now∧M.now≤9223372036854775807:=by
 obtain⟨s,mb,h1,rfl⟩:=h
 exact h1.nums

theorem xget(h:Sto K N w p M ρ)(b:Bx)(n:Nm)(t:Int):Calls Tryz.prog 106 #[.pointer (some ⟨p,0,none⟩),.agg #[.string b.tn,.string b.ar,.string n.s],.int .i64 t] w fun e w'=>e=.returned (getA (M.V b n) (max t M.floor))∧Same w w':=by
 obtain⟨s,mb,h1,rfl⟩:=h
 exact cget_any h1 b n t

theorem xnow(h:Sto K N w p M ρ):Calls Tryz.prog 59 #[.pointer (some ⟨p,0,none⟩)] w fun e w'=>e=.returned (.int .i64 M.now)∧w'=w:=by
 obtain⟨s,mb,h1,rfl⟩:=h
 exact now_any h1

theorem xput_new(h:Sto K N w p M ρ)(hN:N≤w.heap.size)(t:Int)(ht:M.now<t)(ht2:t≤9223372036854775807)(ws:List Wr)(v:Value)(I:Nat→Prop)(hs:SrcC 5 wrE w I v ws)(hI:∀j,I j→ρ j=0)(hK:K+3*ws.length≤100000):
  Calls Tryz.prog 36 #[.pointer (some ⟨p,0,none⟩),.agg #[.int .i64 t,v]] w fun e w'=>e=.returned (.int .i64 0)∧StoA (K+3*ws.length) N w p ρ (putM M t ws) w':=by
 obtain⟨s,mb,h1,rfl⟩:=h
 refine(cput_new h1 hN t ht ht2 ws v I hs hI hK).mono ?_
 rintro e w' ⟨rfl,s',ρ',g1,g2,g3,g4,g5,g6⟩
 exact⟨rfl,ρ',⟨s',mb,g1,by unfold putM;rw[g2,g3,g4]⟩,g5,g6⟩

theorem xprune_old(h:Sto K N w p M ρ)(t:Int)(ht:t≤M.floor):Calls Tryz.prog 95 #[.pointer (some ⟨p,0,none⟩),.int .i64 t] w fun e w'=>e=.returned (.int .i64 0)∧Same w w':=by
 obtain⟨s,mb,h1,rfl⟩:=h
 exact prune_old h1 t ht

theorem xprune_new(h:Sto K N w p M ρ)(t:Int)(ht:M.floor<t):
  Calls Tryz.prog 95 #[.pointer (some ⟨p,0,none⟩),.int .i64 t] w fun e w'=>∃k,e=.returned (.int .i64 ((k:Nat):Int))∧StoA K N w p ρ (pruM M (min t M.now)) w'∧∀m,TotIs M.V m→∃m',TotIs (pruM M (min t M.now)).V m'∧m'+k=m:=by
 obtain⟨s,mb,h1,rfl⟩:=h
 refine(prune_new h1 t ht).mono ?_
 rintro e w' ⟨k,s',ρ',rfl,g1,g2,g3,g4,g5,g6,g7⟩
 have hv:vers s'=fun b n=>pruV (vers s b n) (min t s.now):=by funext b n;exact g4 b n
 refine⟨k,rfl,⟨ρ',⟨s',mb,g1,by unfold pruM;rw[g2,g3,hv]⟩,g6,g7⟩,fun m hm=>?_⟩
 obtain⟨m',h2,h3⟩:=g5 m hm
 exact⟨m',by unfold pruM;rw[←hv];exact h2,h3⟩

end

theorem xnew(w:World):Calls Tryz.prog 35 #[] w fun e w'=>∃p ρ,e=.returned (.pointer (some ⟨p,0,none⟩))∧Sto 0 w.heap.size w' p ⟨0,0,fun _ _=>[]⟩ ρ∧(∀k,k<w.heap.size→ρ k=0)∧Same w w':=by
 refine(cnew_any w).mono ?_
 rintro e w' ⟨p,s,ρ,mb,rfl,h1,h2,h3,h4,h5,h6⟩
 have hv:vers s=fun _ _=>[]:=by funext b n;exact h4 b n
 exact⟨p,ρ,rfl,⟨s,mb,h1,by rw[h2,h3,hv]⟩,h5,h6⟩

end Go.Proofs.YtcfociogljhbiaaGreatDoor

namespace Go.Proofs.YtcfociogljhbiaaGreatDoor
open Go.RowKit Go.Maps Go.Sort

def UpTo(V:Vs)(t:Int):Prop:=∀b n,RisV (V b n)∧∀x∈V b n,x.t≤t

theorem UpTo.put{V:Vs}{t:Int}(h:UpTo V t)(x:Wr):UpTo (putF V x t) t:=fun b n=>by
 unfold putF
 by_cases e:b=x.b∧n=x.n
 ·rw[if_pos e]
  refine⟨putV_ris (h b n).1 _,fun y hy=>?_⟩
  rcases putV_mem hy with rfl | ⟨h1,_⟩
  ·rw[verOf_t];exact Int.le_refl _
  ·exact(h b n).2 y h1
 ·rw[if_neg e];exact h b n

theorem UpTo.puts{V:Vs}{t:Int}(h:UpTo V t):∀ws:List Wr,UpTo (putsF V ws t) t:=fun ws=>by
 unfold putsF
 induction ws generalizing V with
 | nil=>exact h
 | cons x r ih=>exact ih (h.put x)

theorem puts_old{V:Vs}{t:Int}(h:UpTo V t)(ws:List Wr)(b:Bx)(n:Nm){u:Int}(hu:u<t):newV (putsF V ws t b n) u=newV (V b n) u:=by
 unfold putsF
 induction ws generalizing V with
 | nil=>rfl
 | cons x r ih=>
  refine(ih (h.put x)).trans ?_
  unfold putF
  by_cases e:b=x.b∧n=x.n
  ·rw[if_pos e]
   exact newV_put_old (h b n).1 _ (by rw[verOf_t];exact(h b n).2) (by rw[verOf_t];exact hu)
  ·rw[if_neg e]

end Go.Proofs.YtcfociogljhbiaaGreatDoor
