/-
  Of the proof: parts ChD, ChE, ChG, ChH.
-/
import Derived.Deep.RegionHeld3
import Derived.Test.YtcfociogljhbiaaGreatDoorJ12

namespace Go.Proofs.YtcfociogljhbiaaGreatDoor
open Go.RowKit Go.Maps Go.Sort

theorem zeroAr(w:World):(zeroValue 176).run Tryz.prog w=.ok (.map none) w:=by kernel_rfl
theorem zeroCh(w:World):(zeroValue 143).run Tryz.prog w=.ok (.pointer none) w:=by kernel_rfl

theorem Kept.undrewC{F:Nat→Prop}{w w':World}(h:Kept F w.drew w'):Kept F w w':=⟨h.os,h.tape,h.output,h.size,h.block⟩

def ptO(o:Option Nat):Value:=.pointer (o.map (fun c=>⟨c,0,none⟩))

section
variable {K N:Nat} {w:World} {p:Nat} {s:Cs} {ρ:Nat→Nat} {mb:Nat}

theorem Ck.look1(h:Ck K N w p s ρ mb)(b:Bx):(Instr.lookup 140 (.map (some mb)) (.agg #[.string b.tn,.string b.ar]) false).run Tryz.prog w=.ok (.map (getK b s.bx)) w:=by
 have h1:=h.bm.look klB rdM boxKey 140 176 Tryz.underlying140 (zeroAr w) b (bxV b) (keyB b)
 rw[show(Value.agg #[.string b.tn,.string b.ar])=bxV b from rfl,h1]
 cases getK b s.bx<;>rfl

theorem Ck.look2(h:Ck K N w p s ρ mb)(b:Bx)(n:Nm):(Instr.lookup 176 (.map (getK b s.bx)) (.string n.s) false).run Tryz.prog w=.ok (ptO (fndC s b n)) w:=by
 unfold fndC
 cases hg:getK b s.bx with
 | none=>exact Maps.look_nil false nameKey Tryz.underlying176 (zeroCh w) (keyN n)
 | some a=>
  have h1:=(h.am a (h.ba _ (getK_mem hg))).look klN rdP nameKey 176 143 Tryz.underlying176 (zeroCh w) n (nmV n) (keyN n)
  rw[show(Value.string n.s)=nmV n from rfl,h1]
  show _=Result.ok (ptO (getK n (s.ar a))) w
  cases getK n (s.ar a)<;>rfl

end

set_option maxHeartbeats 400000 in
theorem boxOf_any(w:World)(a b c:ByteArray):
  Calls Tryz.prog 120 #[.agg #[.string a,.string b,.string c]] w fun e w'=>e=.returned (.agg #[.string a,.string b])∧Same w w':=by
 go_enter Tryz.func120,Tryz.ntmps120
 go_wp2_with fail
 refine bodyPost_ret (v:=.agg #[.string a,.string b]) (by rw[results_cellC rfl];simp[go_sem]) rfl ?_
 exact⟨rfl,((Kept.refl _ w).alloc _).alloc _⟩

set_option maxRecDepth 100000 in
set_option maxHeartbeats 1000000 in
theorem find_any{K N:Nat}{w:World}{p:Nat}{s:Cs}{ρ:Nat→Nat}{mb:Nat}(h:Ck K N w p s ρ mb)(b:Bx)(n:Nm):
  Calls Tryz.prog 143 #[.pointer (some ⟨p,0,none⟩),.agg #[.string b.tn,.string b.ar,.string n.s]] w fun e w'=>e=.returned (ptO (fndC s b n))∧Same w w':=by
 obtain⟨wA,hwA⟩:∃W,W=w.alloc (.cells #[.string b.tn,.string b.ar,.string n.s] 63):=⟨_,rfl⟩
 have hka:Same w wA:=by rw[hwA];exact(Kept.refl _ w).alloc _
 obtain⟨xb,hxb⟩:∃x,x=w.heap.size:=⟨_,rfl⟩
 have BA:Blk wA xb #[.string b.tn,.string b.ar,.string n.s] 63:=by rw[hwA,hxb];exact Blk.new w _ _
 have HA:Hid (Ck K N wA p s ρ mb):=hid (h.same hka)
 have HKA:Hid (Same w wA):=hka
 obtain⟨X,hX⟩:∃X,X=Value.map (getK b s.bx):=⟨_,rfl⟩
 obtain⟨Y,hY⟩:∃Y,Y=ptO (fndC s b n):=⟨_,rfl⟩
 have HL1:Hid (∀w',Same wA w'→(Instr.lookup 140 (.map (some mb)) (.agg #[.string b.tn,.string b.ar]) false).run Tryz.prog w'=.ok X w'):=hid (fun w' hk=>by rw[hX];exact(HA.out.same hk).look1 b)
 have HL2:Hid (∀w',Same wA w'→(Instr.lookup 176 X (.string n.s) false).run Tryz.prog w'=.ok Y w'):=hid (fun w' hk=>by rw[hX,hY];exact(HA.out.same hk).look2 b n)
 have HBO:Hid (∀w',Calls Tryz.prog 120 #[.agg #[.string b.tn,.string b.ar,.string n.s]] w' fun e w2=>e=.returned (.agg #[.string b.tn,.string b.ar])∧Same w' w2):=hid (fun w'=>boxOf_any w' _ _ _)
 have c0:=BA.cell 0
 have c1:=BA.cell 1
 have c2:=BA.cell 2
 have p2:wA.cell? ⟨p,2,none⟩=some (.map (some mb)):=(h.same hka).blk.cell 2
 simp at c0 c1 c2
 rw[←hY]
 clear h hka hX hY BA
 go_enter Tryz.func143,Tryz.ntmps143
 go_wp2_with fail
 rw[←hwA,←hxb]
 clear hwA hxb
 have l1:=HL1.out wA (Kept.refl _ _)
 have l2:=HL2.out wA (Kept.refl _ _)
 have hs0:Same wA wA:=Kept.refl _ _
 go_region_held3 (fun w'=>w'.cell? ⟨xb,0,none⟩=some (.string b.tn)∧w'.cell? ⟨xb,1,none⟩=some (.string b.ar)∧w'.cell? ⟨xb,2,none⟩=some (.string n.s)∧w'.cell? ⟨p,2,none⟩=some (.map (some mb)))
  (first
   | (go_split_ands;exact⟨hk2.cell (by assumption) (fun f=>f),hk2.cell (by assumption) (fun f=>f),hk2.cell (by assumption) (fun f=>f),hk2.cell (by assumption) (fun f=>f)⟩)
   | go_keep)
  (first
   | (go_at_call 120;refine(HBO.out _).mono ?_;rintro e w2 ⟨rfl,hk2⟩;have l1:=HL1.out w2 (by first | exact hk2 | exact Kept.undrewC hk2);have l2:=HL2.out w2 (by first | exact hk2 | exact Kept.undrewC hk2))
   | fail)
 go_wp2_with fail
 go_ret
 exact⟨rfl,HKA.out.trans (Kept.undrewC hk2)⟩

set_option maxHeartbeats 400000 in
theorem now_any{K N:Nat}{w:World}{p:Nat}{s:Cs}{ρ:Nat→Nat}{mb:Nat}(h:Ck K N w p s ρ mb):Calls Tryz.prog 59 #[.pointer (some ⟨p,0,none⟩)] w fun e w'=>e=.returned (.int .i64 s.now)∧w'=w:=by
 have c0:w.cell? ⟨p,0,none⟩=some (.int .i64 s.now):=h.blk.cell 0
 clear h
 go_enter Tryz.func59,Tryz.ntmps59
 go_wp2_with fail
 go_ret
 exact⟨rfl,rfl⟩

end Go.Proofs.YtcfociogljhbiaaGreatDoor

namespace Go.Proofs.YtcfociogljhbiaaGreatDoor
open Go.RowKit Go.Maps Go.Sort

def getA(l:List Ver)(t:Int):Value:=.tuple #[.string (newV l t).data,.bool (newV l t).there]

theorem fieldW(w:World)(a:Value)(b:Bool)(c:Value):(Instr.field 147 (.agg #[a,.bool b,c]) 1).run Tryz.prog w=.ok (.bool b) w:=by kernel_rfl

theorem Ck.chain{K N:Nat}{w:World}{p:Nat}{s:Cs}{ρ:Nat→Nat}{mb:Nat}(h:Ck K N w p s ρ mb)(b:Bx)(n:Nm):
  (fndC s b n=none∧vers s b n=[])∨∃c,fndC s b n=some c∧ρ c=4∧ChAt N w ρ c (vers s b n)∧RisV (vers s b n)∧(vers s b n).length≤100000:=by
 cases hf:fndC s b n with
 | none=>exact .inl ⟨rfl,by unfold vers;rw[hf];rfl⟩
 | some c=>
  have hc:=h.fnd hf
  have hv:vers s b n=s.vr c:=by unfold vers;rw[hf];rfl
  rw[hv]
  exact .inr ⟨c,rfl,hc,h.cm c hc,(h.okv c hc).ris,Nat.le_trans (h.lens.2.2 c hc) h.big⟩

theorem ChAt.same{N:Nat}{w w':World}{ρ:Nat→Nat}{c:Nat}{l:List Ver}(h:ChAt N w ρ c l)(hk:Same w w'):ChAt N w' ρ c l:=by
 obtain⟨v,h1,h2,h3⟩:=h
 exact⟨v,h1.kept hk (fun f=>f),h2.kept hk (fun _ _ f=>f),h3⟩

set_option maxRecDepth 100000 in
set_option maxHeartbeats 1000000 in
theorem cget_any{K N:Nat}{w:World}{p:Nat}{s:Cs}{ρ:Nat→Nat}{mb:Nat}(h:Ck K N w p s ρ mb)(b:Bx)(n:Nm)(t:Int):
  Calls Tryz.prog 106 #[.pointer (some ⟨p,0,none⟩),.agg #[.string b.tn,.string b.ar,.string n.s],.int .i64 t] w fun e w'=>e=.returned (getA (vers s b n) (max t s.floor))∧Same w w':=by
 obtain⟨wA,hwA⟩:∃W,W=w.alloc (.cells #[.string b.tn,.string b.ar,.string n.s] 63):=⟨_,rfl⟩
 have hka:Same w wA:=by rw[hwA];exact(Kept.refl _ w).alloc _
 have HA:Hid (Ck K N wA p s ρ mb):=hid (h.same hka)
 have HKA:Hid (Same w wA):=hka
 have HF:=find_any HA.out b n
 rcases HA.out.chain b n with⟨e1,e2⟩ | ⟨c,e1,hc,hca,hri,hle⟩
 ·rw[e1]at HF
  have HR:Hid (getA (vers s b n) (max t s.floor)=.tuple #[.string ⟨#[]⟩,.bool false]):=hid (by rw[e2];rfl)
  unfold ptO at HF
  simp only[Option.map_none]at HF
  clear h hka e1 e2
  go_enter Tryz.func106,Tryz.ntmps106
  go_wp2_with fail
  rw[←hwA]
  refine HF.mono ?_
  rintro e w1 ⟨rfl,hk⟩
  go_wp2_with fail
  go_ret2
  exact⟨by rw[HR.out];rfl,HKA.out.trans hk⟩
 ·rw[e1]at HF
  unfold ptO at HF
  simp only[Option.map_some]at HF
  obtain⟨fl,hfl⟩:∃f,f=s.floor:=⟨_,rfl⟩
  have HFL:Hid (fl=s.floor):=hfl
  obtain⟨mx,hmx⟩:∃m,m=max t fl:=⟨_,rfl⟩
  have HN:Hid (∀w',Same wA w'→Calls Tryz.prog 144 #[.pointer (some ⟨c,0,none⟩),.int .i64 mx] w' fun e w2=>e=.returned (verV (newV (vers s b n) mx))∧Same w' w2):=hid (fun w' hk=>newest_any (hca.same hk) hri hle mx)
  obtain⟨y,hy⟩:∃y,y=newV (vers s b n) mx:=⟨_,rfl⟩
  rw[←hy]at HN
  have HR:Hid (getA (vers s b n) (max t s.floor)=.tuple #[.string y.data,.bool y.there]):=hid (by rw[←hfl,←hmx];unfold getA;rw[hy])
  have p1:wA.cell? ⟨p,1,none⟩=some (.int .i64 fl):=by rw[hfl];exact HA.out.blk.cell 1
  have HP1:=hid p1
  have HMX:Hid (mx=max t fl):=hmx
  clear h hka e1 hc hca hri hle hy hfl p1 hmx
  rw[HR.out]
  go_enter Tryz.func106,Tryz.ntmps106
  go_wp2_with fail
  rw[←hwA]
  clear hwA
  refine HF.mono ?_
  rintro e w1 ⟨rfl,hk⟩
  have p1:=hk.cell HP1.out (fun f=>f)
  have HK1:Hid (Same wA w1):=hk
  have HN1:=HN.out w1 hk
  rw[HMX.out]at HN1
  unfold verV at HN1
  clear hk HF
  go_wp2_with fail
  refine HN1.mono ?_
  rintro e w2 ⟨rfl,hk2⟩
  have HK2:Hid (Same w1 w2):=hk2
  clear hk2 HN1
  go_wp2_with fail
  go_quiet (fail)
  go_wp2_with fail
  go_ret2
  exact⟨rfl,(((HKA.out.trans HK1.out).trans HK2.out).alloc _).drewN _⟩

end Go.Proofs.YtcfociogljhbiaaGreatDoor

namespace Go.Proofs.YtcfociogljhbiaaGreatDoor
open Go.RowKit Go.Maps Go.Sort

def ChB(N:Nat)(w w':World)(ρ:Nat→Nat)(c:Nat)(l:List Ver):Prop:=∃v,Blk w' c #[v] 202∧RowC N 147 3 verE w' v l∧(∀k,v.ownBlock=some k→ρ k=10+c∨w.heap.size≤k)∧Kept (fun k=>k=c∨ρ k=10+c) w w'

def ExtC(w:World)(ρ ρ':Nat→Nat):Prop:=∀k,ρ' k=ρ k∨(w.heap.size≤k∧ρ k=0)

theorem ExtC.refl(w:World)(ρ:Nat→Nat):ExtC w ρ ρ:=fun _=>.inl rfl

theorem ExtC.trans{w w':World}{ρ ρ' ρ'':Nat→Nat}(h:ExtC w ρ ρ')(h':ExtC w' ρ' ρ'')(hs:w.heap.size≤w'.heap.size):ExtC w ρ ρ'':=fun k=>by
 rcases h' k with h1 | h1
 ·rw[h1];exact h k
 ·rcases h k with h2 | h2
  ·exact .inr ⟨by omega,by rw[←h2];exact h1.2⟩
  ·exact .inr h2

theorem ExtC.kept{w w' w'':World}{ρ ρ':Nat→Nat}(h:ExtC w ρ ρ')(hk:Kept (fun k=>ρ k≠0) w w')(hk':Kept (fun k=>ρ' k≠0) w' w''):Kept (fun k=>ρ k≠0) w w'':=
 Kept.trans hk hk' (fun _ _ e=>e) (fun k hlt e e2=>by
  rcases h k with h1 | h1
  ·exact e (by rw[h1];exact e2)
  ·omega)

section
variable {K N:Nat} {w:World} {p:Nat} {s:Cs} {ρ:Nat→Nat} {mb:Nat}

theorem Ck.more(h:Ck K N w p s ρ mb){K':Nat}(hK:K≤K')(hb:K'≤100000):Ck K' N w p s ρ mb:=
 {h with lens:=⟨Nat.le_trans h.lens.1 hK,fun a ha=>Nat.le_trans (h.lens.2.1 a ha) hK,fun c hc=>Nat.le_trans (h.lens.2.2 c hc) hK⟩,big:=hb}

theorem Ck.setChain(h:Ck K N w p s ρ mb){w':World}{c:Nat}(hc:ρ c=4){l':List Ver}(hB:ChB N w w' ρ c l')(hv:VerOk s.now l')(hl:l'.length≤K):
  ∃ρ',Ck K N w' p {s with vr:=fun x=>if x=c then l' else s.vr x} ρ' mb∧ExtC w ρ ρ'∧Kept (fun k=>ρ k≠0) w w':=by
 obtain⟨v,hb,hrow,hown,hk⟩:=hB
 have hn:∀k,ρ k≠0→ρ k≠10+c→k≠c→¬(k=c∨ρ k=10+c):=fun k _ h2 h3 e=>e.elim h3 h2
 have hf:∀k,(if ρ k=0∧v.ownBlock=some k then 10+c else ρ k)=ρ k∨((if ρ k=0∧v.ownBlock=some k then 10+c else ρ k)=10+c∧ρ k=0∧v.ownBlock=some k):=fun k=>by
  by_cases e:ρ k=0∧v.ownBlock=some k
  ·rw[if_pos e];exact .inr ⟨rfl,e⟩
  ·rw[if_neg e];exact .inl rfl
 have hsm:∀k q,q<10→(if ρ k=0∧v.ownBlock=some k then 10+c else ρ k)=q→ρ k=q:=fun k q hq e=>by
  rcases hf k with h1 | h1
  ·rw[←h1];exact e
  ·rw[h1.1]at e;omega
 have hsm2:∀k q,ρ k=q→q≠0→(if ρ k=0∧v.ownBlock=some k then 10+c else ρ k)=q:=fun k q e hq=>by
  rcases hf k with h1 | h1
  ·rw[h1];exact e
  ·rw[h1.2.1]at e;exact absurd e.symm hq
 have hap:∀k,ρ k=1∨ρ k=2∨ρ k=3→¬(k=c∨ρ k=10+c):=fun k e e2=>by
  rcases e2 with rfl | e2
  ·rw[hc]at e;omega
  ·rw[e2]at e;omega
 refine⟨fun k=>if ρ k=0∧v.ownBlock=some k then 10+c else ρ k,?_,fun k=>?_,hk.mono (fun k _ e=>?_)⟩
 ·refine {blk:=h.blk.kept hk (hap p (.inl h.rp)),bm:=h.bm.kept hk (hap mb (.inr (.inl h.rm))),am:=fun a ha=>?_,cm:=fun c' hc'=>?_,okv:=fun c' hc'=>?_,ba:=fun x hx=>hsm2 _ _ (h.ba x hx) (by decide),ac:=fun a ha x hx=>hsm2 _ _ (h.ac a (hsm a 3 (by decide) ha) x hx) (by decide),inja:=h.inja,injc:=fun a ha a' ha'=>h.injc a (hsm a 3 (by decide) ha) a' (hsm a' 3 (by decide) ha'),rp:=hsm2 _ _ h.rp (by decide),rm:=hsm2 _ _ h.rm (by decide),new:=fun k e=>?_,lens:=⟨h.lens.1,fun a ha=>h.lens.2.1 a (hsm a 3 (by decide) ha),fun c' hc'=>?_⟩,big:=h.big,nums:=h.nums}
  ·exact(h.am a (hsm a 3 (by decide) ha)).kept hk (hap a (.inr (.inr (hsm a 3 (by decide) ha))))
  ·have h4:=hsm c' 4 (by decide) hc'
   by_cases e:c'=c
   ·subst e
    simp only[if_true]
    refine⟨v,hb,hrow,fun k e=>?_⟩
    rcases hown k e with h5 | h5
    ·exact hsm2 k _ h5 (by omega)
    ·have:ρ k=0:=by
      cases hz:ρ k with
      | zero=>rfl
      | succ q=>have:=(h.new k (by omega)).2;omega
     show(if ρ k=0∧v.ownBlock=some k then 10+c' else ρ k)=10+c'
     rw[if_pos ⟨this,e⟩]
   ·simp only[if_neg e]
    obtain⟨v',h1,h2,h3⟩:=h.cm c' h4
    have hne:¬(c'=c∨ρ c'=10+c):=fun e2=>e2.elim e (fun e3=>by omega)
    exact⟨v',h1.kept hk hne,h2.kept hk (fun k e2 e3=>by
     have:=h3 k e2
     rcases e3 with rfl | e3
     ·omega
     ·omega),fun k e2=>hsm2 k _ (h3 k e2) (by omega)⟩
  ·by_cases e:c'=c
   ·simp only[if_pos e];exact hv
   ·simp only[if_neg e];exact h.okv c' (hsm c' 4 (by decide) hc')
  ·rcases hf k with h1 | h1
   ·rw[h1]at e
    exact⟨(h.new k e).1,Nat.lt_of_lt_of_le (h.new k e).2 hk.size⟩
   ·exact⟨hrow.ge h1.2.2,hrow.lt h1.2.2⟩
  ·by_cases e:c'=c
   ·simp only[if_pos e];exact hl
   ·simp only[if_neg e];exact h.lens.2.2 c' (hsm c' 4 (by decide) hc')
 ·rcases hf k with h1 | h1
  ·exact .inl h1
  ·refine .inr ⟨?_,h1.2.1⟩
   rcases hown k h1.2.2 with h5 | h5
   ·rw[h1.2.1]at h5;omega
   ·exact h5
 ·rcases e with rfl | e
  ·rw[hc];decide
  ·rw[e];omega

theorem vers_set(h:Ck K N w p s ρ mb){b:Bx}{n:Nm}{c:Nat}(hf:fndC s b n=some c)(l':List Ver)(b':Bx)(n':Nm):
  vers {s with vr:=fun x=>if x=c then l' else s.vr x} b' n'=if b'=b∧n'=n then l' else vers s b' n':=by
 show((fndC s b' n').map (fun x=>if x=c then l' else s.vr x)).getD []=_
 split
 ·rename_i e
  rw[e.1,e.2,hf]
  simp
 ·rename_i e
  unfold vers
  cases hg:fndC s b' n' with
  | none=>rfl
  | some c'=>
   have:c'≠c:=fun e2=>e (by rw[e2]at hg;exact h.one hg hf)
   simp[this]

def addA(s:Cs)(b:Bx)(m:Nat):Cs:={s with bx:=putK kB b m s.bx,ar:=fun x=>if x=m then []else s.ar x}

theorem Ck.addArc(h:Ck K N w p s ρ mb){b:Bx}(_hg:getK b s.bx=none)(hN:N≤w.heap.size){m:Nat}(hm:w.heap.size≤m){w3:World}(hmp:MpK 9 ptC kN w3 m [])(hbm:MpK 128 mpC kB w3 mb (putK kB b m s.bx))(hk:Kept (·=mb) w w3)(hK:K+1≤100000):
  Ck (K+1) N w3 p (addA s b m) (fun k=>if k=m then 3 else ρ k) mb:=by
 have hz:∀k,ρ k≠0→k≠m:=fun k e e2=>by have:=(h.new k e).2;omega
 have hr:∀k,ρ k≠0→(if k=m then 3 else ρ k)=ρ k:=fun k e=>if_neg (hz k e)
 have hne:∀k,ρ k≠0→ρ k≠2→¬k=mb:=fun k _ e e2=>e (by rw[e2];exact h.rm)
 have hp0:ρ p≠0:=by rw[h.rp];decide
 have hold:∀k q,q≠0→q≠3→(if k=m then 3 else ρ k)=q→ρ k=q:=fun k q hq hq3 e=>by
  by_cases e2:k=m
  ·rw[if_pos e2]at e;omega
  ·rwa [if_neg e2]at e
 have har:∀a,(if a=m then 3 else ρ a)=3→a=m∨(a≠m∧ρ a=3):=fun a e=>by
  by_cases e2:a=m
  ·exact .inl e2
  ·rw[if_neg e2]at e;exact .inr ⟨e2,e⟩
 refine {blk:=h.blk.kept hk (hne p hp0 (by rw[h.rp];decide)),bm:=hbm,am:=fun a ha=>?_,cm:=fun c hc=>?_,okv:=fun c hc=>h.okv c (hold c 4 (by decide) (by decide) hc),ba:=fun x hx=>?_,ac:=fun a ha x hx=>?_,inja:=fun x hx y hy e=>?_,injc:=fun a ha a' ha' x hx y hy e=>?_,rp:=by rw[hr p hp0];exact h.rp,rm:=by rw[hr mb (by rw[h.rm];decide)];exact h.rm,new:=fun k e=>?_,lens:=⟨?_,fun a ha=>?_,fun c hc=>Nat.le_succ_of_le (h.lens.2.2 c (hold c 4 (by decide) (by decide) hc))⟩,big:=hK,nums:=h.nums}
 ·rcases har a ha with rfl | ⟨e,e3⟩
  ·show MpK _ _ _ w3 a (if a=a then []else s.ar a)
   rw[if_pos rfl];exact hmp
  ·show MpK _ _ _ w3 a (if a=m then []else s.ar a)
   rw[if_neg e];exact(h.am a e3).kept hk (hne a (by rw[e3];decide) (by rw[e3];decide))
 ·have h4:=hold c 4 (by decide) (by decide) hc
  obtain⟨v,h1,h2,h3⟩:=h.cm c h4
  exact⟨v,h1.kept hk (hne c (by rw[h4];decide) (by rw[h4];decide)),h2.kept hk (fun k e=>hne k (by rw[h3 k e];omega) (by rw[h3 k e];omega)),fun k e=>(hr k (by rw[h3 k e];omega)).trans (h3 k e)⟩
 ·rcases putK_mem.1 hx with rfl | hx
  ·exact if_pos rfl
  ·rw[hr _ (by rw[h.ba x hx.1];decide)];exact h.ba x hx.1
 ·rcases har a ha with rfl | ⟨e,e3⟩
  ·change x∈(if a=a then []else s.ar a)at hx
   rw[if_pos rfl]at hx;cases hx
  ·change x∈(if a=m then []else s.ar a)at hx
   rw[if_neg e]at hx
   rw[hr _ (by rw[h.ac a e3 x hx];decide)];exact h.ac a e3 x hx
 ·rcases putK_mem.1 hx with rfl | hx<;>rcases putK_mem.1 hy with rfl | hy
  ·rfl
  ·exact absurd e.symm (hz _ (by rw[h.ba y hy.1];decide))
  ·exact absurd e (hz _ (by rw[h.ba x hx.1];decide))
  ·exact h.inja x hx.1 y hy.1 e
 ·rcases har a ha with rfl | ⟨e1,e3⟩
  ·change x∈(if a=a then []else s.ar a)at hx
   rw[if_pos rfl]at hx;cases hx
  ·rcases har a' ha' with rfl | ⟨e1',e3'⟩
   ·change y∈(if a'=a' then []else s.ar a')at hy
    rw[if_pos rfl]at hy;cases hy
   ·change x∈(if a=m then []else s.ar a)at hx
    change y∈(if a'=m then []else s.ar a')at hy
    rw[if_neg e1]at hx
    rw[if_neg e1']at hy
    exact h.injc a e3 a' e3' x hx y hy e
 ·by_cases e2:k=m
  ·subst e2;exact⟨Nat.le_trans hN hm,hmp.lt⟩
  ·rw[if_neg e2]at e
   exact⟨(h.new k e).1,Nat.lt_of_lt_of_le (h.new k e).2 hk.size⟩
 ·have:=putK_len (kl:=kB) b m s.bx
  have:=h.lens.1
  show(putK kB b m s.bx).length≤K+1
  omega
 ·rcases har a ha with rfl | ⟨e,e3⟩
  ·show(if a=a then []else s.ar a).length≤K+1
   rw[if_pos rfl];exact Nat.zero_le _
  ·show(if a=m then []else s.ar a).length≤K+1
   rw[if_neg e];exact Nat.le_succ_of_le (h.lens.2.1 a e3)

theorem addA_fnd(h:Ck K N w p s ρ mb){b:Bx}(hg:getK b s.bx=none){m:Nat}(hm:w.heap.size≤m)(b':Bx)(n':Nm):fndC (addA s b m) b' n'=fndC s b' n':=by
 unfold fndC addA
 simp only
 rw[getK_put h.apb]
 split
 ·rename_i e
  subst e
  rw[hg]
  simp[getK]
 ·cases hg':getK b' s.bx with
  | none=>rfl
  | some a=>
   have h3:=h.ba _ (getK_mem hg')
   have:a≠m:=fun e=>by have:=(h.new a (by simp only at h3;rw[h3];decide)).2;omega
   simp[this]

def addC(s:Cs)(a:Nat)(n:Nm)(c:Nat):Cs:={s with ar:=fun x=>if x=a then putK kN n c (s.ar a)else s.ar x,vr:=fun x=>if x=c then []else s.vr x}

theorem Ck.addCh(h:Ck K N w p s ρ mb){a:Nat}(ha3:ρ a=3){n:Nm}(hN:N≤w.heap.size){c:Nat}(hm:w.heap.size≤c){w3:World}(hb:Blk w3 c #[.slice none 0 0] 202)(ham:MpK 9 ptC kN w3 a (putK kN n c (s.ar a)))(hk:Kept (·=a) w w3)(hK:K+1≤100000):
  Ck (K+1) N w3 p (addC s a n c) (fun k=>if k=c then 4 else ρ k) mb:=by
 have hz:∀k,ρ k≠0→k≠c:=fun k e e2=>by have:=(h.new k e).2;omega
 have hr:∀k,ρ k≠0→(if k=c then 4 else ρ k)=ρ k:=fun k e=>if_neg (hz k e)
 have hne:∀k,ρ k≠3→¬k=a:=fun k e e2=>e (by rw[e2];exact ha3)
 have hold:∀k q,q≠0→q≠4→(if k=c then 4 else ρ k)=q→ρ k=q:=fun k q hq hq3 e=>by
  by_cases e2:k=c
  ·rw[if_pos e2]at e;omega
  ·rwa [if_neg e2]at e
 have hc4:∀x,(if x=c then 4 else ρ x)=4→x=c∨(x≠c∧ρ x=4):=fun x e=>by
  by_cases e2:x=c
  ·exact .inl e2
  ·rw[if_neg e2]at e;exact .inr ⟨e2,e⟩
 have hmem:∀a',ρ a'=3→∀x,x∈(addC s a n c).ar a'→(a'=a∧x=(n,c))∨x∈s.ar a':=fun a' h' x hx=>by
  change x∈(if a'=a then putK kN n c (s.ar a)else s.ar a')at hx
  by_cases e:a'=a
  ·rw[if_pos e]at hx
   rcases putK_mem.1 hx with h1 | h1
   ·exact .inl ⟨e,h1⟩
   ·exact .inr (by rw[e];exact h1.1)
  ·rw[if_neg e]at hx;exact .inr hx
 refine {blk:=h.blk.kept hk (hne p (by rw[h.rp];decide)),bm:=h.bm.kept hk (hne mb (by rw[h.rm];decide)),am:=fun a' h'=>?_,cm:=fun c' hc'=>?_,okv:=fun c' hc'=>?_,ba:=fun x hx=>by rw[hr _ (by rw[h.ba x hx];decide)];exact h.ba x hx,ac:=fun a' h' x hx=>?_,inja:=h.inja,injc:=fun a' h1 a'' h2 x hx y hy e=>?_,rp:=by rw[hr p (by rw[h.rp];decide)];exact h.rp,rm:=by rw[hr mb (by rw[h.rm];decide)];exact h.rm,new:=fun k e=>?_,lens:=⟨Nat.le_succ_of_le h.lens.1,fun a' h'=>?_,fun c' hc'=>?_⟩,big:=hK,nums:=h.nums}
 ·have h3:=hold a' 3 (by decide) (by decide) h'
  show MpK _ _ _ w3 a' (if a'=a then putK kN n c (s.ar a)else s.ar a')
  by_cases e:a'=a
  ·rw[if_pos e,e];exact ham
  ·rw[if_neg e];exact(h.am a' h3).kept hk e
 ·rcases hc4 c' hc' with rfl | ⟨e,e4⟩
  ·show ChAt N w3 _ c' (if c'=c' then []else s.vr c')
   rw[if_pos rfl]
   exact⟨_,hb,RowC.nil,fun k e=>by cases e⟩
  ·show ChAt N w3 _ c' (if c'=c then []else s.vr c')
   rw[if_neg e]
   obtain⟨v,h1,h2,h3⟩:=h.cm c' e4
   exact⟨v,h1.kept hk (hne c' (by rw[e4];decide)),h2.kept hk (fun k e=>hne k (by rw[h3 k e];omega)),fun k e=>(hr k (by rw[h3 k e];omega)).trans (h3 k e)⟩
 ·rcases hc4 c' hc' with rfl | ⟨e,e4⟩
  ·show VerOk s.now (if c'=c' then []else s.vr c')
   rw[if_pos rfl]
   exact⟨List.Pairwise.nil,fun v hv=>(by cases hv),fun v hv=>(by cases hv),fun v hv=>(by cases hv)⟩
  ·show VerOk s.now (if c'=c then []else s.vr c')
   rw[if_neg e];exact h.okv c' e4
 ·have h3:=hold a' 3 (by decide) (by decide) h'
  rcases hmem a' h3 x hx with⟨_,rfl⟩ | h1
  ·exact if_pos rfl
  ·rw[hr _ (by rw[h.ac a' h3 x h1];decide)];exact h.ac a' h3 x h1
 ·have h3:=hold a' 3 (by decide) (by decide) h1
  have h3':=hold a'' 3 (by decide) (by decide) h2
  rcases hmem a' h3 x hx with⟨e1,rfl⟩ | h4<;>rcases hmem a'' h3' y hy with⟨e2,rfl⟩ | h5
  ·exact⟨e1.trans e2.symm,rfl⟩
  ·exact absurd e.symm (hz _ (by rw[h.ac a'' h3' y h5];decide))
  ·exact absurd e (hz _ (by rw[h.ac a' h3 x h4];decide))
  ·exact h.injc a' h3 a'' h3' x h4 y h5 e
 ·by_cases e2:k=c
  ·subst e2;exact⟨Nat.le_trans hN hm,hb.lt⟩
  ·rw[if_neg e2]at e
   exact⟨(h.new k e).1,Nat.lt_of_lt_of_le (h.new k e).2 hk.size⟩
 ·have h3:=hold a' 3 (by decide) (by decide) h'
  show(if a'=a then putK kN n c (s.ar a)else s.ar a').length≤K+1
  have h5:=h.lens.2.1 a' h3
  by_cases e:a'=a
  ·rw[if_pos e]
   have:=putK_len (kl:=kN) n c (s.ar a)
   rw[e]at h5
   omega
  ·rw[if_neg e];omega
 ·rcases hc4 c' hc' with rfl | ⟨e,e4⟩
  ·show(if c'=c' then []else s.vr c').length≤K+1
   rw[if_pos rfl];exact Nat.zero_le _
  ·show(if c'=c then []else s.vr c').length≤K+1
   rw[if_neg e];exact Nat.le_succ_of_le (h.lens.2.2 c' e4)

theorem addC_fnd(h:Ck K N w p s ρ mb){b:Bx}{a:Nat}(hg:getK b s.bx=some a){n:Nm}{c:Nat}(b':Bx)(n':Nm):fndC (addC s a n c) b' n'=if b'=b∧n'=n then some c else fndC s b' n':=by
 have h3:=h.ba _ (getK_mem hg)
 unfold fndC addC
 simp only
 cases hg':getK b' s.bx with
 | none=>
  have:¬(b'=b∧n'=n):=fun e=>by rw[e.1,hg]at hg';cases hg'
  rw[if_neg this]
  rfl
 | some a'=>
  show getK n' (if a'=a then putK kN n c (s.ar a)else s.ar a')=if b'=b∧n'=n then some c else getK n' (s.ar a')
  by_cases e:a'=a
  ·have eb:b'=b:=h.inja _ (getK_mem hg') _ (getK_mem hg) e
   rw[if_pos e,getK_put (h.apa h3)]
   by_cases en:n=n'
   ·rw[if_pos en,if_pos ⟨eb,en.symm⟩]
   ·rw[if_neg en,if_neg (fun e2=>en e2.2.symm),e]
  ·have:¬(b'=b∧n'=n):=fun e2=>by rw[e2.1,hg]at hg';cases hg';exact e rfl
   rw[if_neg e,if_neg this]

theorem addC_vers(h:Ck K N w p s ρ mb){b:Bx}{a:Nat}(hg:getK b s.bx=some a){n:Nm}(hn:getK n (s.ar a)=none){c:Nat}(hm:w.heap.size≤c)(b':Bx)(n':Nm):vers (addC s a n c) b' n'=vers s b' n':=by
 unfold vers
 rw[addC_fnd h hg]
 split
 ·rename_i e
  have:fndC s b' n'=none:=by unfold fndC;rw[e.1,hg,e.2];exact hn
  rw[this]
  show(if c=c then []else s.vr c)=[]
  rw[if_pos rfl]
 ·cases hf:fndC s b' n' with
  | none=>rfl
  | some x=>
   have h4:=h.fnd hf
   have:x≠c:=fun e=>by have:=(h.new x (by rw[h4];decide)).2;omega
   show(if x=c then []else s.vr x)=s.vr x
   rw[if_neg this]

end

end Go.Proofs.YtcfociogljhbiaaGreatDoor

namespace Go.Proofs.YtcfociogljhbiaaGreatDoor
open Go.RowKit Go.Maps Go.Sort

def MdA(K N:Nat)(w:World)(p:Nat)(s:Cs)(ρ:Nat→Nat)(mb:Nat)(b:Bx)(n:Nm)(e:Ending)(w':World):Prop:=
 ∃c s' ρ',e=.returned (.pointer (some ⟨c,0,none⟩))∧Ck K N w' p s' ρ' mb∧fndC s' b n=some c∧(∀b' n',vers s' b' n'=vers s b' n')∧s'.now=s.now∧s'.floor=s.floor∧ExtC w ρ ρ'∧Kept (fun k=>ρ k≠0) w w'

section
variable {K N:Nat} {w:World} {p:Nat} {s:Cs} {ρ:Nat→Nat} {mb:Nat}

theorem Ck.mapB(h:Ck K N w p s ρ mb)(b:Bx)(m:Nat):∃w',(Instr.mapUpdate 140 (.map (some mb)) (.agg #[.string b.tn,.string b.ar]) (.map (some m))).run Tryz.prog w=.ok () w'∧MpK 128 mpC kB w' mb (putK kB b m s.bx)∧Kept (·=mb) w w':=
 h.bm.put klB rdM boxKey 140 176 Tryz.underlying140 b (bxV b) (keyB b) (by have:=h.lens;have:=h.big;omega) m

theorem Ck.mapN(h:Ck K N w p s ρ mb){a:Nat}(ha:ρ a=3)(n:Nm)(c:Nat):∃w',(Instr.mapUpdate 176 (.map (some a)) (.string n.s) (.pointer (some ⟨c,0,none⟩))).run Tryz.prog w=.ok () w'∧MpK 9 ptC kN w' a (putK kN n c (s.ar a))∧Kept (·=a) w w':=
 (h.am a ha).put klN rdP nameKey 176 143 Tryz.underlying176 n (nmV n) (keyN n) (by have:=h.lens.2.1 a ha;have:=h.big;omega) c

end

theorem eqMn(w:World):(binOp .eql 176 (.map none) (.map none)).run Tryz.prog w=.ok (.bool true) w:=by kernel_rfl
theorem eqMs(w:World)(a:Nat):(binOp .eql 176 (.map (some a)) (.map none)).run Tryz.prog w=.ok (.bool false) w:=by kernel_rfl

set_option maxRecDepth 100000 in
set_option maxHeartbeats 2000000 in
theorem made_any{K N:Nat}{w:World}{p:Nat}{s:Cs}{ρ:Nat→Nat}{mb:Nat}(h:Ck K N w p s ρ mb)(hN:N≤w.heap.size)(hK:K+2≤100000)(b:Bx)(n:Nm):
  Calls Tryz.prog 77 #[.pointer (some ⟨p,0,none⟩),.agg #[.string b.tn,.string b.ar,.string n.s]] w fun e w'=>MdA (K+2) N w p s ρ mb b n e w':=by
 obtain⟨wA,hwA⟩:∃W,W=w.alloc (.cells #[.string b.tn,.string b.ar,.string n.s] 63):=⟨_,rfl⟩
 have hka:Same w wA:=by rw[hwA];exact(Kept.refl _ w).alloc _
 obtain⟨xb,hxb⟩:∃x,x=w.heap.size:=⟨_,rfl⟩
 have BA:Hid (Blk wA xb #[.string b.tn,.string b.ar,.string n.s] 63):=hid (by rw[hwA,hxb];exact Blk.new w _ _)
 have HKA:Hid (Same w wA):=hka
 have HC:Hid (Ck K N w p s ρ mb):=h
 have HB:=boxOf_any wA b.tn b.ar n.s
 have HQ:Hid (N≤w.heap.size∧K+1≤100000∧xb=w.heap.size∧K+2≤100000):=hid ⟨hN,by omega,hxb,hK⟩
 have hmm:=@run_makeMap Tryz.prog
 have em0:=eqMn
 have em1:=eqMs
 clear h hka hN hK
 go_enter Tryz.func77,Tryz.ntmps77
 go_wp2_with fail
 rw[←hwA,←hxb]
 clear hwA hxb
 refine HB.mono ?_
 rintro e w1 ⟨rfl,hk1⟩
 clear HB
 obtain⟨w2,hw2⟩:∃W,W=w1.alloc (.cells #[.string b.tn,.string b.ar] 128):=⟨_,rfl⟩
 have hk2:Same w w2:=by rw[hw2];exact(HKA.out.trans hk1).alloc _
 obtain⟨yb,hyb⟩:∃x,x=w1.heap.size:=⟨_,rfl⟩
 have HK2:Hid (Same w w2):=hk2
 have HC2:Hid (Ck K N w2 p s ρ mb):=hid (HC.out.same hk2)
 have B2:Hid (Blk w2 xb #[.string b.tn,.string b.ar,.string n.s] 63):=hid (by rw[hw2];exact(BA.out.kept hk1 (fun f=>f)).kept (F:=fun _=>False) ((Kept.refl _ _).alloc _) (fun f=>f))
 have B3:Hid (Blk w2 yb #[.string b.tn,.string b.ar] 128):=hid (by rw[hw2,hyb];exact Blk.new w1 _ _)
 have HLT:Hid (xb<w2.heap.size∧yb<w2.heap.size∧w.heap.size≤xb∧w.heap.size≤yb∧p<w.heap.size):=hid ⟨B2.out.lt,B3.out.lt,by rw[HQ.out.2.2.1];exact Nat.le_refl _,by rw[hyb];exact(HKA.out.trans hk1).size,HC.out.blk.lt⟩
 go_upto_region 2 with fail
 rw[←hw2,←hyb]
 clear hw2 hyb hk1 hk2
 have p2:w2.cell? ⟨p,2,none⟩=some (.map (some mb)):=HC2.out.blk.cell 2
 have y0:=B3.out.cell 0
 have y1:=B3.out.cell 1
 have x2:=B2.out.cell 2
 simp at y0 y1 x2
 have l1:=(HC2.out.same (w':=w2.drew) (Kept.refl _ w2).drew).look1 b
 have l2:=(HC2.out.same (w':=w2.drew) (Kept.refl _ w2).drew).look2 b n
 obtain⟨oa,hoa⟩:∃o,o=getK b s.bx:=⟨_,rfl⟩
 rw[←hoa]at l1 l2
 have HOA:Hid (oa=getK b s.bx):=hoa
 clear hoa
 have HG:Hid (getK b s.bx=oa):=hid HOA.out.symm
 clear HOA
 have HMain:Hid (oa=none∨∃a,oa=some a):=hid (by cases oa;exact .inl rfl;exact .inr ⟨_,rfl⟩)
 by_cases hfull:∃c,fndC s b n=some c
 ·-- the chain is there
  obtain⟨c,hc⟩:=hfull
  obtain⟨a,rfl⟩:∃a,oa=some a:=by
   rcases HMain.out with e | e
   ·unfold fndC at hc;rw[HG.out,e]at hc;cases hc
   ·exact e
  rw[hc]at l2
  unfold ptO at l2
  simp only[Option.map_some]at l2
  have l1b:=(HC2.out.same (w':=w2.drew.drew) (Kept.refl _ w2).drew.drew).look1 b
  have l2b:=(HC2.out.same (w':=w2.drew.drew) (Kept.refl _ w2).drew.drew).look2 b n
  have l1c:=(HC2.out.same (w':=w2.drew.drew.drew) (Kept.refl _ w2).drew.drew.drew).look1 b
  have l2c:=(HC2.out.same (w':=w2.drew.drew.drew) (Kept.refl _ w2).drew.drew.drew).look2 b n
  rw[HG.out]at l1b l2b l1c l2c
  rw[hc]at l2b l2c
  unfold ptO at l2b l2c
  simp only[Option.map_some]at l2b l2c
  have HFC:Hid (fndC s b n=some c):=hc
  clear hc
  go_region
  go_upto_region 4 with fail
  go_region
  go_upto_region 6 with fail
  go_region
  go_wp2_with fail
  go_ret
  exact⟨c,s,ρ,rfl,(HC2.out.same (Kept.refl _ w2).drew.drew.drew).more (by omega) (by have:=HQ.out;omega),HFC.out,fun _ _=>rfl,rfl,rfl,ExtC.refl _ _,(HK2.out.mono (fun _ _ f=>f.elim)).drew.drew.drew⟩
 have HNF:Hid (fndC s b n=none):=hid (by cases hf:fndC s b n with | none=>rfl | some c=>exact absurd ⟨c,hf⟩ hfull)
 clear hfull
 have HAFT:Hid (oa=none∨∃a,oa=some a):=HMain
 rcases HMain.out with e | ⟨a,e⟩
 ·-- no archive yet
  subst e
  go_region
  go_upto_region 3 with fail
  obtain⟨w3,hw3⟩:∃W,W=w2.drew:=⟨_,rfl⟩
  have HS3:Hid (Same w w3):=hid (by rw[hw3];exact HK2.out.drew)
  have HC3:Hid (Ck K N w3 p s ρ mb):=hid (by rw[hw3];exact HC2.out.same (Kept.refl _ w2).drew)
  have B23:Hid (Blk w3 xb #[.string b.tn,.string b.ar,.string n.s] 63):=hid (by rw[hw3];exact B2.out)
  have B33:Hid (Blk w3 yb #[.string b.tn,.string b.ar] 128):=hid (by rw[hw3];exact B3.out)
  rw[←hw3]
  clear hw3 p2 y0 y1 x2 l1 l2
  obtain⟨m,hm⟩:∃m,m=w3.heap.size:=⟨_,rfl⟩
  obtain⟨w4,hup,hmb,hk4⟩:=(HC3.out.same (w':=(w3.alloc (.map #[] 0)).drew) ((Kept.refl _ w3).alloc _).drew).mapB b m
  have p2:w3.cell? ⟨p,2,none⟩=some (.map (some mb)):=HC3.out.blk.cell 2
  have y0:=B33.out.cell 0
  have y1:=B33.out.cell 1
  simp at y0 y1
  have hsA:Same w3 (w3.alloc (.map #[] 0)):=(Kept.refl _ _).alloc _
  have p2a:=hsA.cell p2 (fun f=>f)
  have y0a:=hsA.cell y0 (fun f=>f)
  have y1a:=hsA.cell y1 (fun f=>f)
  rw[hm]at hup
  have HM:Hid (m=w3.heap.size):=hm
  have HUP:=hid (And.intro hmb hk4)
  clear hsA hm hmb hk4
  go_region
  go_upto_region 4 with fail
  obtain⟨s1,hs1⟩:∃x,x=addA s b m:=⟨_,rfl⟩
  obtain⟨ρ1,hρ1⟩:∃x:Nat→Nat,x=fun k=>if k=m then 3 else ρ k:=⟨_,rfl⟩
  have hk34:Kept (·=mb) w3 w4:=Kept.trans (F:=fun _=>False) ((Kept.refl _ w3).alloc _).drew HUP.out.2 (fun _ _ f=>False.elim f) (fun _ _ e=>e)
  have hN3:N≤w3.heap.size:=Nat.le_trans HQ.out.1 HS3.out.size
  have hmp:MpK 9 ptC kN w4 m []:=by
   have h1:MpK 9 ptC kN (w3.alloc (.map #[] 0)).drew w3.heap.size []:=MpK.new w3
   rw[HM.out]
   exact h1.kept HUP.out.2 (fun e=>by have:=HC3.out.bm.lt;omega)
  have HCk:Hid (Ck (K+1) N w4 p s1 ρ1 mb):=hid (by rw[hs1,hρ1];exact HC3.out.addArc HG.out hN3 (by rw[HM.out];exact Nat.le_refl _) hmp HUP.out.1 hk34 HQ.out.2.1)
  have HGk:Hid (getK b s1.bx=some m∧∀b' n',fndC s1 b' n'=fndC s b' n'):=hid ⟨by rw[hs1];show getK b (putK kB b m s.bx)=some m;rw[getK_put HC3.out.apb,if_pos rfl],fun b' n'=>by rw[hs1];exact addA_fnd HC3.out HG.out (by rw[HM.out];exact Nat.le_refl _) b' n'⟩
  have HVk:Hid ((∀b' n',vers s1 b' n'=vers s b' n')∧s1.now=s.now∧s1.floor=s.floor):=hid ⟨fun b' n'=>by unfold vers;rw[HGk.out.2,hs1];rfl,by rw[hs1];rfl,by rw[hs1];rfl⟩
  have HEk:Hid (ExtC w ρ ρ1):=hid (by
   rw[hρ1]
   intro k
   by_cases e:k=m
   ·refine .inr ⟨by rw[e,HM.out];exact HS3.out.size,?_⟩
    cases hz:ρ k with
    | zero=>rfl
    | succ q=>have:=(HC.out.new k (by omega)).2;have:=HM.out;have:=HS3.out.size;omega
   ·exact .inl (if_neg e))
  have HKk:Hid (Kept (fun k=>ρ k≠0) w w4):=hid (Kept.trans HS3.out hk34 (fun _ _ f=>False.elim f) (fun k _ e=>by rw[e,HC.out.rm];decide))
  have Bxk:Hid (Blk w4 xb #[.string b.tn,.string b.ar,.string n.s] 63):=hid (B23.out.kept hk34 (fun e=>by have:=HLT.out;have:=HC.out.bm.lt;omega))
  have Byk:Hid (Blk w4 yb #[.string b.tn,.string b.ar] 128):=hid (B33.out.kept hk34 (fun e=>by have:=HLT.out;have:=HC.out.bm.lt;omega))
  obtain⟨a,ha⟩:∃a,a=m:=⟨_,rfl⟩
  rw[←ha]at HGk
  clear hs1 hρ1 hk34 hN3 hmp p2 p2a y0 y0a y1 y1a hup ha HUP HM HC3 B23 B33 HS3
  as_aux_lemma=>
   have HNk:Hid (fndC s1 b n=none):=hid (by rw[HGk.out.2];exact HNF.out)
   have hg2:getK n (s1.ar a)=none:=by have h1:=HNk.out;unfold fndC at h1;rw[HGk.out.1]at h1;exact h1
   have ha3:ρ1 a=3:=HCk.out.ba _ (getK_mem HGk.out.1)
   have p2:w4.cell? ⟨p,2,none⟩=some (.map (some mb)):=HCk.out.blk.cell 2
   have y0:=Byk.out.cell 0
   have y1:=Byk.out.cell 1
   have x2:=Bxk.out.cell 2
   simp at y0 y1 x2
   have l1:=(HCk.out.same (w':=w4.drew) (Kept.refl _ w4).drew).look1 b
   have l2:=(HCk.out.same (w':=w4.drew) (Kept.refl _ w4).drew).look2 b n
   rw[HGk.out.1]at l1 l2
   rw[HNk.out]at l2
   unfold ptO at l2
   simp only[Option.map_none]at l2
   have HG2:=hid hg2
   have HA3:=hid ha3
   clear hg2 ha3
   go_region
   go_upto_region 5 with fail
   as_aux_lemma=>
    obtain⟨w5,hw5⟩:∃W,W=w4.drew:=⟨_,rfl⟩
    have HC5:Hid (Ck (K+1) N w5 p s1 ρ1 mb):=hid (by rw[hw5];exact HCk.out.same (Kept.refl _ w4).drew)
    have HK5:Hid (Kept (fun k=>ρ k≠0) w w5):=hid (by rw[hw5];exact HKk.out.drew)
    have Bx5:Hid (Blk w5 xb #[.string b.tn,.string b.ar,.string n.s] 63):=hid (by rw[hw5];exact Bxk.out)
    have By5:Hid (Blk w5 yb #[.string b.tn,.string b.ar] 128):=hid (by rw[hw5];exact Byk.out)
    rw[←hw5]
    clear hw5 p2 y0 y1 x2 l1 l2
    obtain⟨c,hc⟩:∃m,m=w5.heap.size:=⟨_,rfl⟩
    obtain⟨w6,hup,hmb,hk6⟩:=(HC5.out.same (w':=(w5.alloc (.cells #[.slice none 0 0] 202)).drew) ((Kept.refl _ w5).alloc _).drew).mapN HA3.out n c
    have p2:w5.cell? ⟨p,2,none⟩=some (.map (some mb)):=HC5.out.blk.cell 2
    have y0:=By5.out.cell 0
    have y1:=By5.out.cell 1
    have x2:=Bx5.out.cell 2
    simp at y0 y1 x2
    have hsA:Same w5 (w5.alloc (.cells #[.slice none 0 0] 202)):=(Kept.refl _ _).alloc _
    have p2a:=hsA.cell p2 (fun f=>f)
    have y0a:=hsA.cell y0 (fun f=>f)
    have y1a:=hsA.cell y1 (fun f=>f)
    have x2a:=hsA.cell x2 (fun f=>f)
    have l1:=(HC5.out.same (w':=w5.drew) (Kept.refl _ w5).drew).look1 b
    have l1a:=(HC5.out.same (w':=(w5.alloc (.cells #[.slice none 0 0] 202)).drew) ((Kept.refl _ w5).alloc _).drew).look1 b
    rw[HGk.out.1]at l1 l1a
    rw[hc]at hup
    have HM:Hid (c=w5.heap.size):=hc
    have HUP:=hid (And.intro hmb hk6)
    clear hsA hc hmb hk6
    go_region
    go_upto_region 6 with fail
    as_aux_lemma=>
     have hk56:Kept (·=a) w5 w6:=Kept.trans (F:=fun _=>False) ((Kept.refl _ w5).alloc _).drew HUP.out.2 (fun _ _ f=>False.elim f) (fun _ _ e=>e)
     have hN5:N≤w5.heap.size:=Nat.le_trans HQ.out.1 HK5.out.size
     have hal:a<w5.heap.size:=(HC5.out.new a (by rw[HA3.out];decide)).2
     have hbc:Blk w6 c #[.slice none 0 0] 202:=by
      rw[HM.out]
      exact Blk.kept (Blk.new w5 #[.slice none 0 0] 202) (F:=(·=a)) HUP.out.2.undrewC (fun e=>by omega)
     have HC6:Hid (Ck (K+2) N w6 p (addC s1 a n c) (fun k=>if k=c then 4 else ρ1 k) mb):=hid (HC5.out.addCh HA3.out hN5 (by rw[HM.out];exact Nat.le_refl _) hbc HUP.out.1 hk56 HQ.out.2.2.2)
     have HF6:Hid (fndC (addC s1 a n c) b n=some c):=hid (by rw[addC_fnd HC5.out HGk.out.1,if_pos ⟨rfl,rfl⟩])
     have HGc:Hid (getK b (addC s1 a n c).bx=some a):=hid HGk.out.1
     have Bx6:Hid (Blk w6 xb #[.string b.tn,.string b.ar,.string n.s] 63):=hid (Bx5.out.kept hk56 (fun e=>by
      rcases HEk.out a with h1 | h1
      ·have:=(HC.out.new a (by rw[←h1,HA3.out];decide)).2;have:=HLT.out;omega
      ·have h3:=HCk.out.new a (by rw[HA3.out];decide)
       have e2:=HCk.out.am a HA3.out
       rw[←e]at e2
       obtain⟨es,cl,e4,_⟩:=e2
       have e5:=Bxk.out
       unfold Blk at e5
       rw[e4]at e5
       cases e5))
     have By6:Hid (Blk w6 yb #[.string b.tn,.string b.ar] 128):=hid (By5.out.kept hk56 (fun e=>by
      rcases HEk.out a with h1 | h1
      ·have:=(HC.out.new a (by rw[←h1,HA3.out];decide)).2;have:=HLT.out;omega
      ·have e2:=HCk.out.am a HA3.out
       rw[←e]at e2
       obtain⟨es,cl,e4,_⟩:=e2
       have e5:=Byk.out
       unfold Blk at e5
       rw[e4]at e5
       cases e5))
     have HFin:Hid ((∀b' n',vers (addC s1 a n c) b' n'=vers s b' n')∧(addC s1 a n c).now=s.now∧(addC s1 a n c).floor=s.floor∧ExtC w ρ (fun k=>if k=c then 4 else ρ1 k)∧Kept (fun k=>ρ k≠0) w w6):=hid ⟨fun b' n'=>(addC_vers HC5.out HGk.out.1 HG2.out (by rw[HM.out];exact Nat.le_refl _) b' n').trans (HVk.out.1 b' n'),HVk.out.2.1,HVk.out.2.2,(fun k=>by
       by_cases e:k=c
       ·refine .inr ⟨by rw[e,HM.out];exact HK5.out.size,?_⟩
        cases hz:ρ k with
        | zero=>rfl
        | succ q=>have:=(HC.out.new k (by omega)).2;have:=HM.out;have:=HK5.out.size;omega
       ·show(if k=c then 4 else ρ1 k)=ρ k∨_
        rw[if_neg e]
        exact HEk.out k),Kept.trans HK5.out hk56 (fun _ _ e=>e) (fun k hlt e=>by
       rcases HEk.out a with h1 | h1
       ·rw[e,←h1,HA3.out];decide
       ·rw[e]at hlt;omega)⟩
     obtain⟨s6,ρ6,HC6',HF6',HGc',HFin'⟩:∃s6 ρ6,Hid (Ck (K+2) N w6 p s6 ρ6 mb)∧Hid (fndC s6 b n=some c)∧Hid (getK b s6.bx=some a)∧Hid ((∀b' n',vers s6 b' n'=vers s b' n')∧s6.now=s.now∧s6.floor=s.floor∧ExtC w ρ ρ6∧Kept (fun k=>ρ k≠0) w w6):=⟨_,_,HC6,HF6,HGc,HFin⟩
     clear HC6 HF6 HGc HFin
     clear p2 p2a y0 y0a y1 y1a x2 x2a l1 l1a hup hk56 hN5 hal hbc HC5 HK5 Bx5 By5 HUP HM HCk HGk HVk HEk HKk Bxk Byk HNk HG2 HA3
     have p2:w6.cell? ⟨p,2,none⟩=some (.map (some mb)):=HC6'.out.blk.cell 2
     have y0:=By6.out.cell 0
     have y1:=By6.out.cell 1
     have x2:=Bx6.out.cell 2
     simp at y0 y1 x2
     have l1:=(HC6'.out.same (w':=w6.drew) (Kept.refl _ w6).drew).look1 b
     have l2:=(HC6'.out.same (w':=w6.drew) (Kept.refl _ w6).drew).look2 b n
     rw[HGc'.out]at l1 l2
     rw[HF6'.out]at l2
     unfold ptO at l2
     simp only[Option.map_some]at l2
     go_region
     go_wp2_with fail
     go_ret
     exact⟨c,s6,ρ6,rfl,HC6'.out.same (Kept.refl _ w6).drew,HF6'.out,HFin'.out.1,HFin'.out.2.1,HFin'.out.2.2.1,HFin'.out.2.2.2.1,HFin'.out.2.2.2.2.drew⟩
 ·subst e
  go_region
  go_upto_region 4 with fail
  obtain⟨w4,hw4⟩:∃W,W=w2.drew:=⟨_,rfl⟩
  have HCk:Hid (Ck (K+1) N w4 p s ρ mb):=hid (by rw[hw4];exact(HC2.out.same (Kept.refl _ w2).drew).more (by omega) HQ.out.2.1)
  have HGk:Hid (getK b s.bx=some a∧∀b' n',fndC s b' n'=fndC s b' n'):=hid ⟨HG.out,fun _ _=>rfl⟩
  have HVk:Hid ((∀b' n',vers s b' n'=vers s b' n')∧s.now=s.now∧s.floor=s.floor):=hid ⟨fun _ _=>rfl,rfl,rfl⟩
  have HEk:Hid (ExtC w ρ ρ):=hid (ExtC.refl _ _)
  have HKk:Hid (Kept (fun k=>ρ k≠0) w w4):=hid (by rw[hw4];exact(HK2.out.mono (fun _ _ f=>f.elim)).drew)
  have Bxk:Hid (Blk w4 xb #[.string b.tn,.string b.ar,.string n.s] 63):=hid (by rw[hw4];exact B2.out)
  have Byk:Hid (Blk w4 yb #[.string b.tn,.string b.ar] 128):=hid (by rw[hw4];exact B3.out)
  rw[←hw4]
  clear hw4 p2 y0 y1 x2 l1 l2
  as_aux_lemma=>
   have HNk:Hid (fndC s b n=none):=hid (by rw[HGk.out.2];exact HNF.out)
   have hg2:getK n (s.ar a)=none:=by have h1:=HNk.out;unfold fndC at h1;rw[HGk.out.1]at h1;exact h1
   have ha3:ρ a=3:=HCk.out.ba _ (getK_mem HGk.out.1)
   have p2:w4.cell? ⟨p,2,none⟩=some (.map (some mb)):=HCk.out.blk.cell 2
   have y0:=Byk.out.cell 0
   have y1:=Byk.out.cell 1
   have x2:=Bxk.out.cell 2
   simp at y0 y1 x2
   have l1:=(HCk.out.same (w':=w4.drew) (Kept.refl _ w4).drew).look1 b
   have l2:=(HCk.out.same (w':=w4.drew) (Kept.refl _ w4).drew).look2 b n
   rw[HGk.out.1]at l1 l2
   rw[HNk.out]at l2
   unfold ptO at l2
   simp only[Option.map_none]at l2
   have HG2:=hid hg2
   have HA3:=hid ha3
   clear hg2 ha3
   go_region
   go_upto_region 5 with fail
   as_aux_lemma=>
    obtain⟨w5,hw5⟩:∃W,W=w4.drew:=⟨_,rfl⟩
    have HC5:Hid (Ck (K+1) N w5 p s ρ mb):=hid (by rw[hw5];exact HCk.out.same (Kept.refl _ w4).drew)
    have HK5:Hid (Kept (fun k=>ρ k≠0) w w5):=hid (by rw[hw5];exact HKk.out.drew)
    have Bx5:Hid (Blk w5 xb #[.string b.tn,.string b.ar,.string n.s] 63):=hid (by rw[hw5];exact Bxk.out)
    have By5:Hid (Blk w5 yb #[.string b.tn,.string b.ar] 128):=hid (by rw[hw5];exact Byk.out)
    rw[←hw5]
    clear hw5 p2 y0 y1 x2 l1 l2
    obtain⟨c,hc⟩:∃m,m=w5.heap.size:=⟨_,rfl⟩
    obtain⟨w6,hup,hmb,hk6⟩:=(HC5.out.same (w':=(w5.alloc (.cells #[.slice none 0 0] 202)).drew) ((Kept.refl _ w5).alloc _).drew).mapN HA3.out n c
    have p2:w5.cell? ⟨p,2,none⟩=some (.map (some mb)):=HC5.out.blk.cell 2
    have y0:=By5.out.cell 0
    have y1:=By5.out.cell 1
    have x2:=Bx5.out.cell 2
    simp at y0 y1 x2
    have hsA:Same w5 (w5.alloc (.cells #[.slice none 0 0] 202)):=(Kept.refl _ _).alloc _
    have p2a:=hsA.cell p2 (fun f=>f)
    have y0a:=hsA.cell y0 (fun f=>f)
    have y1a:=hsA.cell y1 (fun f=>f)
    have x2a:=hsA.cell x2 (fun f=>f)
    have l1:=(HC5.out.same (w':=w5.drew) (Kept.refl _ w5).drew).look1 b
    have l1a:=(HC5.out.same (w':=(w5.alloc (.cells #[.slice none 0 0] 202)).drew) ((Kept.refl _ w5).alloc _).drew).look1 b
    rw[HGk.out.1]at l1 l1a
    rw[hc]at hup
    have HM:Hid (c=w5.heap.size):=hc
    have HUP:=hid (And.intro hmb hk6)
    clear hsA hc hmb hk6
    go_region
    go_upto_region 6 with fail
    as_aux_lemma=>
     have hk56:Kept (·=a) w5 w6:=Kept.trans (F:=fun _=>False) ((Kept.refl _ w5).alloc _).drew HUP.out.2 (fun _ _ f=>False.elim f) (fun _ _ e=>e)
     have hN5:N≤w5.heap.size:=Nat.le_trans HQ.out.1 HK5.out.size
     have hal:a<w5.heap.size:=(HC5.out.new a (by rw[HA3.out];decide)).2
     have hbc:Blk w6 c #[.slice none 0 0] 202:=by
      rw[HM.out]
      exact Blk.kept (Blk.new w5 #[.slice none 0 0] 202) (F:=(·=a)) HUP.out.2.undrewC (fun e=>by omega)
     have HC6:Hid (Ck (K+2) N w6 p (addC s a n c) (fun k=>if k=c then 4 else ρ k) mb):=hid (HC5.out.addCh HA3.out hN5 (by rw[HM.out];exact Nat.le_refl _) hbc HUP.out.1 hk56 HQ.out.2.2.2)
     have HF6:Hid (fndC (addC s a n c) b n=some c):=hid (by rw[addC_fnd HC5.out HGk.out.1,if_pos ⟨rfl,rfl⟩])
     have HGc:Hid (getK b (addC s a n c).bx=some a):=hid HGk.out.1
     have Bx6:Hid (Blk w6 xb #[.string b.tn,.string b.ar,.string n.s] 63):=hid (Bx5.out.kept hk56 (fun e=>by
      rcases HEk.out a with h1 | h1
      ·have:=(HC.out.new a (by rw[←h1,HA3.out];decide)).2;have:=HLT.out;omega
      ·have h3:=HCk.out.new a (by rw[HA3.out];decide)
       have e2:=HCk.out.am a HA3.out
       rw[←e]at e2
       obtain⟨es,cl,e4,_⟩:=e2
       have e5:=Bxk.out
       unfold Blk at e5
       rw[e4]at e5
       cases e5))
     have By6:Hid (Blk w6 yb #[.string b.tn,.string b.ar] 128):=hid (By5.out.kept hk56 (fun e=>by
      rcases HEk.out a with h1 | h1
      ·have:=(HC.out.new a (by rw[←h1,HA3.out];decide)).2;have:=HLT.out;omega
      ·have e2:=HCk.out.am a HA3.out
       rw[←e]at e2
       obtain⟨es,cl,e4,_⟩:=e2
       have e5:=Byk.out
       unfold Blk at e5
       rw[e4]at e5
       cases e5))
     have HFin:Hid ((∀b' n',vers (addC s a n c) b' n'=vers s b' n')∧(addC s a n c).now=s.now∧(addC s a n c).floor=s.floor∧ExtC w ρ (fun k=>if k=c then 4 else ρ k)∧Kept (fun k=>ρ k≠0) w w6):=hid ⟨fun b' n'=>(addC_vers HC5.out HGk.out.1 HG2.out (by rw[HM.out];exact Nat.le_refl _) b' n').trans (HVk.out.1 b' n'),HVk.out.2.1,HVk.out.2.2,(fun k=>by
       by_cases e:k=c
       ·refine .inr ⟨by rw[e,HM.out];exact HK5.out.size,?_⟩
        cases hz:ρ k with
        | zero=>rfl
        | succ q=>have:=(HC.out.new k (by omega)).2;have:=HM.out;have:=HK5.out.size;omega
       ·show(if k=c then 4 else ρ k)=ρ k∨_
        rw[if_neg e]
        exact HEk.out k),Kept.trans HK5.out hk56 (fun _ _ e=>e) (fun k hlt e=>by
       rcases HEk.out a with h1 | h1
       ·rw[e,←h1,HA3.out];decide
       ·rw[e]at hlt;omega)⟩
     obtain⟨s6,ρ6,HC6',HF6',HGc',HFin'⟩:∃s6 ρ6,Hid (Ck (K+2) N w6 p s6 ρ6 mb)∧Hid (fndC s6 b n=some c)∧Hid (getK b s6.bx=some a)∧Hid ((∀b' n',vers s6 b' n'=vers s b' n')∧s6.now=s.now∧s6.floor=s.floor∧ExtC w ρ ρ6∧Kept (fun k=>ρ k≠0) w w6):=⟨_,_,HC6,HF6,HGc,HFin⟩
     clear HC6 HF6 HGc HFin
     clear p2 p2a y0 y0a y1 y1a x2 x2a l1 l1a hup hk56 hN5 hal hbc HC5 HK5 Bx5 By5 HUP HM HCk HGk HVk HEk HKk Bxk Byk HNk HG2 HA3
     have p2:w6.cell? ⟨p,2,none⟩=some (.map (some mb)):=HC6'.out.blk.cell 2
     have y0:=By6.out.cell 0
     have y1:=By6.out.cell 1
     have x2:=Bx6.out.cell 2
     simp at y0 y1 x2
     have l1:=(HC6'.out.same (w':=w6.drew) (Kept.refl _ w6).drew).look1 b
     have l2:=(HC6'.out.same (w':=w6.drew) (Kept.refl _ w6).drew).look2 b n
     rw[HGc'.out]at l1 l2
     rw[HF6'.out]at l2
     unfold ptO at l2
     simp only[Option.map_some]at l2
     go_region
     go_wp2_with fail
     go_ret
     exact⟨c,s6,ρ6,rfl,HC6'.out.same (Kept.refl _ w6).drew,HF6'.out,HFin'.out.1,HFin'.out.2.1,HFin'.out.2.2.1,HFin'.out.2.2.2.1,HFin'.out.2.2.2.2.drew⟩

end Go.Proofs.YtcfociogljhbiaaGreatDoor
