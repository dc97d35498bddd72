import Derived.Test.YtggcbnhckcenmaaGreatDoorDfM
namespace Go.Proofs.YtggcbnhckcenmaaGreatDoor

theorem measT_lim7{M most:Nat}{ts:List TK}{s n:Nat}(h:measT M ts s=.ok n)(hs:s≤M)(hn:n≤most):measT most ts s=.ok n:=by
 induction ts generalizing s with
 | nil=>exact h
 | cons t r ih=>
  unfold measT at h ⊢
  split at h
  ·cases h
  ·rename_i h1
   rw[if_neg h1]
   split at h
   ·cases h
   ·rename_i h2
    have:=measT_le h (by omega)
    rw[if_neg (by omega)]
    exact ih h (by omega)

theorem measT_may7{M:Nat}{ts:List TK}{s n:Nat}(h:measT M ts s=.ok n)(hs:s≤M):∀t∈ts,∃said,said≤M∧mayT t said=true:=by
 induction ts generalizing s with
 | nil=>intro t ht;simp at ht
 | cons x r ih=>
  unfold measT at h
  split at h
  ·cases h
  ·rename_i h1
   split at h
   ·cases h
   ·rename_i h2
    intro t ht
    rcases List.mem_cons.1 ht with rfl | ht
    ·exact⟨s,hs,by simpa using h1⟩
    ·exact ih h (by omega) t ht

theorem syms_of{t:TK}{said:Nat}(h:mayT t said=true)(hs:said≤16384)(hl:t.lit<256):
  (litMk t).sym≤285∧(litMk t).extra<2 ^ (litMk t).width∧(litMk t).width≤5∧(t.len=0→(litMk t).sym=t.lit∧(litMk t).extra=0∧(litMk t).width=0)∧(t.len≠0→257≤(litMk t).sym∧(distMk t).sym≤29∧(distMk t).extra<2 ^ (distMk t).width∧(distMk t).width≤13):=by
 rcases mayT_cases h with⟨h0,_,h1⟩ | ⟨n,d,h0,hd0,_,h3,h4,h5,h6,h1⟩
 ·have hmk:litMk t=⟨t.lit,0,0⟩:=by unfold litMk;rw[if_pos h0]
  rw[hmk]
  exact⟨by simp only;omega,by simp,by simp,fun _=>⟨rfl,rfl,rfl⟩,fun h9=>absurd h0 h9⟩
 ·have hn0:t.len≠0:=by omega
  have hd:(distMk t).sym≤29∧(distMk t).extra<2 ^ (distMk t).width∧(distMk t).width≤13:=by
   have hdm:distMk t=⟨splS (d-1) 2,splX (d-1) 2,splW (d-1) 2⟩:=by unfold distMk;rw[hd0];simp
   rw[hdm]
   have:=splS_small (d-1) 2 12 (by omega) (by decide)
   have hb:=(blen_le (d-1) 14).2 (by omega)
   exact⟨by simp only;omega,splX_lt _ _,by simp only[splW];omega⟩
  refine⟨?_,?_,?_,fun h9=>absurd h9 hn0,fun _=>⟨?_,hd⟩⟩
  all_goals
   by_cases h258:n=258
   ·have hmk:litMk t=⟨285,0,0⟩:=by unfold litMk;rw[if_neg hn0,if_pos (by omega)]
    rw[hmk]
    simp
   ·have hmk:litMk t=⟨257+splS (n-3) 3,splX (n-3) 3,splW (n-3) 3⟩:=by unfold litMk;rw[if_neg hn0,if_neg (by omega),h0];simp
    rw[hmk]
    have:=splS_small (n-3) 3 5 (by omega) (by decide)
    have hb:=(blen_le (n-3) 8).2 (by omega)
    have hx:=splX_lt (n-3) 3
    simp only[splW]at hx ⊢
    first
     | exact hx
     | omega

theorem fix_keys:(List.range 288).all (fun s=>decide (key fixL s≠0))=true:=by decide +kernel
theorem fix_keysD:(List.range 32).all (fun s=>decide (key fixD s≠0))=true:=by decide +kernel
theorem fix_lens:fixL.length=288∧fixD.length=32:=by decide +kernel

theorem fix_toks{ts:List TK}{n:Nat}(h:measT 16384 ts 0=.ok n)(hb:∀t∈ts,t.lit<256):ToksOk fixL fixD ts:=by
 have hk:∀s,s<288→key fixL s≠0:=fun s hs=>by simpa using List.all_eq_true.1 fix_keys s (List.mem_range.2 hs)
 have hkD:∀s,s<32→key fixD s≠0:=fun s hs=>by simpa using List.all_eq_true.1 fix_keysD s (List.mem_range.2 hs)
 refine⟨fun t ht=>?_,⟨by rw[fix_lens.1];decide,hk 256 (by decide)⟩,hb⟩
 obtain⟨said,h1,h2⟩:=measT_may7 h (by decide) t ht
 have h3:=syms_of h2 h1 (hb t ht)
 refine⟨by rw[fix_lens.1];omega,hk _ (by omega),fun h9=>?_⟩
 have h4:=h3.2.2.2.2 h9
 exact⟨by rw[fix_lens.2];omega,hkD _ (by omega)⟩

structure Packs(bs X:List Nat):Prop where
 pad:∃k,ofBytes bs=X++List.replicate k 0
 len:bs.length=(X.length+7) / 8

theorem zeros_bit(k:Nat):∀b∈List.replicate k 0,b<2:=fun b hb=>by have:=List.eq_of_mem_replicate hb;omega

def fixBits(ts:List TK):List Nat:=[1,1,0]++(ts.flatMap (tokBits fixL fixD)++rowOf fixL 256)

theorem fixed_reads{ts:List TK}{n most:Nat}(h:measT 16384 ts 0=.ok n)(hb:∀t∈ts,t.lit<256)(hn:n≤most)(hm:most≤16384){bs:List Nat}(hp:Packs bs (fixBits ts)):∃t,Ends (ofBytes bs) most ps0 t 0∧t.out=expT ts []∧(t.c+7) / 8=bs.length:=by
 obtain⟨k,hk⟩:=hp.pad
 have h9:=toks_end fix_ok (List.replicate k 0) (zeros_bit k) most hm ts (fix_toks h hb) [1,1,0] [] n (measT_lim7 h (by decide) hn) (Nat.zero_le _)
 have e:ofBytes bs=[1,1,0]++(ts.flatMap (tokBits fixL fixD)++(rowOf fixL 256++List.replicate k 0)):=by rw[hk];unfold fixBits;simp[List.append_assoc]
 rw[←e]at h9
 refine⟨_,.step (stP_none_ok (s:=ps0) (b:=.sym true fixL fixD) (c:=3) rfl ?_) h9,rfl,?_⟩
 ·rw[e]
  have h1:∀r:List Nat,tkP (1::1::0::r) 0 1=.ok (1,1):=fun r=>by rw[tkP_is (by simp)];rfl
  have h2:∀r:List Nat,tkP (1::1::0::r) 1 2=.ok (1,3):=fun r=>by rw[tkP_is (by simp)];rfl
  show begP (1::1::0::_) 0=_
  unfold begP
  rw[bindP_is (h1 _),bindP_is (h2 _)]
  rfl
 ·rw[hp.len]
  unfold fixBits
  simp only[List.length_append,rowOf_length,List.length_cons,List.length_nil]
  congr 1

def dynBits(lit dist:List Nat)(many:Nat)(cs:List Nat)(sn:List (Nat×Nat))(ts:List TK):List Nat:=[1,0,1]++(headBits lit.length dist.length many cs sn++(ts.flatMap (tokBits lit dist)++rowOf lit 256))

theorem dyn_reads{lit dist:List Nat}{many:Nat}{cs:List Nat}{sn:List (Nat×Nat)}(ho:OkL lit dist)(hh:HeadOk lit dist many cs sn){ts:List TK}{n most:Nat}(hk:ToksOk lit dist ts)(h:measT 16384 ts 0=.ok n)(hn:n≤most)(hm:most≤16384){bs:List Nat}(hp:Packs bs (dynBits lit dist many cs sn ts)):
  ∃t,Ends (ofBytes bs) most ps0 t 0∧t.out=expT ts []∧(t.c+7) / 8=bs.length:=by
 obtain⟨k,hkk⟩:=hp.pad
 obtain⟨H,hH⟩:∃H,headBits lit.length dist.length many cs sn=H:=⟨_,rfl⟩
 have h9:=toks_end ho (List.replicate k 0) (zeros_bit k) most hm ts hk ([1,0,1]++H) [] n (measT_lim7 h (by decide) hn) (Nat.zero_le _)
 have e:ofBytes bs=[1,0,1]++(H++(ts.flatMap (tokBits lit dist)++(rowOf lit 256++List.replicate k 0))):=by rw[hkk];unfold dynBits;rw[hH];simp[List.append_assoc]
 have e2:ofBytes bs=([1,0,1]++H)++(ts.flatMap (tokBits lit dist)++(rowOf lit 256++List.replicate k 0)):=by rw[e];simp
 rw[←e2]at h9
 have hrd:=readF_laid hh [1,0,1] (ts.flatMap (tokBits lit dist)++(rowOf lit 256++List.replicate k 0)) (fun b hb=>by
  rcases List.mem_append.1 hb with h | h
  ·exact toksBits_bit _ _ _ b h
  ·rcases List.mem_append.1 h with h | h
   ·exact rowOf_bit _ _ b h
   ·exact zeros_bit k b h)
 rw[hH,←e]at hrd
 have hhd:head5 (ofBytes bs) 3=.ok ((lit,dist),H.length):=by
  unfold head5
  rw[show(3:Nat)=([1,0,1]:List Nat).length from rfl,hrd]
  simp only
  rw[if_neg]
  intro hc
  rcases hc with hc | hc | hc
  ·exact hk.end'.2 hc
  ·exact hc ho.lit.ok
  ·exact hc.2 (ho.dist hc.1).ok
 have hl3:([1,0,1]++H:List Nat).length=3+H.length:=by simp;omega
 rw[hl3]at h9
 refine⟨_,.step (stP_none_ok (s:=ps0) (b:=.sym true lit dist) (c:=3+H.length) rfl ?_) h9,rfl,?_⟩
 ·have h1:tkP (ofBytes bs) 0 1=.ok (1,1):=by rw[e,tkP_is (by simp)];rfl
  have h2:tkP (ofBytes bs) 1 2=.ok (2,3):=by rw[e,tkP_is (by simp)];rfl
  show begP (ofBytes bs) 0=_
  unfold begP
  rw[bindP_is h1,bindP_is h2]
  unfold kndP
  rw[if_neg (by decide),if_neg (by decide),if_pos rfl]
  unfold hdP
  rw[hhd]
  rfl
 ·rw[hp.len]
  unfold dynBits
  rw[hH]
  simp only[List.length_append,rowOf_length,List.length_cons,List.length_nil]
  congr 1
  omega

def storeB(data:List Nat):List Nat:=[1,data.length % 256,data.length / 256,255-data.length % 256,255-data.length / 256]++data

theorem raw_reads(most:Nat)(data:List Nat)(hb:∀b∈data,b<256)(A out:List Nat)(h:out.length+data.length≤most):
  Ends (A++ofBytes data) most ⟨A.length,out,some (.raw true data.length)⟩ ⟨A.length+8*data.length,out++data,some (.raw true 0)⟩ 0:=by
 induction data generalizing A out with
 | nil=>
  refine .done ?_
  show stP (A++ofBytes []) most ⟨A.length,out,some (.raw true 0)⟩=_
  rw[stP_some_ok (s:=⟨A.length,out,some (.raw true 0)⟩) (x:=((.fin,.raw true 0),A.length)) rfl rfl,goP_fin]
  simp[Bk.last]
 | cons x r ih=>
  have hx:=hb x (by simp)
  have e0:ofBytes (x::r)=bitsOf x 8++ofBytes r:=by
   simp[ofBytes]
  have hnum:numAt (A++(bitsOf x 8++ofBytes r)) A.length 8=x:=numAt_laid A (ofBytes r) x 8 (by omega)
  have hst:stepP (A++(bitsOf x 8++ofBytes r)) (.raw true (r.length+1)) A.length=.ok ((.byte x,.raw true r.length),A.length+8):=by
   rw[stepP_raw,tkP_is (by rw[List.length_append,List.length_append,bitsOf_length];omega),hnum]
   rfl
  have h9:=ih (fun b hb'=>hb b (by simp[hb'])) (A++bitsOf x 8) (out++[x]) (by simp at h ⊢;omega)
  rw[List.append_assoc,List.length_append,bitsOf_length]at h9
  rw[e0,List.length_cons]
  refine .step (s':=⟨A.length+8,out++[x],some (.raw true r.length)⟩) ?_ ?_
  ·rw[stP_some_ok (s:=⟨A.length,out,some (.raw true (r.length+1))⟩) rfl hst]
   exact goP_ok (by intro h;cases h) (by simp only[layP];rw[if_neg (by simp at h;omega)])
  ·rw[show A.length+8*(r.length+1)=A.length+8+8*r.length by omega]
   rw[List.append_assoc]at h9
   exact h9

theorem stored_reads{data:List Nat}(hb:∀b∈data,b<256){most:Nat}(hl:data.length≤most)(hm:most≤16384):∃t,Ends (ofBytes (storeB data)) most ps0 t 0∧t.out=data∧(t.c+7) / 8=(storeB data).length:=by
 obtain⟨n,hn⟩:∃n,data.length=n:=⟨_,rfl⟩
 obtain⟨P,hP⟩:∃P,P=bitsOf 1 8++(bitsOf (n % 256) 8++(bitsOf (n / 256) 8++(bitsOf (255-n % 256) 8++bitsOf (255-n / 256) 8))):=⟨_,rfl⟩
 have e:ofBytes (storeB data)=P++ofBytes data:=by
  unfold storeB
  rw[ofBytes_append,hn,hP]
  simp[ofBytes,List.append_assoc]
 have hPl:P.length=40:=by rw[hP];simp[bitsOf_length]
 have h9:=raw_reads most data hb P [] (by simpa using hl)
 rw[←e,hPl,hn]at h9
 have hls:40≤(ofBytes (storeB data)).length:=by rw[e,List.length_append,hPl];omega
 have num2:∀(A B:List Nat) (x y:Nat),x<256→y<256→numAt (A++(bitsOf x 8++(bitsOf y 8++B))) A.length 16=x+256*y:=fun A B x y hx hy=>by
  unfold numAt
  rw[List.drop_left,←List.append_assoc (bitsOf x 8),List.take_append_of_le_length (by simp[bitsOf_length]),List.take_of_length_le (by simp[bitsOf_length]),n2_append,bitsOf_n2,bitsOf_n2,bitsOf_length,Nat.mod_eq_of_lt (by omega),Nat.mod_eq_of_lt (by omega)]
 have hn16:n≤16384:=by omega
 have t1:tkP (ofBytes (storeB data)) 0 1=.ok (1,1):=by rw[tkP_is (by omega),e,hP];rfl
 have t2:tkP (ofBytes (storeB data)) 1 2=.ok (0,3):=by rw[tkP_is (by omega),e,hP];rfl
 have t3:tkP (ofBytes (storeB data)) 8 16=.ok (n,24):=by
  rw[tkP_is (by omega),e,hP]
  have:=num2 (bitsOf 1 8) (bitsOf (255-n % 256) 8++bitsOf (255-n / 256) 8++ofBytes data) (n % 256) (n / 256) (by omega) (by omega)
  rw[bitsOf_length]at this
  rw[show n % 256+256*(n / 256)=n by omega]at this
  simp only[List.append_assoc]at this ⊢
  rw[this]
 have t4:tkP (ofBytes (storeB data)) 24 16=.ok (65535-n,40):=by
  rw[tkP_is (by omega),e,hP]
  have:=num2 (bitsOf 1 8++(bitsOf (n % 256) 8++bitsOf (n / 256) 8)) (ofBytes data) (255-n % 256) (255-n / 256) (by omega) (by omega)
  simp only[List.length_append,bitsOf_length]at this
  rw[show 255-n % 256+256*(255-n / 256)=65535-n by omega]at this
  simp only[List.append_assoc]at this ⊢
  rw[this]
 refine⟨_,.step (stP_none_ok (s:=ps0) (b:=.raw true n) (c:=40) rfl ?_) h9,rfl,?_⟩
 ·show begP (ofBytes (storeB data)) 0=_
  unfold begP
  rw[bindP_is t1,bindP_is t2]
  unfold kndP
  rw[if_pos rfl]
  unfold cntP
  rw[show(3+7) / 8*8=8 from rfl,bindP_is t3,bindP_is t4,if_pos (by omega)]
  rfl
 ·simp only[storeB,List.length_append,List.length_cons,List.length_nil]
  omega

end Go.Proofs.YtggcbnhckcenmaaGreatDoor
