import Derived.Test.YtggcbnhckcenmaaGreatDoorDfR
namespace Go.Proofs.YtggcbnhckcenmaaGreatDoor

theorem storeB_length(data:List Nat):(storeB data).length=data.length+5:=by simp[storeB]

theorem PFix.reads{ts:List TK}{x:List Nat}(h:PFix ts x){n most:Nat}(hm:measT 16384 ts 0=.ok n)(hb:∀t∈ts,t.lit<256)(hn:n≤most)(h16:most≤16384):∃t,Ends (ofBytes x) most ps0 t 0∧t.out=expT ts []∧(t.c+7) / 8=x.length:=fixed_reads hm hb hn h16 h.1

theorem PDyn.reads{ts:List TK}{x:List Nat}(h:PDyn ts x){n most:Nat}(hm:measT 16384 ts 0=.ok n)(hb:∀t∈ts,t.lit<256)(hn:n≤most)(h16:most≤16384):∃t,Ends (ofBytes x) most ps0 t 0∧t.out=expT ts []∧(t.c+7) / 8=x.length:=by
 have hd:=dyn_ok hm hb
 exact dyn_reads hd.ok h.2 hd.toks hm hn h16 h.1.1

theorem PDef.cases{data bs:List Nat}(h:PDef data bs):bs=storeB data∨PFix (findM data) bs∨PDyn (findM data) bs:=by
 obtain⟨x2,x3,rfl,h2,h3⟩:=h
 have hb:∀a b:List Nat,bestL a b=a∨bestL a b=b:=fun a b=>by unfold bestL;split<;>simp
 rcases hb (bestL (storeB data) x2) x3 with e | e
 ·rw[e]
  rcases hb (storeB data) x2 with e | e
  ·exact .inl e
  ·rw[e];exact .inr (.inl h2)
 ·rw[e];exact .inr (.inr h3)

theorem PDef.short{data bs:List Nat}(h:PDef data bs):bs.length≤data.length+5∧∀x,PFix (findM data) x→bs.length≤x.length:=by
 obtain⟨x2,x3,rfl,h2,h3⟩:=h
 have e:=storeB_length data
 have hb:∀a b:List Nat,(bestL a b).length≤a.length∧(bestL a b).length≤b.length:=fun a b=>by unfold bestL;split<;>omega
 have hl:=hb (bestL (storeB data) x2) x3
 have hl2:=hb (storeB data) x2
 refine⟨by omega,fun x hx=>?_⟩
 have h9:=h2.1.len
 have h8:=hx.1.len
 omega

theorem PDef.reads{data bs:List Nat}(h:PDef data bs)(hb:∀b∈data,b<256){most:Nat}(hl:data.length≤most)(h16:most≤16384):∃t,Ends (ofBytes bs) most ps0 t 0∧t.out=data∧(t.c+7) / 8=bs.length:=by
 obtain⟨hm,hfb,he⟩:=findM_ok hb (Nat.le_trans hl h16)
 rcases h.cases with rfl | h | h
 ·exact stored_reads hb hl h16
 ·have:=h.reads hm hfb hl h16
  rwa [he]at this
 ·have:=h.reads hm hfb hl h16
  rwa [he]at this

theorem bits8_inj{x y:Nat}(hx:x<256)(hy:y<256)(h:bitsOf x 8=bitsOf y 8):x=y:=by
 have:=congrArg n2 h
 rw[bitsOf_n2,bitsOf_n2,Nat.mod_eq_of_lt (by omega),Nat.mod_eq_of_lt (by omega)]at this
 exact this

theorem ofBytes_inj7{a b:List Nat}(ha:∀x∈a,x<256)(hb:∀x∈b,x<256)(h:ofBytes a=ofBytes b):a=b:=by
 induction a generalizing b with
 | nil=>
  have:=congrArg List.length h
  rw[ofBytes_length,ofBytes_length]at this
  cases b with
  | nil=>rfl
  | cons y r=>simp at this
 | cons x r ih=>
  cases b with
  | nil=>
   have:=congrArg List.length h
   rw[ofBytes_length,ofBytes_length]at this
   simp at this
  | cons y s=>
   have e:∀z (l:List Nat),ofBytes (z::l)=bitsOf z 8++ofBytes l:=fun z l=>by simp[ofBytes]
   rw[e,e]at h
   have h2:=List.append_inj h (by rw[bitsOf_length,bitsOf_length])
   rw[bits8_inj (ha x (by simp)) (hb y (by simp)) h2.1,ih (fun z hz=>ha z (by simp[hz])) (fun z hz=>hb z (by simp[hz])) h2.2]

theorem packs_inj{a b X:List Nat}(ha:Packs a X)(hb:Packs b X)(h1:∀x∈a,x<256)(h2:∀x∈b,x<256):a=b:=by
 obtain⟨k,hk⟩:=ha.pad
 obtain⟨j,hj⟩:=hb.pad
 have l1:=congrArg List.length hk
 have l2:=congrArg List.length hj
 rw[ofBytes_length,List.length_append,List.length_replicate]at l1 l2
 have l3:=ha.len
 have l4:=hb.len
 have e:k=j:=by omega
 subst e
 exact ofBytes_inj7 h1 h2 (hk.trans hj.symm)

def exT:List TK:=[⟨97,0,0⟩,⟨0,6,1⟩]
theorem exT_ok:measT 16384 exT 0=.ok 7:=by rfl
theorem exT_packs:Packs [75,132,0,0] (fixBits exT):=⟨⟨(8*4-(fixBits exT).length),by decide +kernel⟩,by decide +kernel⟩

theorem exT_is{x:List Nat}(h:PFix exT x):x=[75,132,0,0]:=packs_inj h.1 exT_packs h.2 (by decide)

end Go.Proofs.YtggcbnhckcenmaaGreatDoor
