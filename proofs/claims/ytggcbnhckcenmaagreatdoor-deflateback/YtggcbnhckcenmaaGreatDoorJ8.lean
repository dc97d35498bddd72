/-
  Of the proof: parts HRev, HCode, HDecM, HDec, HDec2.
-/
import Derived.Laws.BitsAllLaws
import Derived.Test.YtggcbnhckcenmaaGreatDoorJ4
import Derived.Test.YtggcbnhckcenmaaGreatDoorJ7

namespace Go.Proofs.YtggcbnhckcenmaaGreatDoor
open Go.RowKit

def sw(s m x:Nat):Nat:=(x / 2 ^ s &&& m) ||| ((x &&& m)*2 ^ s % 4294967296)

def swAt(s i:Nat):Nat:=if i % (2*s)<s then i+s else i-s

theorem sw_bit(s m x i:Nat)(hi:i<32)(hs:s=1∨s=2∨s=4∨s=8)(hm:∀j,j<32→m.testBit j=decide (j % (2*s)<s)):(sw s m x).testBit i=x.testBit (swAt s i):=by
 unfold sw swAt
 rw[Nat.testBit_or,Nat.testBit_and,Nat.testBit_div_two_pow,show(4294967296:Nat)=2 ^ 32 by rfl,Nat.testBit_mod_two_pow,Nat.testBit_mul_two_pow,Nat.testBit_and,hm i hi]
 by_cases h:i % (2*s)<s
 ·have h2:¬(s≤i∧(i-s) % (2*s)<s):=by rcases hs with rfl | rfl | rfl | rfl<;>omega
  by_cases h3:s≤i
  ·rw[hm (i-s) (by omega)]
   have h4:¬(i-s) % (2*s)<s:=fun h=>h2 ⟨h3,h⟩
   simp[h,h4]
  ·simp[h,h3]
 ·have h2:s≤i∧(i-s) % (2*s)<s:=by rcases hs with rfl | rfl | rfl | rfl<;>omega
  rw[hm (i-s) (by omega)]
  simp[h,h2.1,h2.2,hi]

theorem sw_lt(s m x:Nat)(hx:x<4294967296):sw s m x<4294967296:=by
 unfold sw
 rw[show(4294967296:Nat)=2 ^ 32 by rfl]at *
 refine Nat.or_lt_two_pow ?_ (Nat.mod_lt _ (by decide))
 exact Nat.lt_of_le_of_lt Nat.and_le_left (Nat.lt_of_le_of_lt (Nat.div_le_self _ _) hx)

def half(x:Nat):Nat:=x / 2 ^ 16 ||| x*2 ^ 16 % 4294967296

theorem half_bit(x i:Nat)(hi:i<32)(hx:x<4294967296):(half x).testBit i=x.testBit (if i<16 then i+16 else i-16):=by
 unfold half
 rw[Nat.testBit_or,Nat.testBit_div_two_pow,show(4294967296:Nat)=2 ^ 32 by rfl,Nat.testBit_mod_two_pow,Nat.testBit_mul_two_pow]
 by_cases h:i<16
 ·simp[h,show ¬16≤i by omega]
 ·have hz:x.testBit (i+16)=false:=Nat.testBit_lt_two_pow (Nat.lt_of_lt_of_le hx (Nat.pow_le_pow_right (n:=2) (by omega) (show 32≤i+16 by omega)))
  simp[h,show 16≤i by omega,hi,hz]

def rev32(x:Nat):Nat:=half (sw 8 16711935 (sw 4 252645135 (sw 2 858993459 (sw 1 1431655765 x))))

theorem rev32_bit(x i:Nat)(hi:i<32)(hx:x<4294967296):(rev32 x).testBit i=x.testBit (31-i):=by
 unfold rev32
 have e:∀i,i<32→swAt 1 (swAt 2 (swAt 4 (swAt 8 (if i<16 then i+16 else i-16))))=31-i:=by decide
 have l0:∀i,i<32→(if i<16 then i+16 else i-16)<32:=by decide
 have l8:∀i,i<32→swAt 8 i<32:=by decide
 have l4:∀i,i<32→swAt 4 i<32:=by decide
 have l2:∀i,i<32→swAt 2 i<32:=by decide
 rw[half_bit _ i hi (sw_lt _ _ _ (sw_lt _ _ _ (sw_lt _ _ _ (sw_lt _ _ _ hx)))),
  sw_bit 8 _ _ _ (l0 i hi) (by omega) (by decide),sw_bit 4 _ _ _ (l8 _ (l0 i hi)) (by omega) (by decide),sw_bit 2 _ _ _ (l4 _ (l8 _ (l0 i hi))) (by omega) (by decide),
  sw_bit 1 _ _ _ (l2 _ (l4 _ (l8 _ (l0 i hi)))) (by omega) (by decide),e i hi]

theorem half_lt(x:Nat)(hx:x<4294967296):half x<4294967296:=by
 unfold half
 rw[show(4294967296:Nat)=2 ^ 32 by rfl]at *
 exact Nat.or_lt_two_pow (Nat.lt_of_le_of_lt (Nat.div_le_self _ _) hx) (Nat.mod_lt _ (by decide))

theorem rev32_lt(x:Nat)(hx:x<4294967296):rev32 x<4294967296:=half_lt _ (sw_lt _ _ _ (sw_lt _ _ _ (sw_lt _ _ _ (sw_lt _ _ _ hx))))

def rv:Nat→Nat→Nat
 | 0,_=>0
 | n+1,c=>c % 2*2 ^ n+rv n (c / 2)

theorem rv_lt(n c:Nat):rv n c<2 ^ n:=by
 induction n generalizing c with
 | zero=>simp[rv]
 | succ n ih=>
  have h1:=ih (c / 2)
  have h2:c % 2*2 ^ n≤1*2 ^ n:=Nat.mul_le_mul_right _ (by omega)
  simp only[rv,Nat.pow_succ]
  omega

theorem rv_bit(n c k:Nat):(rv n c).testBit k=(decide (k<n) && c.testBit (n-1-k)):=by
 induction n generalizing c k with
 | zero=>simp[rv]
 | succ n ih=>
  simp only[rv]
  rw[Nat.mul_comm,Nat.testBit_two_pow_mul_add _ (rv_lt n (c / 2)),ih]
  by_cases h:k<n
  ·rw[if_pos h,Nat.testBit_div_two]
   simp[h,show k<n+1 by omega,show n-1-k+1=n-k by omega]
  ·rw[if_neg h]
   by_cases h2:k=n
   ·subst h2
    simp[Nat.testBit_zero]
   ·have:(c % 2).testBit (k-n)=false:=Nat.testBit_lt_two_pow (Nat.lt_of_lt_of_le (Nat.mod_lt _ (by decide)) (by
     have:=Nat.pow_le_pow_right (n:=2) (by omega) (show 1≤k-n by omega);omega))
    rw[this];simp;omega

theorem rev32_rv(x n:Nat)(hx:x<4294967296)(hn:n≤32):rev32 x / 2 ^ (32-n)=rv n x:=by
 refine Nat.eq_of_testBit_eq (fun k=>?_)
 rw[Nat.testBit_div_two_pow,rv_bit]
 by_cases h:k<n
 ·rw[rev32_bit x _ (by omega) hx]
  simp[h,show 31-(k+(32-n))=n-1-k by omega]
 ·have:(rev32 x).testBit (k+(32-n))=false:=Nat.testBit_lt_two_pow (Nat.lt_of_lt_of_le (rev32_lt x hx) (Nat.pow_le_pow_right (n:=2) (by omega) (show 32≤k+(32-n)by omega)))
  rw[this];simp[h]

theorem sw_int(s m x:Nat)(hx:x<4294967296)(hm:m<4294967296)(_hs:s≤8):
  bits .or .u32 (bits .and .u32 ((x:Int) / 2 ^ s) (m:Int)) (bits .and .u32 (x:Int) (m:Int)*2 ^ s % 4294967296)=((sw s m x:Nat):Int):=by
 have e1:((x:Int) / 2 ^ s)=((x / 2 ^ s:Nat):Int):=by simp
 have hd:x / 2 ^ s<4294967296:=Nat.lt_of_le_of_lt (Nat.div_le_self _ _) hx
 rw[e1,u32_and_nat _ _ hd hm,u32_and_nat _ _ hx hm]
 have e2:((x &&& m:Nat):Int)*2 ^ s % 4294967296=(((x &&& m)*2 ^ s % 4294967296:Nat):Int):=by simp
 rw[e2,u32_or_nat _ _ (Nat.lt_of_le_of_lt Nat.and_le_left hd) (Nat.mod_lt _ (by decide))]
 rfl

set_option maxHeartbeats 1000000 in
theorem revBytes_any(w:World)(x:Nat)(hx:x<4294967296):Calls Tryz.prog 167 #[.int .u32 (x:Nat)] w fun e w'=>e=.returned (.int .u32 ((half (sw 8 16711935 x):Nat):Int))∧w'=w:=by
 obtain⟨y,hy⟩:∃y,y=sw 8 16711935 x:=⟨_,rfl⟩
 have hyl:y<4294967296:=by rw[hy];exact sw_lt 8 16711935 x hx
 have e1:bits .or .u32 (bits .and .u32 ((x:Int) / 256) 16711935) (bits .and .u32 (x:Int) 16711935*256 % 4294967296)=(y:Int):=by
  have h:=sw_int 8 16711935 x hx (by decide) (by decide)
  rw[←hy]at h
  exact h
 have e2:bits .or .u32 ((y:Int) / 65536) ((y:Int)*65536 % 4294967296)=((half y:Nat):Int):=by
  have d1:(y:Int) / 65536=((y / 2 ^ 16:Nat):Int):=by omega
  have d2:(y:Int)*65536 % 4294967296=((y*2 ^ 16 % 4294967296:Nat):Int):=by omega
  rw[d1,d2,u32_or_nat _ _ (Nat.lt_of_le_of_lt (Nat.div_le_self _ _) hyl) (Nat.mod_lt _ (by decide))]
  rfl
 have HY:Hid (y=sw 8 16711935 x):=hy
 clear hy hyl hx
 go_enter Tryz.func167,Tryz.ntmps167
 go_wp2_with fail
 go_ret
 exact⟨by rw[←HY.out];rfl,rfl⟩

set_option maxHeartbeats 1000000 in
theorem reverse_any(w:World)(x:Nat)(hx:x<4294967296):Calls Tryz.prog 147 #[.int .u32 (x:Nat)] w fun e w'=>e=.returned (.int .u32 ((rev32 x:Nat):Int))∧w'=w:=by
 obtain⟨y,hy⟩:∃y,y=sw 1 1431655765 x:=⟨_,rfl⟩
 have hyl:y<4294967296:=by rw[hy];exact sw_lt 1 1431655765 x hx
 obtain⟨z,hz⟩:∃z,z=sw 2 858993459 y:=⟨_,rfl⟩
 have hzl:z<4294967296:=by rw[hz];exact sw_lt 2 858993459 y hyl
 obtain⟨t,ht⟩:∃t,t=sw 4 252645135 z:=⟨_,rfl⟩
 have htl:t<4294967296:=by rw[ht];exact sw_lt 4 252645135 z hzl
 have e1:bits .or .u32 (bits .and .u32 ((x:Int) / 2) 1431655765) (bits .and .u32 (x:Int) 1431655765*2 % 4294967296)=(y:Int):=by
  have h:=sw_int 1 1431655765 x hx (by decide) (by decide)
  rw[←hy]at h
  exact h
 have e2:bits .or .u32 (bits .and .u32 ((y:Int) / 4) 858993459) (bits .and .u32 (y:Int) 858993459*4 % 4294967296)=(z:Int):=by
  have h:=sw_int 2 858993459 y hyl (by decide) (by decide)
  rw[←hz]at h
  exact h
 have e3:bits .or .u32 (bits .and .u32 ((z:Int) / 16) 252645135) (bits .and .u32 (z:Int) 252645135*16 % 4294967296)=(t:Int):=by
  have h:=sw_int 4 252645135 z hzl (by decide) (by decide)
  rw[←ht]at h
  exact h
 have HC:=revBytes_any w t htl
 have HV:Hid (rev32 x=half (sw 8 16711935 t)):=hid (by rw[rev32,←hy,←hz,←ht])
 generalize half (sw 8 16711935 t)=r at HC HV
 clear hy hz ht hyl hzl htl hx
 go_enter Tryz.func147,Tryz.ntmps147
 go_wp2_with fail
 refine HC.mono ?_
 rintro e w2 ⟨rfl,rfl⟩
 clear HC
 go_wp2_with fail
 go_ret
 exact⟨by rw[HV.out];rfl,rfl⟩

end Go.Proofs.YtggcbnhckcenmaaGreatDoor

namespace Go.Proofs.YtggcbnhckcenmaaGreatDoor
open Go.RowKit

def uk(ns:List Nat)(s:Nat):Nat:=unit (key ns s)

def startOf(ns:List Nat)(s:Nat):Nat:=(((ris ns).filter (fun t=>decide (Lt ns t s))).map (uk ns)).sum

def sumTo(ns:List Nat)(k:Nat):Nat:=(((ris ns).take k).map (uk ns)).sum

theorem sumTo_succ(ns:List Nat)(k:Nat)(h:k<(ris ns).length):sumTo ns (k+1)=sumTo ns k+uk ns (ris ns)[k]:=by
 unfold sumTo
 rw[List.take_succ_eq_append_getElem h,List.map_append,List.sum_append]
 simp only[List.map_cons,List.map_nil,List.sum_cons,List.sum_nil,Nat.add_zero]

theorem start_at(ns:List Nat)(k:Nat)(h:k<(ris ns).length):startOf ns (ris ns)[k]=sumTo ns k:=by
 unfold startOf sumTo
 congr 2
 have hs:=ris_sorted ns
 have hsplit:(ris ns)=(ris ns).take k++(ris ns)[k]::(ris ns).drop (k+1):=by
  rw[←List.drop_eq_getElem_cons h,List.take_append_drop]
 generalize (ris ns)[k]=x at *
 generalize hA:(ris ns).take k=A at *
 generalize (ris ns).drop (k+1)=B at *
 rw[hsplit]at hs ⊢
 rw[List.filter_append,List.filter_cons_of_neg (by simp[Lt.irrefl])]
 have h1:A.filter (fun t=>decide (Lt ns t x))=A:=List.filter_eq_self.2 (fun a ha=>by simpa using Sorted.cross hs a ha x (by simp))
 have h2:B.filter (fun t=>decide (Lt ns t x))=[]:=List.filter_eq_nil_iff.2 (fun b hb=>by
  have:=(List.pairwise_cons.1 (Sorted.right hs)).1 b hb
  simpa using this.asymm)
 rw[h1,h2,List.append_nil]

theorem usedTo_sum(ns:List Nat)(i:Nat)(hi:i≤ns.length):((usedTo ns i).map (uk ns)).sum=measure (ns.take i):=by
 induction i with
 | zero=>simp[usedTo,measure]
 | succ i ih=>
  have hlt:i<ns.length:=hi
  rw[usedTo_succ,List.map_append,List.sum_append,ih (by omega),List.take_succ_eq_append_getElem hlt,measure_snoc,←key_get hlt]
  congr 1
  by_cases h:key ns i=0
  ·simp[h,unit]
  ·simp[h,uk]

theorem sum_perm{a b:List Nat}(f:Nat→Nat)(h:a.Perm b):(a.map f).sum=(b.map f).sum:=(h.map f).sum_nat

theorem sumTo_all(ns:List Nat):sumTo ns (ris ns).length=measure ns:=by
 unfold sumTo
 rw[List.take_of_length_le (Nat.le_refl _),sum_perm _ (ris_perm ns)]
 have:=usedTo_sum ns ns.length (Nat.le_refl _)
 rw[List.take_of_length_le (Nat.le_refl _)]at this
 exact this

theorem sumTo_mono(ns:List Nat)(k:Nat):sumTo ns k≤measure ns:=by
 rw[←sumTo_all]
 unfold sumTo
 rw[List.take_of_length_le (Nat.le_refl _)]
 conv=>rhs;rw[←List.take_append_drop k (ris ns)]
 rw[List.map_append,List.sum_append]
 omega

theorem dvd_list(d:Nat)(l:List Nat)(h:∀x∈l,d ∣ x):d ∣ l.sum:=by
 induction l with
 | nil=>simp
 | cons a r ih=>
  rw[List.sum_cons]
  exact Nat.dvd_add (h a (by simp)) (ih (fun x hx=>h x (List.mem_cons_of_mem _ hx)))

def codeOf(ns:List Nat)(s:Nat):Nat:=startOf ns s / 2 ^ (15-key ns s)

theorem code_start(ns:List Nat)(s:Nat):codeOf ns s*2 ^ (15-key ns s)=startOf ns s:=by
 refine Nat.div_mul_cancel (dvd_list _ _ (fun x hx=>?_))
 obtain⟨t,ht,rfl⟩:=List.mem_map.1 hx
 have hlt:Lt ns t s:=by simpa using(List.mem_filter.1 ht).2
 have h0:=(mem_ris.1 (List.mem_filter.1 ht).1).2
 unfold uk unit
 rw[if_neg h0]
 exact Nat.pow_dvd_pow 2 (by unfold Lt at hlt;omega)

def cdOf(ns:List Nat)(s:Nat):Nat:=if key ns s=0 then 0 else rv (key ns s) (codeOf ns s)

def codesL(ns:List Nat):List Nat:=(List.range ns.length).map (cdOf ns)

theorem codesL_length(ns:List Nat):(codesL ns).length=ns.length:=by simp[codesL]

def outAt(ns:List Nat)(k:Nat):List Nat:=(List.range ns.length).map (fun s=>if s∈(ris ns).take k then cdOf ns s else 0)

theorem outAt_zero(ns:List Nat):outAt ns 0=List.replicate ns.length 0:=by
 unfold outAt
 simp[List.map_const']

theorem outAt_all(ns:List Nat):outAt ns (ris ns).length=codesL ns:=by
 unfold outAt codesL
 rw[List.take_of_length_le (Nat.le_refl _)]
 refine List.map_congr_left (fun s hs=>?_)
 by_cases h:s∈ris ns
 ·rw[if_pos h]
 ·rw[if_neg h]
  have:key ns s=0:=by
   have h2:=mt mem_ris.2 h
   simp at hs
   exact Classical.byContradiction (fun h3=>h2 ⟨hs,h3⟩)
  simp[cdOf,this]

theorem outAt_succ(ns:List Nat)(k:Nat)(h:k<(ris ns).length):(outAt ns k).set (ris ns)[k] (cdOf ns (ris ns)[k])=outAt ns (k+1):=by
 unfold outAt
 refine List.ext_getElem (by simp) (fun j h1 h2=>?_)
 have hm:j∈(ris ns).take (k+1)↔j∈(ris ns).take k∨j=(ris ns)[k]:=by rw[List.take_succ_eq_append_getElem h,List.mem_append,List.mem_singleton]
 simp only[List.getElem_set,List.getElem_map,List.getElem_range,hm]
 by_cases e:(ris ns)[k]=j
 ·subst e;simp
 ·have e2:¬j=(ris ns)[k]:=fun h=>e h.symm
  simp[e,e2]

theorem outAt_length(ns:List Nat)(k:Nat):(outAt ns k).length=ns.length:=by simp[outAt]

example:codesL [2,1,3,3]=[1,0,3,7]:=by decide

structure Good(zs:List Int)(ns:List Nat):Prop where
 eq:ns.map natV=zs.map intV
 len:ns.length=zs.length
 pos:0<ns.length
 max:ns.length≤288
 le:∀n∈ns,n≤15
 ok:chkN ns=0
 int:zs=ns.map (fun(n:Nat)=>(n:Int))

theorem good_of{zs:List Int}(h:chk zs=0):Good zs (zs.map Int.toNat):=by
 unfold chk at h
 split at h
 ·rename_i hok
  obtain⟨e,h1,h2,h3⟩:=okAll_nat hok
  refine⟨e,by simp,by simpa using h1,by simpa using h2,fun n hn=>by have:=h3 n hn;omega,h,?_⟩
  have e2:=congrArg (List.map (fun v:Value=>match v with | .int _ z=>z | _=>0)) e
  simp only[List.map_map]at e2
  rw[List.map_map]
  have e3:zs.map ((fun v:Value=>match v with | .int _ z=>z | _=>0) ∘ intV)=zs:=by
   conv=>rhs;rw[←List.map_id zs]
   refine List.map_congr_left (fun z _=>rfl)
  rw[e3]at e2
  exact e2.symm.trans (List.map_congr_left (fun z _=>rfl))
 ·omega

theorem Good.measure_le{zs:List Int}{ns:List Nat}(h:Good zs ns):measure ns≤32768:=by
 have:=h.ok
 unfold chkN at this
 split at this
 ·omega
 ·omega

theorem Good.key_le{zs:List Int}{ns:List Nat}(h:Good zs ns)(s:Nat):key ns s≤15:=by
 by_cases hs:s<ns.length
 ·rw[key_get hs];exact h.le _ (List.getElem_mem _)
 ·simp[key,hs]

theorem codes_bad(w:World)(v:Value)(I:Nat→Prop)(zs:List Int)(hs:SrcE intV w I v zs)(hn:zs.length≤1000000)(hb:chk zs≠0):
  Calls Tryz.prog 120 #[v] w fun e w'=>e=.returned (.tuple #[.slice none 0 0,.int .i64 (chk zs:Nat)])∧Same w w':=by
 have HC:=check_any w v I zs hs hn
 generalize chk zs=c at HC hb
 have hd:((c:Int) != 0)=true:=by simp;omega
 clear hs hb
 go_enter Tryz.func120,Tryz.ntmps120
 go_wp2_with fail
 refine HC.mono ?_
 rintro e w2 ⟨rfl,hk⟩
 have HK:Hid (Same w w2):=hk
 clear hk HC
 go_wp2_with fail
 first
  | (go_ret2;exact⟨rfl,HK.out⟩)
  | (go_quiet (fail);go_wp2_with fail;go_ret2;exact⟨rfl,HK.out.drewN _⟩)

set_option maxHeartbeats 2000000 in
theorem codes_good(w:World)(v:Value)(I:Nat→Prop)(zs:List Int)(ns:List Nat)(hs:SrcE intV w I v zs)(hg:Good zs ns)(hb:chk zs=0):
  Calls Tryz.prog 120 #[v] w fun e w'=>(∃g n cap,e=.returned (.tuple #[.slice (some ⟨g,0,none⟩) n cap,.int .i64 0])∧WRow w.heap.size w' (.slice (some ⟨g,0,none⟩) n cap) (codesL ns))∧Same w w':=by
 obtain⟨ao,cap,rfl,hx1,hx2⟩:=id hs
 clear hx1 hx2
 have HC:=check_any w _ I zs hs (by have:=hg.len;have:=hg.max;omega)
 rw[hb]at HC
 have HG:Hid (Good zs ns):=hg
 have HS:Hid (SrcE natV w I (.slice ao zs.length cap) ns):=hid (hs.recode hg.eq)
 have HL:Hid (zs.length=ns.length):=hg.len.symm
 have h288:zs.length≤288:=by have:=hg.len;have:=hg.max;omega
 clear hs hg hb
 generalize zs.length=n at *
 go_enter Tryz.func120,Tryz.ntmps120
 go_wp2_with fail
 refine HC.mono ?_
 rintro e w2 ⟨rfl,hk⟩
 have HK:Hid (Same w w2):=hk
 clear hk HC
 go_wp2_with (at_make;refine wpList_make_e _ wordV 0 w.heap.size 59 63 4 Tryz.underlying59 Tryz.infoW rfl (by decide) rfl _ _ rfl _ _ _ _ n rfl rfl rfl rfl (by omega) HK.out.size ?_;intro w3 hr3 hg3 hs3)
 have HR3:Hid (WRow w.heap.size w3 (.slice (some ⟨w2.heap.size,0,none⟩) n n) (outAt ns 0)):=hid (by rw[outAt_zero,←HL.out];exact hr3)
 have HK3:Hid (Same w2 w3):=hid ((Kept.refl _ w2).grown hg3 (by simp))
 have HK03:Hid (Same w w3):=hid (HK.out.trans HK3.out)
 have hsz:=HK.out.size
 clear hr3 hg3
 have HRI:=rising_any w3 _ I ns (HS.out.same HK03.out) (by have:=HL.out;omega)
 go_wp2_with fail
 refine HRI.mono ?_
 rintro e w4 ⟨v4,rfl,hn4⟩
 have HN4:Hid (New w3 w4 v4 (ris ns)):=hn4
 have HK4:Hid (Kept (·=w2.heap.size) w w4):=hid ((HK03.out.trans hn4.same).mono (fun _ _ h=>h.elim))
 have HR4:Hid (WRow w.heap.size w4 (.slice (some ⟨w2.heap.size,0,none⟩) n n) (outAt ns 0)):=hid (HR3.out.same hn4.same)
 obtain⟨ao4,cap4,rfl,hsh4,_⟩:=hn4.row.shape
 have hsz4:=hn4.same.size
 have hls:(ris ns).length≤288:=Nat.le_trans (ris_length ns) (by have:=HL.out;omega)
 clear hn4 HRI HR3
 obtain⟨rl,hrl⟩:∃rl,rl=(ris ns).length:=⟨_,rfl⟩
 have HRL:Hid (rl=(ris ns).length):=hrl
 rw[←hrl]at hls ⊢
 clear hrl hsh4
 go_wp2_with fail
 go_loopg [6,7,21] rl (fun q znx zlg zk wr=>∃(k nx lg:Nat),rl-k≤q∧k≤rl∧nx≤32769∧lg≤15∧znx=.int .u32 (nx:Nat)∧zlg=.int .i64 (lg:Nat)∧zk=.int .i64 (k:Nat) ∧
   Hid (nx*2 ^ (15-lg)=sumTo ns k∧(k=0∧lg=0∨0<k∧∃h:k-1<(ris ns).length,lg=key ns (ris ns)[k-1]))∧Hid (WRow w.heap.size wr (.slice (some ⟨w2.heap.size,0,none⟩) n n) (outAt ns k))∧Hid (Kept (·=w2.heap.size) w4 wr))
 case atStart=>exact⟨0,0,0,by omega,by omega,by omega,by omega,rfl,rfl,rfl,hid ⟨by simp[sumTo],.inl ⟨rfl,rfl⟩⟩,HR4.out,Kept.refl _ _⟩
 case round=>
  obtain⟨k,nx,lg,hq,hk,hnx,hlg,rfl,rfl,rfl,HF,HR5,HK5⟩:=hrel
  clear HR4
  by_cases hlt:k<rl
  ·have hkl:k<(ris ns).length:=by have:=HRL.out;omega
   have hrow5:NRow w3.heap.size wr (.slice ao4 (ris ns).length cap4) (ris ns):=HN4.out.row.kept HK5.out (fun j hj e=>by have:=HN4.out.row.ge hj;omega)
   obtain⟨b4,o4,cap4',e4,_,_,c4⟩:=(SrcE.ofRow hrow5).get k hkl
   simp only[Value.slice.injEq]at e4
   obtain⟨rfl,_,rfl⟩:=e4
   obtain⟨s,hs⟩:∃s,s=(ris ns)[k]:=⟨_,rfl⟩
   rw[←hs]at c4
   unfold natV at c4
   have hsr:s<ns.length∧key ns s≠0:=mem_ris.1 (by rw[hs];exact List.getElem_mem _)
   have hsn:s<n:=by have:=HL.out;omega
   have hsrc:SrcE natV wr (fun j=>I j∧j<w.heap.size) (.slice ao n cap) ns:=SrcE.kept (SrcE.kept HS.out.low HK4.out (fun j hj _ e=>by omega)) HK5.out (fun j hj _ e=>by omega)
   obtain⟨b,o,cap',e5,_,_,c5⟩:=hsrc.get s hsr.1
   simp only[Value.slice.injEq]at e5
   obtain⟨rfl,hxe,rfl⟩:=e5
   clear hxe
   rw[←key_get hsr.1]at c5
   unfold natV at c5
   obtain⟨l,hl⟩:∃l,l=key ns s:=⟨_,rfl⟩
   rw[←hl]at c5
   have hl15:l≤15:=by rw[hl];exact HG.out.key_le s
   have hl0:0<l:=by omega
   have hlgl:lg≤l:=by
    rcases HF.out.2 with⟨_,h⟩ | ⟨h0,h1,h2⟩
    ·omega
    ·have:=Sorted.at (ris_sorted ns) (show k-1<k by omega) hkl
     unfold Lt at this
     rw[h2,hl,hs];omega
   obtain⟨nx2,hnx2⟩:∃nx2,nx2=nx*2 ^ (l-lg):=⟨_,rfl⟩
   have hst:nx2*2 ^ (15-l)=sumTo ns k:=by
    rw[hnx2,Nat.mul_assoc,←Nat.pow_add,show l-lg+(15-l)=15-lg by omega]
    exact HF.out.1
   have hnx2l:nx2≤32768:=by
    have h1:=sumTo_mono ns k
    have h2:=HG.out.measure_le
    have h3:nx2*1≤nx2*2 ^ (15-l):=Nat.mul_le_mul_left _ (Nat.two_pow_pos _)
    omega
   have hcode:codeOf ns s=nx2:=by
    have h1:=code_start ns s
    rw[hs,start_at ns k hkl,←hs,←hst,←hl]at h1
    exact Nat.eq_of_mul_eq_mul_right (Nat.two_pow_pos _) h1
   have hcd:cdOf ns s=rv l nx2:=by rw[cdOf,if_neg hsr.2,hcode,←hl]
   have hrv:rev32 nx2 / 2 ^ (32-l)=rv l nx2:=rev32_rv nx2 l (by omega) (by omega)
   obtain⟨cr,hcr⟩:∃cr,cr=cdOf ns s:=⟨_,rfl⟩
   have HREV:=fun(wx:World)=>reverse_any wx nx2 (by omega)
   have hshift:((rev32 nx2:Nat):Int) / 2 ^ (32-l)=(cr:Int):=by rw[hcr,hcd,←hrv];simp
   have hrevl:rev32 nx2<4294967296:=rev32_lt nx2 (by omega)
   generalize rev32 nx2=rr at HREV hshift hrevl
   have hmulI:(nx:Int)*2 ^ (l-lg) % 4294967296=(nx2:Int):=by
    have h1:((nx*2 ^ (l-lg):Nat):Int)=(nx2:Int):=by rw[hnx2]
    rw[Int.natCast_mul,Int.natCast_pow]at h1
    rw[show((2:Nat):Int)=2 from rfl]at h1
    rw[h1];omega
   have hsub1:((l:Int)-(lg:Int))=((l-lg:Nat):Int):=by omega
   have hsub2:((32:Int)-(l:Int))=((32-l:Nat):Int):=by omega
   have hso:s<(outAt ns k).length:=by rw[outAt_length];exact hsr.1
   obtain⟨y,cy⟩:∃y:Nat,wr.cell? ⟨w2.heap.size,s,none⟩=some (.int .u32 (y:Nat)):=⟨_,HR5.out.cell s hso⟩
   have fy:=HR5.out.frozen s
   have HR6:Hid (WRow w.heap.size (wr.setCell ⟨w2.heap.size,s,none⟩ (.int .u32 (cr:Nat))) (.slice (some ⟨w2.heap.size,0,none⟩) n n) (outAt ns (k+1))):=hid (by
    have h:=HR5.out.lay s (cdOf ns s)
    rw[hs,outAt_succ ns k hkl,←hs,←hcr]at h
    exact h)
   have HF2:Hid ((nx2+1)*2 ^ (15-l)=sumTo ns (k+1)∧(k+1=0∧l=0∨0<k+1∧∃h:k+1-1<(ris ns).length,l=key ns (ris ns)[k+1-1])):=hid (by
    refine⟨?_,.inr ⟨by omega,by simpa using hkl,by simpa[←hs]using hl⟩⟩
    rw[sumTo_succ ns k hkl,Nat.add_mul,hst,←hs,uk,unit,if_neg hsr.2,←hl];omega)
   clear hs hsr hsrc hl hst hnx2 hcode hcd hrv hcr hso HF hrow5
   go_wp2_with fail
   refine(HREV _).mono ?_
   rintro e w6 ⟨rfl,rfl⟩
   clear HREV
   go_wp2_with fail
   go_roundg (gk-1)
   case measure=>omega
   case rel=>exact⟨k+1,nx2+1,l,by omega,by omega,by omega,hl15,by congr 1<;>omega,rfl,by go_num,HF2,HR6,HK5.out.setCell _ _ (.inl rfl)⟩
  ·have hk2:k=rl:=by omega
   subst hk2
   go_wp2_with fail
   first
    | go_ret2
    | (go_quiet (fail);go_wp2_with fail;go_ret2)
   refine⟨⟨_,_,_,rfl,?_⟩,?_⟩
   ·have h:=HR5.out
    rw[HRL.out,outAt_all]at h
    exact h
   ·have h1:=HK4.out.trans HK5.out (H:=(·=w2.heap.size)) (fun _ _ h=>h) (fun _ _ h=>h)
    exact Same.of h1 (fun j hj e=>by omega)

end Go.Proofs.YtggcbnhckcenmaaGreatDoor

namespace Go.Proofs.YtggcbnhckcenmaaGreatDoor

theorem rv_succ_low(n R:Nat):rv (n+1) R=2*rv n R+R / 2 ^ n % 2:=by
 refine Nat.eq_of_testBit_eq (fun k=>?_)
 rw[rv_bit,show 2*rv n R+R / 2 ^ n % 2=2 ^ 1*rv n R+R / 2 ^ n % 2 by rw[Nat.pow_one],Nat.testBit_two_pow_mul_add _ (by rw[Nat.pow_one];exact Nat.mod_lt _ (by decide)),rv_bit]
 by_cases h:k<1
 ·have:k=0:=by omega
  subst this
  rw[if_pos h,Nat.testBit_zero,show R / 2 ^ n % 2 % 2=R / 2 ^ n % 2 by omega]
  simp[Nat.testBit_eq_decide_div_mod_eq]
 ·rw[if_neg h]
  by_cases h2:k<n+1
  ·simp[h2,show k-1<n by omega,show n-1-(k-1)=n-k by omega]
  ·simp[h2,show ¬k-1<n by omega]

theorem rv_div(l m Z:Nat)(h:l≤m):rv m Z / 2 ^ (m-l)=rv l Z:=by
 refine Nat.eq_of_testBit_eq (fun k=>?_)
 rw[Nat.testBit_div_two_pow,rv_bit,rv_bit]
 by_cases h2:k<l
 ·simp[h2,show k+(m-l)<m by omega,show m-1-(k+(m-l))=l-1-k by omega]
 ·simp[h2,show ¬k+(m-l)<m by omega]

theorem rv_mod(l h Z:Nat)(hl:l≤h):rv l (Z % 2 ^ h)=rv l Z:=by
 refine Nat.eq_of_testBit_eq (fun k=>?_)
 rw[rv_bit,rv_bit,Nat.testBit_mod_two_pow]
 by_cases h2:k<l
 ·simp[h2,show l-1-k<h by omega]
 ·simp[h2]

theorem rv_rv(l c:Nat):rv l (rv l c)=c % 2 ^ l:=by
 refine Nat.eq_of_testBit_eq (fun k=>?_)
 rw[rv_bit,rv_bit,Nat.testBit_mod_two_pow]
 by_cases h2:k<l
 ·simp[h2,show l-1-k<l by omega,show l-1-(l-1-k)=k by omega]
 ·simp[h2]

theorem rv_pad(h m Z:Nat)(hz:Z<2 ^ h)(hm:h≤m):rv m Z=rv h Z*2 ^ (m-h):=by
 refine Nat.eq_of_testBit_eq (fun k=>?_)
 rw[rv_bit,Nat.testBit_mul_two_pow,rv_bit]
 by_cases h1:m-h≤k
 ·by_cases h2:k<m
  ·simp[h1,h2,show k-(m-h)<h by omega,show h-1-(k-(m-h))=m-1-k by omega]
  ·simp[h2,show ¬k-(m-h)<h by omega]
 ·have:Z.testBit (m-1-k)=false:=Nat.testBit_lt_two_pow (Nat.lt_of_lt_of_le hz (Nat.pow_le_pow_right (n:=2) (by omega) (by omega)))
  simp[h1,this]

theorem countP_index(p:Nat→Bool)(l:List Nat)(h:l.Pairwise (fun a b=>p b=true→p a=true))(k:Nat)(hk:k<l.length):p l[k]=true↔k<l.countP p:=by
 induction l generalizing k with
 | nil=>simp at hk
 | cons a r ih=>
  have hp:=List.pairwise_cons.1 h
  by_cases ha:p a=true
  ·rw[List.countP_cons_of_pos ha]
   cases k with
   | zero=>simp[ha]
   | succ k=>
    have:=ih hp.2 k (by simpa using hk)
    simp only[List.getElem_cons_succ]
    rw[this];omega
  ·rw[List.countP_cons_of_neg ha]
   have h0:r.countP p=0:=List.countP_eq_zero.2 (fun b hb hpb=>ha (hp.1 b hb hpb))
   rw[h0]
   cases k with
   | zero=>simp[ha]
   | succ k=>
    simp only[List.getElem_cons_succ]
    have:¬p (r[k]'(by simpa using hk))=true:=fun e=>ha (hp.1 _ (List.getElem_mem _) e)
    simp[this]

def upN(ns:List Nat)(n:Nat):Nat:=(ris ns).countP (fun t=>decide (key ns t≤n))
def ofN(ns:List Nat)(m:Nat):Nat:=(ris ns).countP (fun t=>decide (key ns t=m))

theorem upN_index(ns:List Nat)(n k:Nat)(hk:k<(ris ns).length):key ns (ris ns)[k]≤n↔k<upN ns n:=by
 have h:=countP_index (fun t=>decide (key ns t≤n)) (ris ns) ((ris_sorted ns).imp (fun {a b} hab hb=>by simp at hb ⊢;unfold Lt at hab;omega)) k hk
 simpa[upN]using h

theorem upN_zero(ns:List Nat):upN ns 0=0:=by
 refine List.countP_eq_zero.2 (fun t ht h=>?_)
 have:=(mem_ris.1 ht).2
 simp at h;exact this h

theorem upN_succ(ns:List Nat)(n:Nat):upN ns (n+1)=upN ns n+ofN ns (n+1):=by
 unfold upN ofN
 generalize ris ns=l
 induction l with
 | nil=>simp
 | cons a r ih=>
  rw[List.countP_cons,List.countP_cons,List.countP_cons,ih]
  by_cases h1:key ns a≤n
  ·simp[h1,show key ns a≤n+1 by omega,show ¬key ns a=n+1 by omega];omega
  ·by_cases h2:key ns a=n+1
   ·simp[h2,show ¬n+1≤n by omega];omega
   ·simp[h1,h2,show ¬key ns a≤n+1 by omega]

theorem upN_le(ns:List Nat)(n:Nat):upN ns n≤(ris ns).length:=List.countP_le_length

theorem sumTo_block(ns:List Nat)(n i:Nat)(hn:n<15)(hi:i≤ofN ns (n+1)):sumTo ns (upN ns n+i)=sumTo ns (upN ns n)+i*2 ^ (15-(n+1)):=by
 induction i with
 | zero=>simp
 | succ i ih=>
  have h1:=upN_succ ns n
  have h2:=upN_le ns (n+1)
  have hk:upN ns n+i<(ris ns).length:=by omega
  have k1:=(upN_index ns (n+1) _ hk).2 (by omega)
  have k2:=mt (upN_index ns n _ hk).1 (by omega)
  have hkey:key ns (ris ns)[upN ns n+i]=n+1:=by omega
  rw[show upN ns n+(i+1)=(upN ns n+i)+1 by omega,sumTo_succ ns _ hk,ih (by omega),uk,hkey,unit,if_neg (by omega),Nat.add_mul,Nat.one_mul]
  omega

theorem key_block(ns:List Nat)(n i:Nat)(hi:i<ofN ns (n+1)):∃hk:upN ns n+i<(ris ns).length,key ns (ris ns)[upN ns n+i]=n+1:=by
 have h1:=upN_succ ns n
 have h2:=upN_le ns (n+1)
 have hk:upN ns n+i<(ris ns).length:=by omega
 have k1:=(upN_index ns (n+1) _ hk).2 (by omega)
 have k2:=mt (upN_index ns n _ hk).1 (by omega)
 exact⟨hk,by omega⟩

def mxL(ns:List Nat):Nat:=ns.foldl max 0

theorem foldl_max(l:List Nat)(a:Nat):a≤l.foldl max a∧(∀x∈l,x≤l.foldl max a)∧(l.foldl max a=a∨l.foldl max a∈l):=by
 induction l generalizing a with
 | nil=>simp
 | cons b r ih=>
  obtain⟨h1,h2,h3⟩:=ih (max a b)
  simp only[List.foldl_cons]
  refine⟨by omega,?_,?_⟩
  ·intro x hx
   rcases List.mem_cons.1 hx with rfl | hx
   ·omega
   ·exact h2 x hx
  ·rcases h3 with h | h
   ·rw[h]
    by_cases hab:a≤b
    ·right;rw[Nat.max_eq_right hab];simp
    ·left;omega
   ·right;exact List.mem_cons_of_mem _ h

theorem key_le_mx(ns:List Nat)(s:Nat):key ns s≤mxL ns:=by
 by_cases h:s<ns.length
 ·rw[key_get h];exact(foldl_max ns 0).2.1 _ (List.getElem_mem _)
 ·simp[key,h]

theorem mx_le(ns:List Nat)(b:Nat)(h:∀n∈ns,n≤b):mxL ns≤b:=by
 rcases(foldl_max ns 0).2.2 with h1 | h1
 ·unfold mxL;omega
 ·exact h _ h1

theorem upN_all(ns:List Nat):upN ns (mxL ns)=(ris ns).length:=List.countP_eq_length.2 (fun t _=>by simpa using key_le_mx ns t)

def cntTo(ns:List Nat)(k:Nat):List Nat:=(List.range (mxL ns)).map (fun j=>((ris ns).take k).countP (fun t=>decide (key ns t=j+1)))
def cntL(ns:List Nat):List Nat:=(List.range (mxL ns)).map (fun j=>ofN ns (j+1))

theorem cntTo_all(ns:List Nat):cntTo ns (ris ns).length=cntL ns:=by
 unfold cntTo cntL ofN
 rw[List.take_of_length_le (Nat.le_refl _)]

theorem cntTo_zero(ns:List Nat):cntTo ns 0=List.replicate (mxL ns) 0:=by
 unfold cntTo
 simp[List.map_const']

theorem cntTo_length(ns:List Nat)(k:Nat):(cntTo ns k).length=mxL ns:=by simp[cntTo]

theorem cntTo_succ(ns:List Nat)(k:Nat)(hk:k<(ris ns).length)(hl:key ns (ris ns)[k]-1<(cntTo ns k).length):
  (cntTo ns k).set (key ns (ris ns)[k]-1) ((cntTo ns k)[key ns (ris ns)[k]-1]+1)=cntTo ns (k+1):=by
 have h0:=(mem_ris.1 (List.getElem_mem hk)).2
 unfold cntTo at *
 refine List.ext_getElem (by simp) (fun j h1 h2=>?_)
 have hc:((ris ns).take (k+1)).countP (fun t=>decide (key ns t=j+1))=((ris ns).take k).countP (fun t=>decide (key ns t=j+1))+(if key ns (ris ns)[k]=j+1 then 1 else 0):=by
  rw[List.take_succ_eq_append_getElem hk,List.countP_append]
  by_cases h:key ns (ris ns)[k]=j+1<;>simp[h]
 simp only[List.getElem_set,List.getElem_map,List.getElem_range,hc]
 by_cases e:key ns (ris ns)[k]-1=j
 ·have e2:key ns (ris ns)[k]=j+1:=by omega
  subst e
  rw[if_pos rfl,if_pos e2]
 ·have e2:¬key ns (ris ns)[k]=j+1:=by omega
  rw[if_neg e,if_neg e2];rfl

def Ans(ns:List Nat)(h R sym long e:Nat):Prop:=
 (e=0∧sym∈ris ns∧long=key ns sym∧long≤h∧rv long R=codeOf ns sym) ∨
 (e=10∧sym=0∧long=0∧h<mxL ns∧sumTo ns (upN ns h)≤rv h R*2 ^ (15-h)) ∨
 (e=32∧sym=0∧long=0∧h=mxL ns∧measure ns≤rv h R*2 ^ (15-h))

structure Seek(ns:List Nat)(R n place ahead:Nat):Prop where
 ah:ahead=upN ns n
 pl:(place*2 ^ (15-n))+sumTo ns (upN ns n)=rv n R*2 ^ (15-n)

theorem Seek.start(ns:List Nat)(R:Nat):Seek ns R 0 0 0:=⟨(upN_zero ns).symm,by rw[upN_zero];simp[rv,sumTo]⟩

theorem Seek.bit{ns:List Nat}{R n place ahead:Nat}(h:Seek ns R n place ahead)(hn:n<15):(2*place+R / 2 ^ n % 2)*2 ^ (15-(n+1))+sumTo ns (upN ns n)=rv (n+1) R*2 ^ (15-(n+1)):=by
 have h1:=h.pl
 have e:2 ^ (15-n)=2*2 ^ (15-(n+1)):=by rw[show 15-n=(15-(n+1))+1 by omega,Nat.pow_succ];omega
 rw[e]at h1
 rw[rv_succ_low,Nat.add_mul,Nat.add_mul]
 have e2:2*place*2 ^ (15-(n+1))=place*(2*2 ^ (15-(n+1))):=by rw[Nat.mul_comm 2 place,Nat.mul_assoc]
 have e3:2*rv n R*2 ^ (15-(n+1))=rv n R*(2*2 ^ (15-(n+1))):=by rw[Nat.mul_comm 2 (rv n R),Nat.mul_assoc]
 omega

theorem Seek.found{ns:List Nat}{R n place ahead:Nat}(h:Seek ns R n place ahead)(hn:n<15)(hp:2*place+R / 2 ^ n % 2<ofN ns (n+1)):
  ∃hk:ahead+(2*place+R / 2 ^ n % 2)<(ris ns).length,key ns (ris ns)[ahead+(2*place+R / 2 ^ n % 2)]=n+1∧rv (n+1) R=codeOf ns (ris ns)[ahead+(2*place+R / 2 ^ n % 2)]:=by
 have hb:=h.bit hn
 have ha:=h.ah
 subst ha
 generalize 2*place+R / 2 ^ n % 2=i at *
 obtain⟨hk,hkey⟩:=key_block ns n i hp
 refine⟨hk,hkey,?_⟩
 have h1:=code_start ns (ris ns)[upN ns n+i]
 rw[start_at ns _ hk,hkey,sumTo_block ns n i hn (by omega)]at h1
 have h2:rv (n+1) R*2 ^ (15-(n+1))=codeOf ns (ris ns)[upN ns n+i]*2 ^ (15-(n+1)):=by omega
 exact Nat.eq_of_mul_eq_mul_right (Nat.two_pow_pos _) h2

theorem Seek.next{ns:List Nat}{R n place ahead:Nat}(h:Seek ns R n place ahead)(hn:n<15)(hp:¬2*place+R / 2 ^ n % 2<ofN ns (n+1)):
  Seek ns R (n+1) (2*place+R / 2 ^ n % 2-ofN ns (n+1)) (ahead+ofN ns (n+1)):=by
 have hb:=h.bit hn
 have hs:=upN_succ ns n
 refine⟨by rw[h.ah,hs],?_⟩
 generalize 2*place+R / 2 ^ n % 2=i at *
 have h1:=sumTo_block ns n (ofN ns (n+1)) hn (Nat.le_refl _)
 rw[hs,h1,Nat.sub_mul]
 have h2:ofN ns (n+1)*2 ^ (15-(n+1))≤i*2 ^ (15-(n+1)):=Nat.mul_le_mul_right _ (by omega)
 omega

theorem place_of{ns:List Nat}{s:Nat}(h:s∈ris ns):∃k,∃hk:k<(ris ns).length,(ris ns)[k]=s∧startOf ns s=sumTo ns k∧sumTo ns (k+1)=startOf ns s+2 ^ (15-key ns s):=by
 obtain⟨k,hk,rfl⟩:=List.getElem_of_mem h
 refine⟨k,hk,rfl,start_at ns k hk,?_⟩
 rw[sumTo_succ ns k hk,start_at ns k hk,uk,unit,if_neg (mem_ris.1 h).2]

theorem sumTo_le{ns:List Nat}{i j:Nat}(h:i≤j):sumTo ns i≤sumTo ns j:=by
 unfold sumTo
 have e:(ris ns).take i=((ris ns).take j).take i:=by rw[List.take_take,Nat.min_eq_left h]
 rw[e]
 conv=>rhs;rw[←List.take_append_drop i ((ris ns).take j)]
 rw[List.map_append,List.sum_append]
 omega

theorem fits_iff{ns:List Nat}{s Z:Nat}(_hs:s∈ris ns)(h15:key ns s≤15):rv (key ns s) Z=codeOf ns s↔startOf ns s≤rv 15 Z∧rv 15 Z<startOf ns s+2 ^ (15-key ns s):=by
 rw[←rv_div (key ns s) 15 Z h15,←code_start ns s]
 have hp:0<2 ^ (15-key ns s):=Nat.two_pow_pos _
 have hd:=Nat.div_add_mod (rv 15 Z) (2 ^ (15-key ns s))
 have hm:=Nat.mod_lt (rv 15 Z) hp
 constructor
 ·intro e
  rw[←e]
  have:rv 15 Z / 2 ^ (15-key ns s)*2 ^ (15-key ns s)=2 ^ (15-key ns s)*(rv 15 Z / 2 ^ (15-key ns s)):=Nat.mul_comm _ _
  omega
 ·rintro⟨h1,h2⟩
  refine Nat.le_antisymm ?_ ?_
  ·have h3:rv 15 Z<(codeOf ns s+1)*2 ^ (15-key ns s):=by rw[Nat.add_mul,Nat.one_mul];exact h2
   have:=(Nat.div_lt_iff_lt_mul hp).2 h3
   omega
  ·exact(Nat.le_div_iff_mul_le hp).2 h1

theorem fits_one{ns:List Nat}{s t Z:Nat}(hs:s∈ris ns)(ht:t∈ris ns)(h15:∀x,key ns x≤15)(h1:rv (key ns s) Z=codeOf ns s)(h2:rv (key ns t) Z=codeOf ns t):s=t:=by
 have e1:=(fits_iff hs (h15 s)).1 h1
 have e2:=(fits_iff ht (h15 t)).1 h2
 obtain⟨i,hi,rfl,a1,a2⟩:=place_of hs
 obtain⟨j,hj,rfl,b1,b2⟩:=place_of ht
 rcases Nat.lt_trichotomy i j with h | h | h
 ·have:=sumTo_le (ns:=ns) (show i+1≤j from h);omega
 ·subst h;rfl
 ·have:=sumTo_le (ns:=ns) (show j+1≤i from h);omega

theorem Ans.unique{ns:List Nat}{Z left sym long e s:Nat}(h15:∀x,key ns x≤15)(hZ:Z<2 ^ left)(ha:Ans ns (min left (mxL ns)) (Z % 2 ^ (min left (mxL ns))) sym long e)(hm:mxL ns≤15)
  (hs:s∈ris ns) (hl:key ns s≤left) (hf:rv (key ns s) Z=codeOf ns s):e=0∧sym=s∧long=key ns s:=by
 have hmx:=key_le_mx ns s
 have h1:=(fits_iff hs (h15 s)).1 hf
 obtain⟨k,hk,rfl,a1,a2⟩:=place_of hs
 rcases ha with⟨e0,hsym,hlong,hlh,hr⟩ | ⟨_,_,_,hh,hsum⟩ | ⟨_,_,_,hh,hsum⟩
 ·rw[rv_mod _ _ _ hlh,hlong]at hr
  have:=fits_one hsym hs h15 hr hf
  exact⟨e0,this,by rw[hlong,this]⟩
 ·exfalso
  have hmin:min left (mxL ns)=left:=by omega
  rw[hmin,rv_mod _ _ _ (Nat.le_refl _),←rv_pad left 15 Z hZ (by omega)]at hsum
  have h2:=(upN_index ns left k hk).1 hl
  have h3:=sumTo_le (ns:=ns) (show k+1≤upN ns left from h2)
  omega
 ·exfalso
  rw[hh,rv_mod _ _ _ (Nat.le_refl _),←rv_div (mxL ns) 15 Z hm]at hsum
  have h2:=Nat.div_mul_le_self (rv 15 Z) (2 ^ (15-mxL ns))
  have h3:=sumTo_mono ns (k+1)
  omega

end Go.Proofs.YtggcbnhckcenmaaGreatDoor

namespace Go.Proofs.YtggcbnhckcenmaaGreatDoor
open Go.RowKit

set_option maxRecDepth 100000 in
set_option maxHeartbeats 1000000 in
theorem max_any(w:World)(v:Value)(I:Nat→Prop)(ns:List Nat)(hs:SrcE natV w I v ns)(hn:ns.length≤1000000)(h0:0<ns.length)(h15:∀n∈ns,n≤1000000000000):
  Calls Tryz.prog 143 #[v] w fun e w'=>e=.returned (.int .i64 (mxL ns:Nat))∧w'=w:=by
 obtain⟨b,o,cap,rfl,_,_,c0⟩:=hs.get 0 h0
 have HS:Hid (SrcE natV w I (.slice (some ⟨b,o,none⟩) ns.length cap) ns):=hs
 have H15:Hid (∀n∈ns,n≤1000000000000):=h15
 clear hs h15
 obtain⟨x0,hx0⟩:∃x,x=ns[0]:=⟨_,rfl⟩
 rw[←hx0]at c0
 unfold natV at c0
 have HX0:Hid (x0=ns[0]):=hx0
 clear hx0
 rw[Nat.add_zero]at c0
 have hlen:((ns.length:Int)<1)=False:=by simp;omega
 go_enter Tryz.func143,Tryz.ntmps143
 go_wp2_with fail
 clear hlen
 go_loopg [3,4] ns.length (fun q zm zi wr=>∃(i m:Nat),ns.length-i≤q∧i≤ns.length∧1≤i∧zi=.int .i64 (i:Nat)∧zm=.int .i64 (m:Nat)∧wr=w∧Hid (m=(ns.take i).foldl max 0))
 case atStart=>exact⟨1,x0,by omega,by omega,by omega,rfl,rfl,rfl,hid (by
  rw[show(1:Nat)=0+1 from rfl,List.take_succ_eq_append_getElem h0,←HX0.out];simp)⟩
 case round=>
  obtain⟨i,m,hq,hi,h1i,rfl,rfl,rfl,HF⟩:=hrel
  by_cases hlt:i<ns.length
  ·obtain⟨b2,o2,cap2,e,_,_,c1⟩:=HS.out.get i hlt
   simp only[Value.slice.injEq,Option.some.injEq,Addr.mk.injEq,and_true]at e
   obtain⟨⟨rfl,rfl⟩,hxe,rfl⟩:=e
   clear hxe
   obtain⟨x,hx⟩:∃x,x=ns[i]:=⟨_,rfl⟩
   rw[←hx]at c1
   unfold natV at c1
   have HX:Hid (x=ns[i]):=hx
   clear hx
   by_cases hmx:m<x
   ·go_wp2_with fail
    go_roundg (gk-1)
    case measure=>omega
    case rel=>exact⟨i+1,x,by omega,by omega,by omega,by go_num,by first | rfl | (congr 1;omega),rfl,hid (by rw[List.take_succ_eq_append_getElem hlt,List.foldl_append,←HF.out,←HX.out];simp[Nat.max_eq_right (show m≤x by omega)])⟩
   ·go_wp2_with fail
    go_roundg (gk-1)
    case measure=>omega
    case rel=>exact⟨i+1,m,by omega,by omega,by omega,by go_num,by first | rfl | (congr 1;omega),rfl,hid (by rw[List.take_succ_eq_append_getElem hlt,List.foldl_append,←HF.out,←HX.out];simp[Nat.max_eq_left (show x≤m by omega)])⟩
  ·have hi2:i=ns.length:=by omega
   subst hi2
   go_wp2_with fail
   go_ret
   have h:=HF.out
   rw[List.take_of_length_le (Nat.le_refl _)]at h
   exact⟨by rw[mxL,←h];rfl,rfl⟩

structure Dec(w:World)(p:Nat)(vc vs:Value)(ns:List Nat):Prop where
 cc:w.cell? ⟨p,0,none⟩=some vc
 cs:w.cell? ⟨p,1,none⟩=some vs
 rc:NRow 0 w vc (cntL ns)
 rs:NRow 0 w vs (ris ns)

def DF(p:Nat)(vc vs:Value)(k:Nat):Prop:=k=p∨vc.ownBlock=some k∨vs.ownBlock=some k

theorem Dec.kept{F:Nat→Prop}{w w':World}{p:Nat}{vc vs:Value}{ns:List Nat}(h:Dec w p vc vs ns)(hk:Kept F w w')(hF:∀k,DF p vc vs k→¬F k):Dec w' p vc vs ns:=
 ⟨hk.cell h.cc (hF p (.inl rfl)),hk.cell h.cs (hF p (.inl rfl)),h.rc.kept hk (fun k e=>hF k (.inr (.inl e))),h.rs.kept hk (fun k e=>hF k (.inr (.inr e)))⟩

theorem Dec.lt{w:World}{p:Nat}{vc vs:Value}{ns:List Nat}(h:Dec w p vc vs ns){k:Nat}(hk:DF p vc vs k):k<w.heap.size:=by
 rcases hk with rfl | hk | hk
 ·exact World.block_lt_of_cell? w _ h.cc
 ·exact h.rc.lt hk
 ·exact h.rs.lt hk

theorem new_bad(w:World)(v:Value)(I:Nat→Prop)(zs:List Int)(hs:SrcE intV w I v zs)(hn:zs.length≤1000000)(hb:chk zs≠0):
  Calls Tryz.prog 111 #[v] w fun e w'=>e=.returned (.tuple #[.pointer none,.int .i64 (chk zs:Nat)])∧Same w w':=by
 have HC:=check_any w v I zs hs hn
 generalize chk zs=c at HC hb
 have hd:((c:Int) != 0)=true:=by simp;omega
 clear hs hb
 go_enter Tryz.func111,Tryz.ntmps111
 go_wp2_with fail
 refine HC.mono ?_
 rintro e w2 ⟨rfl,hk⟩
 have HK:Hid (Same w w2):=hk
 clear hk HC
 go_wp2_with fail
 first
  | (go_ret2;exact⟨rfl,HK.out⟩)
  | (go_quiet (fail);go_wp2_with fail;go_ret2;exact⟨rfl,HK.out.drewN _⟩)

set_option maxRecDepth 100000 in
set_option maxHeartbeats 2000000 in
theorem search_any(w:World)(p:Nat)(vc vs:Value)(ns:List Nat)(R h:Nat)(hd:Dec w p vc vs ns)(hm:mxL ns≤15)(hns:ns.length≤288)(hh:h≤mxL ns)(hR:R<4294967296):
  Calls Tryz.prog 166 #[.pointer (some ⟨p,0,none⟩),.int .u32 (R:Nat),.int .i64 (h:Nat)] w fun e w'=>(∃sym long er,e=.returned (.tuple #[.int .i64 (sym:Nat),.int .i64 (long:Nat),.int .i64 (er:Nat)])∧Ans ns h R sym long er)∧Same w w':=by
 obtain⟨ac,capc,rfl,shc,_⟩:=hd.rc.shape
 obtain⟨as',caps,rfl,shs,_⟩:=hd.rs.shape
 have c1:=hd.cc
 have c2:=hd.cs
 have HD:Hid (Dec w p (.slice ac (cntL ns).length capc) (.slice as' (ris ns).length caps) ns):=hd
 have HM:Hid (mxL ns=(cntL ns).length):=hid (by simp[cntL])
 have hcl:(cntL ns).length≤15:=by have:=HM.out;omega
 have hhl:h≤(cntL ns).length:=by have:=HM.out;omega
 have HRL:Hid ((ris ns).length≤288):=hid (Nat.le_trans (ris_length ns) hns)
 clear hd hm shc shs hh
 generalize hcn:(cntL ns).length=cn at *
 have HCN:Hid ((cntL ns).length=cn):=hcn
 clear hcn
 go_enter Tryz.func166,Tryz.ntmps166
 go_wp2_with fail
 go_step3
 go_wp2_with fail
 go_step3
 go_wp2_with fail
 go_loopg [6,7,8,9,10,18] cn (fun q z6 z7 z8 zp za zn wr=>∃(n place ahead:Nat),cn-n≤q∧n≤cn∧n≤h∧place≤32768∧ahead≤288∧z6=.int .i64 0∧z7=.int .i64 0∧z8=.int .i64 32∧zp=.int .i64 (place:Nat)∧za=.int .i64 (ahead:Nat)∧zn=.int .i64 (n:Nat)∧Hid (Seek ns R n place ahead)∧Hid (Same w wr))
 case atStart=>exact⟨0,0,0,by omega,by omega,by omega,by omega,by omega,rfl,rfl,rfl,rfl,rfl,rfl,Seek.start ns R,Kept.refl _ _⟩
 case round=>
  obtain⟨n,place,ahead,hq,hn,hnh,hp1,hp2,rfl,rfl,rfl,rfl,rfl,rfl,HF,HK⟩:=hrel
  have d2:wr.cell? ⟨p,1,none⟩=some (.slice as' (ris ns).length caps):=HK.out.cell c2 (fun h=>h)
  by_cases hlt:n<cn
  ·obtain⟨b,o,cap',e,_,_,cx⟩:=(SrcE.ofRow (HD.out.rc.same HK.out)).get n (by have:=HCN.out;omega)
   simp only[Value.slice.injEq]at e
   obtain⟨rfl,hxe,rfl⟩:=e
   clear hxe
   obtain⟨x,hx⟩:∃x,x=ofN ns (n+1):=⟨_,rfl⟩
   have cx2:wr.cell? ⟨b,o+n,none⟩=some (.int .i64 (x:Int)):=by rw[cx,hx];simp[natV,cntL]
   have HX:Hid (x=ofN ns (n+1)):=hx
   clear cx hx
   obtain⟨bt,hbt⟩:∃bt,bt=R / 2 ^ n % 2:=⟨_,rfl⟩
   have hbl:bt<2:=by omega
   have hbi:bits .and .u32 ((R:Int) / 2 ^ n) 1=(bt:Int):=by
    have e1:(R:Int) / 2 ^ n=((R / 2 ^ n:Nat):Int):=by simp
    have:=u32_and_nat (R / 2 ^ n) 1 (Nat.lt_of_le_of_lt (Nat.div_le_self _ _) hR) (by decide)
    rw[e1,hbt]
    rw[Nat.and_one_is_mod]at this
    exact this
   have HB:Hid (bt=R / 2 ^ n % 2):=hbt
   have hx288:x≤288:=by
    have h1:=upN_succ ns n;have h2:=upN_le ns (n+1);have h3:=HX.out;have h4:=HRL.out;omega
   clear hbt
   by_cases hend:n=h
   ·have hdn:((n:Int)==(h:Int))=true:=by simp[hend]
    have HE:Hid (n=h):=hend
    clear hend
    go_wp2_with fail
    rw[Exit.noGoto_ret]
    go_ret3
    refine⟨⟨0,0,10,rfl,.inr (.inl ⟨rfl,rfl,rfl,?_,?_⟩)⟩,HK.out⟩
    ·have:=HM.out;have:=HCN.out;have:=HE.out;omega
    ·have h1:=HF.out.pl
     rw[HE.out]at h1
     omega
   ·have hdn:((n:Int)==(h:Int))=false:=by simp;omega
    by_cases hfd:2*place+bt<x
    ·obtain⟨hk,hkey,hcode⟩:=HF.out.found (by omega) (by rw[←HB.out,←HX.out];exact hfd)
     obtain⟨b3,o3,cap3,e3,_,_,c3⟩:=(SrcE.ofRow (HD.out.rs.same HK.out)).get _ hk
     simp only[Value.slice.injEq]at e3
     obtain⟨rfl,hxe,rfl⟩:=e3
     clear hxe
     obtain⟨sy,hsy⟩:∃sy,sy=(ris ns)[ahead+(2*place+R / 2 ^ n % 2)]:=⟨_,rfl⟩
     rw[←hsy]at c3 hkey hcode
     rw[←HB.out]at c3 hk
     unfold natV at c3
     have HANS:Hid (Ans ns h R sy (n+1) 0):=hid (.inl ⟨rfl,by rw[hsy];exact List.getElem_mem _,hkey.symm,by omega,hcode⟩)
     clear hsy hkey hcode
     have hrl:=HRL.out
     go_wp2_with fail
     rw[Exit.noGoto_ret]
     go_ret3
     exact⟨⟨sy,n+1,0,rfl,HANS.out⟩,HK.out⟩
    ·have HS2:Hid (Seek ns R (n+1) (2*place+bt-x) (ahead+x)):=hid (by
      have:=HF.out.next (by omega) (by rw[←HB.out,←HX.out];exact hfd)
      rw[←HB.out,←HX.out]at this;exact this)
     have hah:ahead+x≤288:=by
      have h1:=HS2.out.ah;have h2:=upN_le ns (n+1);have h4:=HRL.out;omega
     have hpl:2*place+bt-x≤32768:=by
      have h1:=HS2.out.pl
      have h2:=rv_lt (n+1) R
      have h3:rv (n+1) R*2 ^ (15-(n+1))≤2 ^ (n+1)*2 ^ (15-(n+1)):=Nat.mul_le_mul_right _ (by omega)
      rw[←Nat.pow_add,show n+1+(15-(n+1))=15 by omega]at h3
      have h4:(2*place+bt-x)*1≤(2*place+bt-x)*2 ^ (15-(n+1)):=Nat.mul_le_mul_left _ (Nat.two_pow_pos _)
      have h5:(2:Nat) ^ 15=32768:=by decide
      omega
     go_wp2_with fail
     go_roundg (gk-1)
     case measure=>omega
     case rel=>exact⟨n+1,2*place+bt-x,ahead+x,by omega,by omega,by omega,hpl,hah,rfl,rfl,rfl,by congr 1;omega,by congr 1,by go_num,HS2,HK⟩
  ·have hn2:n=cn:=by omega
   subst hn2
   go_wp2_with fail
   rw[Exit.noGoto_ret]
   go_ret3
   refine⟨⟨0,0,32,rfl,.inr (.inr ⟨rfl,rfl,rfl,?_,?_⟩)⟩,HK.out⟩
   ·have:=HM.out;have:=HCN.out;omega
   ·have h1:=HF.out.pl
    have h2:n=mxL ns:=by have:=HM.out;have:=HCN.out;omega
    have h3:n=h:=by omega
    rw[←sumTo_all,←upN_all ns,←h2,←h3]
    omega

end Go.Proofs.YtggcbnhckcenmaaGreatDoor

namespace Go.Proofs.YtggcbnhckcenmaaGreatDoor
open Go.RowKit

theorem cntL_length(ns:List Nat):(cntL ns).length=mxL ns:=by simp[cntL]

set_option maxRecDepth 100000 in
set_option maxHeartbeats 2000000 in
theorem next_any(w:World)(d:Nat)(vc vs:Value)(ns:List Nat)(p c:Nat)(s:Value)(bs:List Nat)(hd:Dec w d vc vs ns)(hm:mxL ns≤15)(hns:ns.length≤288)(hs:St w p s bs c)(hc:c≤8*bs.length)(hlen:bs.length≤100000000)(hdis:∀k,DF d vc vs k→¬Fp p s k):
  Calls Tryz.prog 145 #[.pointer (some ⟨d,0,none⟩),.pointer (some ⟨p,0,none⟩)] w fun e w'=>(∃sym long er,e=.returned (.tuple #[.int .i64 (sym:Nat),.int .i64 (er:Nat)]) ∧
   Ans ns (min (8*bs.length-c) (mxL ns)) (n256 bs / 2 ^ c % 2 ^ (min (8*bs.length-c) (mxL ns))) sym long er∧St w' p s bs (c+long))∧Kept (·=p) w w':=by
 have HL:=fun q=>left_any p c s bs (w.drewN q) (hs.drewN q) hc (by omega)
 obtain⟨ac,capc,rfl,shc,_⟩:=hd.rc.shape
 have c1:=hd.cc
 have HD:Hid (Dec w d (.slice ac (cntL ns).length capc) vs ns):=hd
 have HS:Hid (St w p s bs c):=hs
 have HX:Hid (∀k,DF d (.slice ac (cntL ns).length capc) vs k→¬Fp p s k):=hdis
 have hcl:=cntL_length ns
 obtain⟨left,hleft⟩:∃left,left=8*bs.length-c:=⟨_,rfl⟩
 rw[←hleft]at HL ⊢
 obtain⟨mx,hmx⟩:∃mx,mx=mxL ns:=⟨_,rfl⟩
 rw[←hmx]at hcl hm ⊢
 have HMX:Hid (mx=mxL ns):=hmx
 have HLEFT:Hid (left=8*bs.length-c):=hleft
 have HCL:Hid ((cntL ns).length=mx):=hcl
 clear hd hs hdis hmx hleft shc
 rw[hcl]at c1 HD HX
 clear hcl
 go_enter Tryz.func145,Tryz.ntmps145
 by_cases hlm:mx<left
 ·have HMIN:Hid (min left mx=mx):=hid (by omega)
  go_wp2_with fail
  go_quiet ((go_at_call 108;exact Calls.quiet_of (HL _)))
  have HT:=take_good p c mx s bs (w.drewN nq) (HS.out.drewN nq) (by omega) (by omega) (by have:=HLEFT.out;omega)
  obtain⟨R,hR⟩:∃R,R=n256 bs / 2 ^ c % 2 ^ mx:=⟨_,rfl⟩
  rw[←hR]at HT
  have HR:Hid (R=n256 bs / 2 ^ c % 2 ^ mx):=hR
  have hRl:R<4294967296:=by
   have h1:R<2 ^ mx:=by rw[hR];exact Nat.mod_lt _ (Nat.two_pow_pos _)
   have h2:2 ^ mx≤2 ^ 15:=Nat.pow_le_pow_right (by omega) (by omega)
   have h3:(2:Nat) ^ 15=32768:=by decide
   omega
  clear hR
  go_wp2_with fail
  refine HT.mono ?_
  rintro e w1 ⟨rfl,hst1,hk1⟩
  have HS1:Hid (St w1 p s bs (c+mx)):=hst1
  have HK1:Hid (Kept (·=p) w w1):=hid (((Kept.refl (·=p) w).drewN nq).trans hk1 (fun _ _ h=>h) (fun _ _ h=>h))
  have HSE:=search_any w1 d _ vs ns R mx (HD.out.kept HK1.out (fun k hk e=>HX.out k hk (.inl e))) (by have:=HMX.out;omega) hns (by have:=HMX.out;omega) hRl
  clear hst1 hk1 HT
  go_wp2_with fail
  refine HSE.mono ?_
  rintro e w2 ⟨⟨sym,long,er,rfl,hans⟩,hk2⟩
  have HANS:Hid (Ans ns mx R sym long er):=hans
  have hll:long≤mx:=by
   rcases hans with⟨_,_,_,h,_⟩ | ⟨_,_,h,_⟩ | ⟨_,_,h,_⟩
   ·exact h
   ·omega
   ·omega
  have hsub:((mx:Int)-(long:Int))=((mx-long:Nat):Int):=by omega
  have HS2:Hid (St w2 p s bs (c+mx)):=hid (HS1.out.kept hk2 (fun _ _ h=>h))
  have HK2:Hid (Kept (·=p) w w2):=hid (HK1.out.trans hk2 (fun _ _ h=>h) (fun _ _ h=>h.elim))
  have HBK:=back_good p (c+mx) (mx-long) s bs w2 HS2.out (by omega) (by have:=HLEFT.out;omega)
  clear hans hk2 HSE
  go_wp2_with fail
  refine HBK.mono ?_
  rintro e w3 ⟨rfl,hst3,hk3⟩
  have HS3:Hid (St w3 p s bs (c+long)):=hid (by rw[show c+mx-(mx-long)=c+long by omega]at hst3;exact hst3)
  have HK3:Hid (Kept (·=p) w w3):=hid (HK2.out.trans hk3 (fun _ _ h=>h) (fun _ _ h=>h))
  clear hst3 hk3 HBK
  go_wp2_with fail
  go_ret2
  exact⟨⟨sym,long,er,rfl,by rw[HMIN.out,←HR.out];exact HANS.out,HS3.out⟩,HK3.out⟩
 ·have HMIN:Hid (min left mx=left):=hid (by omega)
  go_wp2_with fail
  go_quiet ((go_at_call 108;exact Calls.quiet_of (HL _)))
  have HT:=take_good p c left s bs (w.drewN nq) (HS.out.drewN nq) (by omega) (by omega) (by have:=HLEFT.out;omega)
  obtain⟨R,hR⟩:∃R,R=n256 bs / 2 ^ c % 2 ^ left:=⟨_,rfl⟩
  rw[←hR]at HT
  have HR:Hid (R=n256 bs / 2 ^ c % 2 ^ left):=hR
  have hRl:R<4294967296:=by
   have h1:R<2 ^ left:=by rw[hR];exact Nat.mod_lt _ (Nat.two_pow_pos _)
   have h2:2 ^ left≤2 ^ 15:=Nat.pow_le_pow_right (by omega) (by omega)
   have h3:(2:Nat) ^ 15=32768:=by decide
   omega
  clear hR
  go_wp2_with fail
  refine HT.mono ?_
  rintro e w1 ⟨rfl,hst1,hk1⟩
  have HS1:Hid (St w1 p s bs (c+left)):=hst1
  have HK1:Hid (Kept (·=p) w w1):=hid (((Kept.refl (·=p) w).drewN nq).trans hk1 (fun _ _ h=>h) (fun _ _ h=>h))
  have HSE:=search_any w1 d _ vs ns R left (HD.out.kept HK1.out (fun k hk e=>HX.out k hk (.inl e))) (by have:=HMX.out;omega) hns (by have:=HMX.out;omega) hRl
  clear hst1 hk1 HT
  go_wp2_with fail
  refine HSE.mono ?_
  rintro e w2 ⟨⟨sym,long,er,rfl,hans⟩,hk2⟩
  have HANS:Hid (Ans ns left R sym long er):=hans
  have hll:long≤left:=by
   rcases hans with⟨_,_,_,h,_⟩ | ⟨_,_,h,_⟩ | ⟨_,_,h,_⟩
   ·exact h
   ·omega
   ·omega
  have hsub:((left:Int)-(long:Int))=((left-long:Nat):Int):=by omega
  have HS2:Hid (St w2 p s bs (c+left)):=hid (HS1.out.kept hk2 (fun _ _ h=>h))
  have HK2:Hid (Kept (·=p) w w2):=hid (HK1.out.trans hk2 (fun _ _ h=>h) (fun _ _ h=>h.elim))
  have HBK:=back_good p (c+left) (left-long) s bs w2 HS2.out (by omega) (by have:=HLEFT.out;omega)
  clear hans hk2 HSE
  go_wp2_with fail
  refine HBK.mono ?_
  rintro e w3 ⟨rfl,hst3,hk3⟩
  have HS3:Hid (St w3 p s bs (c+long)):=hid (by rw[show c+left-(left-long)=c+long by omega]at hst3;exact hst3)
  have HK3:Hid (Kept (·=p) w w3):=hid (HK2.out.trans hk3 (fun _ _ h=>h) (fun _ _ h=>h))
  clear hst3 hk3 HBK
  go_wp2_with fail
  go_ret2
  exact⟨⟨sym,long,er,rfl,by rw[HMIN.out,←HR.out];exact HANS.out,HS3.out⟩,HK3.out⟩

theorem next_none(w:World)(rv':Value):Calls Tryz.prog 145 #[.pointer none,rv'] w fun e w'=>e=.returned (.tuple #[.int .i64 0,.int .i64 3])∧w'=w:=by
 go_enter Tryz.func145,Tryz.ntmps145
 go_wp2_with fail
 go_ret2
 exact⟨rfl,rfl⟩

end Go.Proofs.YtggcbnhckcenmaaGreatDoor
