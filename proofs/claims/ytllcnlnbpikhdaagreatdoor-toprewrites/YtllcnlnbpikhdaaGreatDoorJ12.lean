import Derived.Lib.SliceRun
import Derived.Test.YtllcnlnbpikhdaaGreatDoorJ3
set_option maxHeartbeats 1000000
set_option maxRecDepth 100000
namespace Go.Proofs.YtllcnlnbpikhdaaGreatDoor
open Go.RowKit
theorem Row.rest{w:World}{ao:Option Addr}{cap:Nat}{bs:List Nat}(h:Row w (.slice ao bs.length cap) bs)(k:Nat)(hk:k≤bs.length)(a':Option Addr)(c':Nat)(ha:k<bs.length→∃g,ao=some ⟨g,0,none⟩∧a'=some ⟨g,k,none⟩):
  Src w (λj=>(Value.slice ao bs.length cap).ownBlock=some j) (.slice a' (bs.length-k) c') (bs.drop k):=by
 refine⟨a',c',by rw[List.length_drop],λbh=>?_⟩;have hlt:k<bs.length:=by refine Classical.byContradiction (λhc=>bh (List.drop_eq_nil_of_le (by omega)))
 obtain⟨g,rfl,rfl⟩:=ha hlt;refine⟨g,k,rfl,rfl,λj hj=>?_⟩;have BT:k+j<bs.length:=by rw[List.length_drop]at hj;omega
 have:=h.cell (k+j) BT;rw[List.getElem_drop];exact this
theorem wC(w:World):Row (w.alloc (.cells #[] 5)) (.slice (some ⟨w.heap.size,0,none⟩) 0 0) []:=
 ⟨rfl,.inr ⟨w.heap.size,0,#[],rfl,Nat.zero_le _,Blk.new w #[] _,Nat.le_refl _,Nat.zero_le _,rfl,rfl⟩⟩
theorem zG(w:World)(v:Value)(I:Nat→Prop)(cs:List Nat)(hs:Src w I v cs)(hn:cs.length≤1000000000):
  Calls Tryz.prog 89 #[v] w λe w'=>∃v',e=.returned v'/\Fresh w w' v' cs:=by
 obtain⟨ao,cap,rfl,hc⟩:=id hs;have Tk:∀(w:World) (a:Option Addr) (n c n' c':Nat),(binOp .eql 22 (.slice a n c) (.slice none n' c')).run Tryz.prog w=.ok (.bool a.isNone) w:=λw a n c n' c'=>Lib.run_eql_slice_nil w _ _ a n c n' c' Tryz.underlying22
 cases ao with
 | none=>
  have e0:cs=[]:=Classical.byContradiction (λh=>by obtain⟨_,_,e,_⟩:=hc h;cases e);subst e0;clear hs hc;go_enter Tryz.func89,Tryz.ntmps89;go_wp2_with fail;go_ret;exact⟨_,rfl,World.ownsRow_nil w 0 5 1,Kept.refl _ _,λk e=>by cases e⟩
 | some ad=>
  have HS:Hid (Src w I (.slice (some ad) cs.length cap) cs):=hs;have HR0:Hid (Row (w.alloc (.cells #[] 5)) (.slice (some ⟨w.heap.size,0,none⟩) 0 0) []):=hid (wC w);have HK0:Hid (Same w (w.alloc (.cells #[] 5))):=hid ((Kept.refl _ w).alloc _);obtain⟨L,hL⟩:∃L,L=cs.length:=⟨_,rfl⟩
  have HL:Hid (L=cs.length):=hL;rw[<-hL]at HS hn ⊢;clear hs hc hL;go_enter Tryz.func89,Tryz.ntmps89;have HLN:Hid (([]:List Nat).length+cs.length<=1000000000000):=hid (by have:=HL.out;simp;omega);go_wp2_with (at_builtin;refine bE _ rfl (.tmp 5) (.tmp 6) rfl (.slice (some ⟨w.heap.size,0,none⟩) 0 0) [] rfl HR0.out I (.slice (some ad) L cap) cs rfl (λn c e=>by cases e) (HS.out.kept HK0.out (λ_ _ _ f=>f)) HLN.out ?_);intro v3 w3 hr3 jH KI;have HR3:Hid (Row w3 v3 cs):=hid (by simpa using hr3);have HK3:Hid (Same w w3):=hid (HK0.out.grown jH (λj e=>.inr (by
   have e1:w.heap.size=j:=(by simpa[Value.ownBlock]using e);omega)))
  have HO3:Hid (∀k,v3.ownBlock=some k->w.heap.size<=k):=hid (λk e=>by
   rcases KI with h9 | h9
   ·rw[h9]at e;have e1:w.heap.size=k:=(by simpa[Value.ownBlock]using e);omega
   ·rw[h9]at e;have e1:w.heap.size+1=k:=(by simpa using e);omega)
  obtain⟨a3,Sy,pc,_⟩:=hr3.shape;clear hr3 jH KI;go_wp2_with fail;go_ret;exact⟨_,rfl,HR3.out,HK3.out,HO3.out⟩
theorem gR(w:World)(v:Value)(I:Nat→Prop)(cs:List Nat)(hs:Src w I v cs)(hn:cs.length≤2000000):
  Calls Tryz.prog 89 #[v] w λe w'=>∃v',e=.returned v'/\Fresh w w' v' cs:=zG w v I cs hs (Nat.le_trans hn (by decide))
def Whole(w:World)(v:Value):Prop:=∀g n c,v=.slice (some ⟨g,0,none⟩) n c->∃ds,Row w (.slice (some ⟨g,0,none⟩) c c) ds
theorem Whole.kept{F:Nat->Prop}{w w':World}{v:Value}(h:Whole w v)(hk:Kept F w w')(hn:∀k,v.ownBlock=some k->¬F k):Whole w' v:=by intro g n c e;obtain⟨ds,hr⟩:=h g n c e;exact⟨ds,hr.kept hk (λk e2=>hn k (by rw[e];exact e2))⟩
theorem CK(w:World):Whole w (.slice none 0 0):=λg n c e=>by cases e
theorem nH(w:World)(ty:TypeId)(g:Nat)(hrow:Row w (.slice (some ⟨g,0,none⟩) 0 0) [])(a:Addr)(c:Nat)(cs:List Nat)(eO:fP w a cs)(ag:cs.length≤1000000000000)(v':Value)(w':World)
  (hr:(Builtin.append_ #[22,22] ty #[.slice (some ⟨g,0,none⟩) 0 0,.slice (some a) cs.length c]).run Tryz.prog w=.ok v' w') (kS:Row w' v' ([]++cs)):Whole w' v':=by
 obtain⟨i0,hi,iq,iG,fW⟩:=info_parts Tryz.info8;have cX:i0.size=1:=iG;have hl:(cs.map bj).length=cs.length*1:=by simp
 by_cases h0:cs=[]
 ·subst h0;obtain⟨w2,hr2,_⟩:=run_append_fits (P:=Tryz.prog) w 0 22 ty 5 i0 1 Tryz.underlying22 hi iG g 0 0 [] hrow a 0 c [] rfl (by intro j u hu;simp at hu) (by simp) (Nat.le_refl _);have hr3:(Builtin.append_ #[22,22] ty #[.slice (some ⟨g,0,none⟩) 0 0,.slice (some a) 0 c]).run Tryz.prog w=.ok v' w':=hr;rw[hr3]at hr2;simp only[Result.ok.injEq]at hr2;intro g9 n9 c9 e9;have e8:v'=.slice (some ⟨g,0,none⟩) 0 0:=hr2.1;rw[e8]at e9 kS;simp only[Value.slice.injEq,Option.some.injEq,Addr.mk.injEq,and_true]at e9;obtain⟨rfl,rfl,rfl⟩:=e9;exact⟨[],kS⟩
 ·have uu:0<cs.length:=by cases cs with | nil=>exact absurd rfl h0 | cons _ _=>simp
  have hr2:=run_append_grow (P:=Tryz.prog) w 22 ty 5 i0 (.int .u8 0) Tryz.underlying22 hi iq ⟨g,0,none⟩ 0 0 [] (by simp) (by intro j u hu;simp at hu) a cs.length c (cs.map bj) (by rw[cX];simp) eO (by omega) (by omega) (growslice_fits (by omega) (by rw[fW];omega));rw[hr]at hr2;simp only[Result.ok.injEq]at hr2;have MD:=grownCap_ge w (0+cs.length) 0 5;have rn:=grownCap_le_maxLen w (0+cs.length) 0 5 (by simp only[maxLen];omega);obtain⟨K,hK⟩:∃K,K=grownCap w (0+cs.length) 0 5:=⟨_,rfl⟩
  rw[<-hK]at hr2 MD rn;obtain⟨e8,e9⟩:=hr2;intro g9 n9 c9 e7;rw[e8]at e7;simp only[Value.slice.injEq,Option.some.injEq,Addr.mk.injEq,and_true]at e7;obtain⟨rfl,_,rfl⟩:=e7;obtain⟨cur,kU⟩:∃cur,cur=([]:List Value).toArray++(cs.map bj).toArray++Builtin.zeroCells (Value.int .u8 0).cells (K-(0+cs.length)):=⟨_,rfl⟩
  have fq:cur.toList=(cs++List.replicate (K-cs.length) 0).map bj:=(by have e:(Value.int .u8 0).cells=#[.int .u8 0]:=rfl;rw[kU];simp[Builtin.zeroCells,e,bj];refine List.ext_getElem (by simp) (λi h1 h2=>?_);simp[Nat.mod_one]);have ri:(cs++List.replicate (K-cs.length) 0).length=K:=(by simp;omega);rw[<-kU]at e9;refine⟨cs++List.replicate (K-cs.length) 0,by simp,.inr ⟨w.heap.size,K,cur,by rw[ri],Nat.zero_le _,?_,by omega,rn,?_,?_⟩⟩
  ·rw[e9];exact Blk.new w.drew cur 5
  ·have:=congrArg List.length fq;rw[List.length_map,ri]at this;simpa using this
  ·rw[fq,Nat.mul_one,List.take_of_length_le (by simp)]
theorem kL{ops:Array Oper}{rest:List Oper}{o:Oper}{a:Act}{Q:Exit→Act→World→Prop}(w:World)(jL:o.guard=none)(s x:Operand)
  (ho:o.op=.call {callee:=.builtin .append,args:=#[s,x],argTypes:=#[22,22]})
  (g:Nat) (hs:a.eval s=.slice (some ⟨g,0,none⟩) 0 0) (hrow:Row w (.slice (some ⟨g,0,none⟩) 0 0) []) (I:Nat->Prop) (ad:Addr) (n c:Nat) (cs:List Nat) (hx:a.eval x=.slice (some ad) n c) (hsrc:Src w I (.slice (some ad) n c) cs) (ag:cs.length<=1000000000000)
  (h:∀v' w',Row w' v' cs->Whole w' v'->w.grownBy w' (some g)->(v'.ownBlock=some g\/v'.ownBlock=some w.heap.size)->wpList Tryz.prog ops Q rest (a.put o.dst v') w'):wpList Tryz.prog ops Q (o::rest) a w:=by
 have hat:=Src.at hsrc;obtain⟨hn,hb⟩:=hat;subst hn;have eO:fP w ad cs:=by
  by_cases h0:cs=[]
  ·subst h0;intro j u hu;simp at hu
  ·obtain⟨a',e,iH⟩:=hb h0;injection e with e;subst e;exact iH
 refine wpList_plain jL λK hK=>?_
 obtain⟨v',w',hr,h2,h3,h4⟩:=gv w o.type (.slice (some ⟨g,0,none⟩) 0 0) [] hrow ad c cs eO (by simpa using ag);have h5:=nH w o.type g hrow ad c cs eO ag v' w' hr h2;unfold Oper.wp execOp;simp only[ho,resolve,invoke,builtin,Sem.run_bind,Sem.run_pure,Result.andThen_ok,List.map_toArray,List.map_cons,List.map_nil,hs,hx,hr];exact hK _ _ (h v' w' (by simpa using h2) h5 h3 h4)
theorem xJ(w:World)(v:Value)(I:Nat→Prop)(cs:List Nat)(hs:Src w I v cs)(hn:cs.length≤1000000000):
  Calls Tryz.prog 89 #[v] w λe w'=>∃v',e=.returned v'/\Fresh w w' v' cs/\Whole w' v':=by
 obtain⟨ao,cap,rfl,hc⟩:=id hs;have Tk:∀(w:World) (a:Option Addr) (n c n' c':Nat),(binOp .eql 22 (.slice a n c) (.slice none n' c')).run Tryz.prog w=.ok (.bool a.isNone) w:=λw a n c n' c'=>Lib.run_eql_slice_nil w _ _ a n c n' c' Tryz.underlying22
 cases ao with
 | none=>
  have e0:cs=[]:=Classical.byContradiction (λh=>by obtain⟨_,_,e,_⟩:=hc h;cases e);subst e0;clear hs hc;go_enter Tryz.func89,Tryz.ntmps89;go_wp2_with fail;go_ret;exact⟨_,rfl,⟨World.ownsRow_nil w 0 5 1,Kept.refl _ _,λk e=>by cases e⟩,CK _⟩
 | some ad=>
  have HS:Hid (Src w I (.slice (some ad) cs.length cap) cs):=hs;have HR0:Hid (Row (w.alloc (.cells #[] 5)) (.slice (some ⟨w.heap.size,0,none⟩) 0 0) []):=hid (wC w);have HK0:Hid (Same w (w.alloc (.cells #[] 5))):=hid ((Kept.refl _ w).alloc _);obtain⟨L,hL⟩:∃L,L=cs.length:=⟨_,rfl⟩
  have HL:Hid (L=cs.length):=hL;rw[<-hL]at HS hn ⊢;clear hs hc hL;go_enter Tryz.func89,Tryz.ntmps89;have HLN:Hid (cs.length<=1000000000000):=hid (by have:=HL.out;omega);go_wp2_with (at_builtin;refine kL _ rfl (.tmp 5) (.tmp 6) rfl w.heap.size rfl HR0.out I ad L cap cs rfl (HS.out.kept HK0.out (λ_ _ _ f=>f)) HLN.out ?_);intro v3 w3 hr3 hw3 jH KI;have HR3:Hid (Row w3 v3 cs):=hr3;have HW3:Hid (Whole w3 v3):=hw3;have HK3:Hid (Same w w3):=hid (HK0.out.grown jH (λj e=>.inr (by injection e with e;omega)));have HO3:Hid (∀k,v3.ownBlock=some k->w.heap.size<=k):=hid (λk e=>by
   rcases KI with h9 | h9
   ·rw[h9]at e;injection e with e;omega
   ·rw[h9]at e;have e1:w.heap.size+1=k:=(by simpa using e);omega)
  obtain⟨a3,Sy,pc,_⟩:=hr3.shape;clear hr3 jH KI hw3;go_wp2_with fail;go_ret;exact⟨_,rfl,⟨HR3.out,HK3.out,HO3.out⟩,HW3.out⟩
theorem tG(w:World)(v:Value)(I:Nat→Prop)(cs:List Nat)(hs:Src w I v cs)(hn:cs.length≤2000000):
  Calls Tryz.prog 89 #[v] w λe w'=>∃v',e=.returned v'/\Fresh w w' v' cs/\Whole w' v':=xJ w v I cs hs (Nat.le_trans hn (by decide))
end Go.Proofs.YtllcnlnbpikhdaaGreatDoor
