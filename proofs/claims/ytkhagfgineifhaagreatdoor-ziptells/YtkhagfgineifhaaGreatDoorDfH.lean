import Derived.Test.YtkhagfgineifhaaGreatDoorDfG
namespace Go.Proofs.YtkhagfgineifhaaGreatDoor
def ik(l:List Nat)(i:Nat):List Nat:=l.set i (key l i+1)
theorem fJ(l:List Nat)(i:Nat):(ik l i).length=l.length:=by simp[ik]
theorem qQ(l:List Nat)(i j:Nat)(hi:i<l.length):key (ik l i) j=key l j+(if i=j then 1 else 0):=by
 unfold ik;by_cases h:i=j
 ·subst h;rw[if_pos rfl,aZ (by simpa using hi)];simp
 ·simp only[key,List.getD_eq_getElem?_getD,List.getElem?_set];rw[if_neg h,if_neg h];rfl
def iH:List TK->List Nat->List Nat
 | [],l=>l
 | t::r,l=>iH r (ik l (aJ t).sym)
def iM:List TK->List Nat->List Nat
 | [],l=>l
 | t::r,l=>iM r (if t.len=0 then l else ik l (aH t).sym)
theorem D5(ts:List TK)(i:Nat)(h:i<ts.length)(l:List Nat):iH (ts.take (i+1)) l=ik (iH (ts.take i) l) (aJ ts[i]).sym:=by
 induction ts generalizing l i with
 | nil=>simp at h
 | cons t r ih=>
  cases i with
  | zero=>rfl
  | succ i=>simp only[List.take_succ_cons,iH,List.getElem_cons_succ];exact ih i (by simpa using h) _
theorem CV(ts:List TK)(i:Nat)(h:i<ts.length)(l:List Nat):iM (ts.take (i+1)) l=if ts[i].len=0 then iM (ts.take i) l else ik (iM (ts.take i) l) (aH ts[i]).sym:=by
 induction ts generalizing l i with
 | nil=>simp at h
 | cons t r ih=>
  cases i with
  | zero=>rfl
  | succ i=>simp only[List.take_succ_cons,iM,List.getElem_cons_succ];exact ih i (by simpa using h) _
theorem kn(ts:List TK)(l:List Nat):(iH ts l).length=l.length:=by
 induction ts generalizing l with
 | nil=>rfl
 | cons t r ih=>rw[iH,ih,fJ]
theorem oN(ts:List TK)(l:List Nat):(iM ts l).length=l.length:=by
 induction ts generalizing l with
 | nil=>rfl
 | cons t r ih=>
  rw[iM,ih];split
  ·rfl
  ·rw[fJ]
theorem qv(ts:List TK)(l:List Nat)(hs:∀t∈ts,(aJ t).sym<l.length)(j:Nat):key l j<=key (iH ts l) j/\key (iH ts l) j<=key l j+ts.length/\((∃t∈ts,(aJ t).sym=j)->1<=key (iH ts l) j):=by
 induction ts generalizing l with
 | nil=>exact⟨Nat.le_refl _,Nat.le_refl _,fun⟨t,h,_⟩=>by cases h⟩
 | cons t r ih=>
  have h1:=qQ l (aJ t).sym j (hs t (by simp));have h2:=ih (ik l (aJ t).sym) (λt ht=>by rw[fJ];exact hs t (by simp[ht]));rw[iH,List.length_cons];refine⟨by omega,by split at h1<;>omega,?_⟩;rintro⟨t',I2,hj⟩;rcases List.mem_cons.1 I2 with rfl | I2
  ·rw[if_pos hj]at h1;omega
  ·exact h2.2.2 ⟨t',I2,hj⟩
theorem yc(ts:List TK)(l:List Nat)(hs:∀t∈ts,t.len≠0->(aH t).sym<l.length)(j:Nat):key l j<=key (iM ts l) j/\key (iM ts l) j<=key l j+ts.length/\((∃t∈ts,t.len≠0/\(aH t).sym=j)->1<=key (iM ts l) j):=by
 induction ts generalizing l with
 | nil=>exact⟨Nat.le_refl _,Nat.le_refl _,fun⟨t,h,_⟩=>by cases h⟩
 | cons t r ih=>
  rw[iM,List.length_cons];by_cases h0:t.len=0
  ·rw[if_pos h0];have h2:=ih l (λt ht=>hs t (by simp[ht]));refine⟨h2.1,by omega,?_⟩;rintro⟨t',I2,hn,hj⟩;rcases List.mem_cons.1 I2 with rfl | I2
   ·exact absurd h0 hn
   ·exact h2.2.2 ⟨t',I2,hn,hj⟩
  ·rw[if_neg h0];have h1:=qQ l (aH t).sym j (hs t (by simp) h0);have h2:=ih (ik l (aH t).sym) (λt ht=>by rw[fJ];exact hs t (by simp[ht]));refine⟨by omega,by split at h1<;>omega,?_⟩;rintro⟨t',I2,hn,hj⟩;rcases List.mem_cons.1 I2 with rfl | I2
   ·rw[if_pos hj]at h1;omega
   ·exact h2.2.2 ⟨t',I2,hn,hj⟩
def j9:Nat->List Nat->List Nat
 | 0,l=>l
 | k+1,l=>if 1<l.length/\key l (l.length-1)=0 then j9 k (l.take (l.length-1))else l
theorem Ge(k:Nat)(l:List Nat)(hl:1<=l.length):∃m,j9 k l=l.take m/\1<=m/\m<=l.length/\∀j,m<=j->key l j=0:=by
 induction k generalizing l with
 | zero=>exact⟨l.length,by simp[j9],hl,Nat.le_refl _,λj hj=>by simp[key,List.getD_eq_getElem?_getD,List.getElem?_eq_none hj]⟩
 | succ k ih=>
  unfold j9;split
  ·rename_i h;obtain⟨m,h1,h2,h3,h4⟩:=ih (l.take (l.length-1)) (by rw[List.length_take];omega);rw[List.length_take]at h3;refine⟨m,by rw[h1,List.take_take];congr 1;omega,h2,by omega,λj hj=>?_⟩;by_cases Q6:j<l.length-1
   ·have:=h4 j hj;simp only[key,List.getD_eq_getElem?_getD,List.getElem?_take]at this ⊢;rw[if_pos Q6]at this;exact this
   ·by_cases he:j=l.length-1
    ·rw[he];exact h.2
    ·simp[key,List.getD_eq_getElem?_getD,List.getElem?_eq_none (show l.length<=j by omega)]
  ·exact⟨l.length,by simp,hl,Nat.le_refl _,λj hj=>by simp[key,List.getD_eq_getElem?_getD,List.getElem?_eq_none hj]⟩
end Go.Proofs.YtkhagfgineifhaaGreatDoor
