import Derived.Test.YtkhagfgineifhaaGreatDoorLnM
namespace Go.Proofs.YtkhagfgineifhaaGreatDoor
theorem gT(n:Nat)(h:11<=n):fd n=(18,((min n 138-11:Nat):Int))::fd (n-min n 138):=by rw[fd,if_pos h]
theorem g6(n:Nat)(h:n<11)(h3:3<=n):fd n=[(17,((n-3:Nat):Int))]:=by rw[fd,if_neg (by omega),if_pos h3]
theorem gZ(n:Nat)(h3:n<3):fd n=List.replicate n (0,0):=by rw[fd,if_neg (by omega),if_neg (by omega)]
theorem jo(v n:Nat)(h:3<=n):gP v n=(16,((min n 6-3:Nat):Int))::gP v (n-min n 6):=by rw[gP,if_pos h]
theorem jx(v n:Nat)(h:n<3):gP v n=List.replicate n ((v:Int),0):=by rw[gP,if_neg (by omega)]
theorem zT(n:Nat):(fd n).length<=n:=by
 induction n using Nat.strongRecOn with
 | ind n ih=>
  by_cases h:11<=n
  ·rw[gT n h,List.length_cons];have:=ih (n-min n 138) (by omega);omega
  ·by_cases h3:3<=n
   ·rw[g6 n (by omega) h3];simp;omega
   ·rw[gZ n (by omega)];simp
theorem AG(v n:Nat):(gP v n).length<=n:=by
 induction n using Nat.strongRecOn with
 | ind n ih=>
  by_cases h:3<=n
  ·rw[jo v n h,List.length_cons];have:=ih (n-min n 6) (by omega);omega
  ·rw[jx v n (by omega)];simp
theorem xK(v n:Nat)(h:1<=n):(eI v n).length<=n:=by
 unfold eI;split
 ·exact zT n
 ·rw[List.length_cons];have:=AG v (n-1);omega
theorem sK(l:List Nat):(ba l).length<=l.length:=by
 induction hn:l.length using Nat.strongRecOn generalizing l with
 | ind n ih=>
  cases l with
  | nil=>simp[ba]
  | cons v r=>
   rw[gY,List.length_append];have h1:=xK v (1+bJ v r) (by omega);have h2:=kP v r;have h3:=ih (r.drop (bJ v r)).length (by simp at hn ⊢;omega) _ rfl;simp at hn h3;omega
theorem sQ(v:Nat)(r:List Nat)(m:Nat)(h1:∀j (_:j<r.length),j<m->r[j]=v)(hm:m<=r.length)(h2:∀h:m<r.length,r[m]≠v):bJ v r=m:=by
 induction r generalizing m with
 | nil=>simp at hm;subst hm;rfl
 | cons a r ih=>
  cases m with
  | zero=>
   have:=h2 (by simp);simp at this;simp[bJ,this]
  | succ m=>
   have ha:=h1 0 (by simp) (by omega);simp at ha;have h3:=ih m (λj hj UB=>h1 (j+1) (by simpa using hj) (by omega)) (by simpa using hm) (λh=>h2 (by simpa using h));unfold bJ at h3 ⊢;rw[List.takeWhile_cons,if_pos (by simp[ha]),List.length_cons,h3]
theorem yV(v:Nat)(r:List Nat)(j:Nat)(hj:j<r.length)(h:j<bJ v r):r[j]=v:=by
 induction r generalizing j with
 | nil=>simp at hj
 | cons a r ih=>
  unfold bJ at h;rw[List.takeWhile_cons]at h;by_cases ha:a=v
  ·cases j with
   | zero=>simpa using ha
   | succ j=>
    rw[if_pos (by simp[ha]),List.length_cons]at h;simpa using ih j (by simpa using hj) (by unfold bJ;omega)
  ·rw[if_neg (by simp[ha])]at h;simp at h
theorem xx(v:Nat)(r:List Nat):v::r=List.replicate (1+bJ v r) v++r.drop (bJ v r):=by
 have h:=kP v r;rw[Nat.add_comm,List.replicate_succ,List.cons_append];congr 1;have e:r.take (bJ v r)=List.replicate (bJ v r) v:=by refine List.ext_getElem (by simp;omega) (λj h1 h2=>?_);simp at h1;rw[List.getElem_take,List.getElem_replicate,yV v r j (by omega) (by omega)]
 rw[<-e,List.take_append_drop]
theorem i7{l:List Nat}{s:Int×Int}{n v k:Nat}(h:iC s l=some (v,k))(hf:l.length+k<=n):ez l s n=some (l++List.replicate k v):=by unfold ez;rw[h];simp only;rw[if_neg (by omega)]
theorem xl(n:Nat)(l:List Nat)(ss tt:List (Int×Int)):ij n l (ss++tt)=(ij n l ss).bind (λm=>ij n m tt):=by
 induction ss generalizing l with
 | nil=>rfl
 | cons a r ih=>
  simp only[List.cons_append,ij];cases ez l a n with
  | none=>rfl
  | some m=>exact ih m
theorem Hd(n:Nat)(l:List Nat)(s:Int×Int):ij n l [s]=ez l s n:=by simp only[ij];cases ez l s n<;>rfl
theorem qn(v:Nat)(l:List Nat)(h:v<=15):iC ((v:Int),0) l=some (v,1):=by unfold iC;rw[if_pos ⟨by omega,by simp only;omega,rfl⟩];simp
theorem pU(n v k:Nat)(l:List Nat)(h:v<=15)(hf:l.length+k<=n):ij n l (List.replicate k ((v:Int),0))=some (l++List.replicate k v):=by
 induction k generalizing l with
 | zero=>simp[ij]
 | succ k ih=>
  rw[List.replicate_succ,ij,i7 (qn v l h) (by omega)];simp only;rw[ih _ (by simp;omega),List.append_assoc,List.replicate_append_replicate,Nat.add_comm]
theorem y9(n m:Nat)(l:List Nat)(hf:l.length+m<=n):ij n l (fd m)=some (l++List.replicate m 0):=by
 induction m using Nat.strongRecOn generalizing l with
 | ind m ih=>
  by_cases h:11<=m
  ·rw[gT m h,ij];have hs:iC (18,((min m 138-11:Nat):Int)) l=some (0,min m 138):=by
    unfold iC;rw[if_neg (by simp),if_neg (by simp),if_neg (by simp),if_pos ⟨rfl,by omega,by omega⟩];simp;omega
   rw[i7 hs (by omega)];simp only;rw[ih (m-min m 138) (by omega) _ (by simp;omega),List.append_assoc,List.replicate_append_replicate,show min m 138+(m-min m 138)=m by omega]
  ·by_cases h3:3<=m
   ·rw[g6 m (by omega) h3,Hd];have hs:iC (17,((m-3:Nat):Int)) l=some (0,m):=by
     unfold iC;rw[if_neg (by simp),if_neg (by simp),if_pos ⟨rfl,by omega,by omega⟩];simp;omega
    exact i7 hs hf
   ·rw[gZ m (by omega)];exact pU n 0 m l (by omega) hf
theorem AK(n v m:Nat)(l:List Nat)(h15:v<=15)(hl:0<l.length)(hv:j8 l=v)(hf:l.length+m<=n):ij n l (gP v m)=some (l++List.replicate m v):=by
 induction m using Nat.strongRecOn generalizing l with
 | ind m ih=>
  by_cases h:3<=m
  ·rw[jo v m h,ij];have hs:iC (16,((min m 6-3:Nat):Int)) l=some (v,min m 6):=by
    unfold iC;rw[if_neg (by simp),if_pos ⟨rfl,by omega,by omega,hl⟩,hv];simp;omega
   rw[i7 hs (by omega)];simp only;have cw:j8 (l++List.replicate (min m 6) v)=v:=by
    have hk:0<min m 6:=(by omega);generalize min m 6=k at hk ⊢;obtain⟨k,rfl⟩:∃j,k=j+1:=⟨k-1,by omega⟩
    unfold j8;rw[List.replicate_succ',<-List.append_assoc];simp
   rw[ih (m-min m 6) (by omega) _ (by simp;omega) cw (by simp;omega),List.append_assoc,List.replicate_append_replicate,show min m 6+(m-min m 6)=m by omega]
  ·rw[jx v m (by omega)];exact pU n v m l h15 hf
theorem Gt(n v m:Nat)(l:List Nat)(h15:v<=15)(hm:1<=m)(hf:l.length+m<=n):ij n l (eI v m)=some (l++List.replicate m v):=by
 unfold eI;split
 ·rename_i h0;subst h0;exact y9 n m l hf
 ·rw[ij,i7 (qn v l h15) (by omega)];simp only;have cw:j8 (l++List.replicate 1 v)=v:=(by simp[j8]);rw[AK n v (m-1) _ h15 (by simp) cw (by simp;omega),List.append_assoc,List.replicate_append_replicate,show 1+(m-1)=m by omega]
theorem DN(n:Nat)(r:List Nat)(l:List Nat)(h15:∀x∈r,x<=15)(hf:l.length+r.length<=n):ij n l (ba r)=some (l++r):=by
 induction hn:r.length using Nat.strongRecOn generalizing r l with
 | ind k ih=>
  cases r with
  | nil=>simp[ba,ij]
  | cons v r=>
   have WK:=kP v r;rw[gY,xl,Gt n v _ l (h15 v (by simp)) (by omega) (by simp at hf;omega)];simp only[Option.bind_some];rw[ih (r.drop (bJ v r)).length (by simp at hn ⊢;omega) _ _ (λx hx=>h15 x (List.mem_cons_of_mem _ (List.mem_of_mem_drop hx))) (by simp at hf ⊢;omega) rfl,List.append_assoc,<-xx]
end Go.Proofs.YtkhagfgineifhaaGreatDoor
