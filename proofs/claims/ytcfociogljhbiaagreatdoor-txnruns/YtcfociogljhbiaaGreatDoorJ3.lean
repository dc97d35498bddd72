/-
  Of the proof: parts ChA, VaA.
-/
import Derived.Maps.OwnSet
import Derived.Maps.Range
import Derived.Maps.Ext
import Derived.StringKeys
import Derived.Test.YtcfociogljhbiaaGreatDoorJ2

namespace Go.Proofs.YtcfociogljhbiaaGreatDoor
open Go.RowKit Go.Maps

structure KL{κ:Type}(kl:κ→Lit):Prop where
 inj:∀a b,kl a=kl b→a=b
 str:∀a,(∃l,kl a=.string l)∨(∃k n,kl a=.int k n)

structure RdV(R:Value→Option (DataW Unit×List MemPlace))(val:Nat→Value)(nv:Value):Prop where
 say:∀f,R (val f)=some (.lit (.int .i64 (f:Nat)),[])
 inv:∀v f ps,R v=some (.lit (.int .i64 ((f:Nat):Int)),ps)→v=val f
 nmk:R nv=some (.nil,[])
 ninv:∀v ps,R v=some (.nil,ps)→v=nv

section
variable {κ:Type} {kl:κ→Lit}

theorem KL.same[DecidableEq κ](h:KL kl)(s t:κ):(kl s).sameKey (kl t)=decide (s=t):=by
 by_cases e:s=t
 ·subst e
  rcases h.str s with⟨l,hl⟩ | ⟨k,n,hl⟩
  ·rw[hl];simp[Lit.sameKey]
  ·rw[hl];simp[Lit.sameKey]
 ·rw[sameKey_ne (fun e2=>e (h.inj _ _ e2))];simp[e]

def entK(kl:κ→Lit)(p:κ×Nat):Lit×DataW Unit:=(kl p.1,.lit (.int .i64 (p.2:Nat)))

def mpD(kl:κ→Lit)(L:List (κ×Nat)):DataW Unit:=.map (L.map (entK kl))

def getK[DecidableEq κ](s:κ)(L:List (κ×Nat)):Option Nat:=(L.find? (fun p=>decide (p.1=s))).map (·.2)

def delK[DecidableEq κ](s:κ)(L:List (κ×Nat)):List (κ×Nat):=L.filter (fun p=>!decide (p.1=s))

def insK(kl:κ→Lit)(x:κ×Nat):List (κ×Nat)→List (κ×Nat)
 | []=>[x]
 | y::r=>if (kl x.1).before (kl y.1)then x::y::r else y::insK kl x r

def putK[DecidableEq κ](kl:κ→Lit)(s:κ)(f:Nat)(L:List (κ×Nat)):List (κ×Nat):=insK kl (s,f) (delK s L)

theorem mpD_ins(x:κ×Nat)(L:List (κ×Nat)):DataW.insert (entK kl x) (L.map (entK kl))=(insK kl x L).map (entK kl):=by
 induction L with
 | nil=>rfl
 | cons y r ih=>
  rw[List.map_cons,DataW.insert,insK]
  by_cases h:(kl x.1).before (kl y.1)=true
  ·rw[if_pos (by exact h),if_pos h];rfl
  ·rw[if_neg (by exact h),if_neg h,ih];rfl

theorem filter_entK[DecidableEq κ](hK:KL kl)(s:κ)(L:List (κ×Nat)):(L.map (entK kl)).filter (fun p=>!p.1.sameKey (kl s))=(delK s L).map (entK kl):=by
 induction L with
 | nil=>rfl
 | cons y r ih=>
  have e:(entK kl y).1.sameKey (kl s)=decide (y.1=s):=hK.same y.1 s
  rw[List.map_cons,List.filter_cons,e]
  unfold delK at ih ⊢
  rw[List.filter_cons]
  split
  ·rw[List.map_cons,ih]
  ·exact ih

theorem mpD_put[DecidableEq κ](hK:KL kl)(s:κ)(f:Nat)(L:List (κ×Nat)):(mpD kl L).put (kl s) (.lit (.int .i64 (f:Nat)))=mpD kl (putK kl s f L):=by
 unfold mpD DataW.put putK
 simp only
 rw[filter_entK hK]
 congr 1
 exact mpD_ins (s,f) (delK s L)

theorem mpD_del[DecidableEq κ](hK:KL kl)(s:κ)(L:List (κ×Nat)):(mpD kl L).del (kl s)=mpD kl (delK s L):=by
 unfold mpD DataW.del
 simp only
 rw[filter_entK hK]

theorem mpD_at[DecidableEq κ](hK:KL kl)(s:κ)(L:List (κ×Nat))(z:DataW Unit):(mpD kl L).atKey (kl s) z=match getK s L with | some f=>.lit (.int .i64 (f:Nat)) | none=>z:=by
 unfold mpD DataW.atKey getK
 simp only
 induction L with
 | nil=>rfl
 | cons y r ih=>
  have e:(entK kl y).1.sameKey (kl s)=decide (y.1=s):=hK.same y.1 s
  rw[List.map_cons,List.find?_cons,List.find?_cons,e]
  cases decide (y.1=s) with
  | true=>rfl
  | false=>exact ih

theorem mpD_size(L:List (κ×Nat)):Maps.size (mpD kl L)=L.length:=by unfold mpD;rw[size_eq,List.length_map]

def MpK(kt:TypeId)(R:Value→Option (DataW Unit×List MemPlace))(kl:κ→Lit)(w:World)(b:Nat)(L:List (κ×Nat)):Prop:=w.ownsMap Tryz.prog kt R b L.length (mpD kl L)

variable {kt:TypeId} {R:Value→Option (DataW Unit×List MemPlace)} {w:World} {b:Nat} {L:List (κ×Nat)} {val:Nat→Value} {nv:Value}

theorem MpK.tight{n:Nat}(h:w.ownsMap Tryz.prog kt R b n (mpD kl L)):MpK kt R kl w b L:=by
 obtain⟨es,clock,h1,h2,h3,h4⟩:=h
 refine⟨es,clock,h1,h2,?_,h4⟩
 have h5:=congrArg Maps.size h4
 rw[mpD_size]at h5
 rw[h5]
 simp[Maps.size,length_sorted]

theorem MpK.new(w:World):MpK kt R kl (w.alloc (.map #[] 0)) w.heap.size []:=World.ownsMap_made w Tryz.prog kt R

theorem MpK.lt(h:MpK kt R kl w b L):b<w.heap.size:=World.ownsMap.lt h

theorem MpK.kept{F:Nat→Prop}{w':World}(h:MpK kt R kl w b L)(hk:Kept F w w')(hF:¬F b):MpK kt R kl w' b L:=by
 obtain⟨es,clock,h1,h2⟩:=h
 refine⟨es,clock,?_,h2⟩
 rw[hk.block b (Array.getElem?_eq_some_iff.1 h1).1 hF]
 exact h1

theorem turnedK{w w':World}{b:Nat}(h:w.mapTurned w' b):Kept (·=b) w w':=(Kept.refl _ w).grown h.grown (fun k e=>.inl (by simpa using e.symm))

theorem MpK.look[DecidableEq κ](h:MpK kt R kl w b L)(hK:KL kl)(hV:RdV R val nv)(K:Keyed Tryz.prog kt)(t e:TypeId)(ht:Tryz.prog.underlying t=some (.map kt e))(hz:(zeroValue e).run Tryz.prog w=.ok nv w)(s:κ)(kv:Value)(hs:keyOf Tryz.prog kt kv=some (kl s)):
  (Instr.lookup t (.map (some b)) kv false).run Tryz.prog w=.ok (match getK s L with | some f=>val f | none=>nv) w:=by
 obtain⟨v,ps,h1,h2⟩:=World.ownsMap.lookup (t:=t) h K ht hz (zd:=.nil) (zp:=[]) hV.nmk hs
 rw[mpD_at hK]at h2
 rw[h1]
 cases hg:getK s L with
 | none=>rw[hg]at h2;rw[hV.ninv _ _ h2]
 | some f=>rw[hg]at h2;rw[hV.inv _ _ _ h2]

theorem MpK.del[DecidableEq κ](h:MpK kt R kl w b L)(hK:KL kl)(K:Keyed Tryz.prog kt)(t e:TypeId)(ht:Tryz.prog.underlying t=some (.map kt e))(s:κ)(kv:Value)(hs:keyOf Tryz.prog kt kv=some (kl s))(ty:TypeId):
  ∃w',(Builtin.delete_ #[t,kt] ty #[.map (some b),kv]).run Tryz.prog w=.ok (.tuple #[]) w'∧MpK kt R kl w' b (delK s L)∧Kept (·=b) w w':=by
 obtain⟨w',h1,h2,h3⟩:=World.ownsMap.drop (t:=t) h K ht hs ty
 rw[mpD_del hK]at h2
 exact⟨w',h1,MpK.tight h2,turnedK h3⟩

theorem MpK.put[DecidableEq κ](h:MpK kt R kl w b L)(hK:KL kl)(hV:RdV R val nv)(K:Keyed Tryz.prog kt)(t e:TypeId)(ht:Tryz.prog.underlying t=some (.map kt e))(s:κ)(kv:Value)(hs:keyOf Tryz.prog kt kv=some (kl s))(hL:L.length≤1000000000)(f:Nat):
  ∃w',(Instr.mapUpdate t (.map (some b)) kv (val f)).run Tryz.prog w=.ok () w'∧MpK kt R kl w' b (putK kl s f L)∧Kept (·=b) w w':=by
 obtain⟨w',h1,h2,h3⟩:=World.ownsMap.store (t:=t) h K ht (by unfold maxLen;omega) hs (d:=.lit (.int .i64 (f:Nat))) (ps:=[]) (val:=val f) (hV.say f)
 rw[mpD_put hK]at h2
 exact⟨w',h1,MpK.tight h2,turnedK h3⟩

theorem MpK.len(h:MpK kt R kl w b L)(t e:TypeId)(ht:Tryz.prog.underlying t=some (.map kt e))(ty:TypeId):(Builtin.len_ #[t] ty #[.map (some b)]).run Tryz.prog w=.ok (.int .i64 (L.length:Nat)) w:=by
 have:=World.ownsMap.len (t:=t) h ht ty
 rw[mpD_size]at this
 exact this

theorem MpK.rising(h:MpK kt R kl w b L)(K:Keyed Tryz.prog kt):L.Pairwise (fun p q=>(kl p.1).before (kl q.1)=true):=by
 obtain⟨es,e,h1,_⟩:=World.ownsMap.canon h K
 unfold mpD at e
 simp only[DataW.map.injEq]at e
 rw[←e]at h1
 exact List.pairwise_map.1 h1

theorem MpK.apart(h:MpK kt R kl w b L)(K:Keyed Tryz.prog kt):L.Pairwise (fun p q=>p.1≠q.1):=by
 obtain⟨es,e,h1,_⟩:=World.ownsMap.canon h K
 unfold mpD at e
 simp only[DataW.map.injEq]at e
 rw[←e]at h1
 have h2:=List.pairwise_map.1 (apart_of_rising h1)
 exact h2.imp (fun h e=>h (by show kl _=kl _;rw[e]))

theorem delK_len[DecidableEq κ](s:κ)(L:List (κ×Nat)):(delK s L).length≤L.length:=List.length_filter_le _ _

theorem insK_len(x:κ×Nat)(L:List (κ×Nat)):(insK kl x L).length=L.length+1:=by
 induction L with
 | nil=>rfl
 | cons y r ih=>rw[insK];split<;>simp[ih]

theorem putK_len[DecidableEq κ](s:κ)(f:Nat)(L:List (κ×Nat)):(putK kl s f L).length≤L.length+1:=by
 unfold putK
 rw[insK_len]
 have:=delK_len s L
 omega

theorem insK_mem{x p:κ×Nat}{L:List (κ×Nat)}:p∈insK kl x L↔p=x∨p∈L:=by
 induction L with
 | nil=>simp[insK]
 | cons y r ih=>
  rw[insK]
  split
  ·simp
  ·rw[List.mem_cons,ih,List.mem_cons]
   constructor
   ·rintro(h | h | h)
    ·exact .inr (.inl h)
    ·exact .inl h
    ·exact .inr (.inr h)
   ·rintro(h | h | h)
    ·exact .inr (.inl h)
    ·exact .inl h
    ·exact .inr (.inr h)

theorem putK_mem[DecidableEq κ]{s:κ}{f:Nat}{L:List (κ×Nat)}{p:κ×Nat}:p∈putK kl s f L↔p=(s,f)∨(p∈L∧p.1≠s):=by
 unfold putK
 rw[insK_mem]
 unfold delK
 rw[List.mem_filter]
 simp

theorem delK_mem[DecidableEq κ]{s:κ}{L:List (κ×Nat)}{p:κ×Nat}:p∈delK s L↔p∈L∧p.1≠s:=by
 unfold delK
 rw[List.mem_filter]
 simp

theorem getK_mem[DecidableEq κ]{s:κ}{L:List (κ×Nat)}{f:Nat}(h:getK s L=some f):(s,f)∈L:=by
 unfold getK at h
 cases hf:L.find? (fun p=>decide (p.1=s)) with
 | none=>rw[hf]at h;cases h
 | some p=>
  rw[hf]at h
  simp only[Option.map_some,Option.some.injEq]at h
  have h1:=List.find?_some hf
  have h2:=List.mem_of_find?_eq_some hf
  simp only[decide_eq_true_eq]at h1
  rw[←h1,←h]
  exact h2

theorem getK_none[DecidableEq κ]{s:κ}{L:List (κ×Nat)}(h:getK s L=none){p:κ×Nat}(hp:p∈L):p.1≠s:=by
 unfold getK at h
 rw[Option.map_eq_none_iff,List.find?_eq_none]at h
 have:=h p hp
 simpa using this

theorem getK_of_mem[DecidableEq κ]{s:κ}{L:List (κ×Nat)}{f:Nat}(ha:L.Pairwise (fun p q=>p.1≠q.1))(h:(s,f)∈L):getK s L=some f:=by
 induction L with
 | nil=>cases h
 | cons p L ih=>
  rw[List.pairwise_cons]at ha
  unfold getK
  rw[List.find?_cons]
  by_cases e:p.1=s
  ·rw[decide_eq_true e]
   rcases List.mem_cons.1 h with h | h
   ·rw[←h];rfl
   ·exact absurd e (ha.1 _ h)
  ·rw[decide_eq_false e]
   rcases List.mem_cons.1 h with h | h
   ·exact absurd (by rw[←h]) e
   ·exact ih ha.2 h

theorem getK_eq_none[DecidableEq κ]{s:κ}{L:List (κ×Nat)}(h:∀p∈L,p.1≠s):getK s L=none:=by
 cases hg:getK s L with
 | none=>rfl
 | some f=>exact absurd rfl (h _ (getK_mem hg))

theorem insK_apart{x:κ×Nat}{L:List (κ×Nat)}(ha:L.Pairwise (fun p q=>p.1≠q.1))(hx:∀p∈L,p.1≠x.1):(insK kl x L).Pairwise (fun p q=>p.1≠q.1):=by
 induction L with
 | nil=>simp[insK]
 | cons y r ih=>
  rw[insK]
  split
  ·exact List.pairwise_cons.2 ⟨fun q hq e=>hx q hq e.symm,ha⟩
  ·rw[List.pairwise_cons]at ha ⊢
   refine⟨fun q hq=>?_,ih ha.2 (fun p hp=>hx p (List.mem_cons_of_mem _ hp))⟩
   rcases insK_mem.1 hq with rfl | h
   ·exact hx y (List.mem_cons_self ..)
   ·exact ha.1 q h

theorem delK_apart[DecidableEq κ]{s:κ}{L:List (κ×Nat)}(ha:L.Pairwise (fun p q=>p.1≠q.1)):(delK s L).Pairwise (fun p q=>p.1≠q.1):=List.Pairwise.filter _ ha

theorem putK_apart[DecidableEq κ]{s:κ}{f:Nat}{L:List (κ×Nat)}(ha:L.Pairwise (fun p q=>p.1≠q.1)):(putK kl s f L).Pairwise (fun p q=>p.1≠q.1):=
 insK_apart (delK_apart ha) (fun _ hp=>(delK_mem.1 hp).2)

theorem getK_put[DecidableEq κ]{s t:κ}{f:Nat}{L:List (κ×Nat)}(ha:L.Pairwise (fun p q=>p.1≠q.1)):getK t (putK kl s f L)=if s=t then some f else getK t L:=by
 split
 ·rename_i e
  subst e
  exact getK_of_mem (putK_apart ha) (putK_mem.2 (.inl rfl))
 ·rename_i e
  cases hg:getK t L with
  | none=>exact getK_eq_none (fun p hp=>by
    rcases putK_mem.1 hp with rfl | h
    ·exact e
    ·exact getK_none hg h.1)
  | some g=>exact getK_of_mem (putK_apart ha) (putK_mem.2 (.inr ⟨getK_mem hg,fun e2=>e e2.symm⟩))

theorem getK_del[DecidableEq κ]{s t:κ}{L:List (κ×Nat)}(ha:L.Pairwise (fun p q=>p.1≠q.1)):getK t (delK s L)=if s=t then none else getK t L:=by
 split
 ·rename_i e
  subst e
  exact getK_eq_none (fun p hp=>(delK_mem.1 hp).2)
 ·rename_i e
  cases hg:getK t L with
  | none=>exact getK_eq_none (fun p hp=>getK_none hg (delK_mem.1 hp).1)
  | some g=>exact getK_of_mem (delK_apart ha) (delK_mem.2 ⟨getK_mem hg,fun e2=>e e2.symm⟩)

theorem has_mp[DecidableEq κ](hK:KL kl)(L:List (κ×Nat)):∀p∈L,Maps.has (mpD kl L) (kl p.1)=true:=by
 intro p hp
 unfold mpD Maps.has
 simp only[List.any_map,List.any_eq_true]
 exact⟨p,hp,by show(kl p.1).sameKey (kl p.1)=true;rw[hK.same];simp⟩

end

end Go.Proofs.YtcfociogljhbiaaGreatDoor

namespace Go.Proofs.YtcfociogljhbiaaGreatDoor
open Go.RowKit Go.Maps

structure RdG{β:Type}(R:Value→Option (DataW Unit×List MemPlace))(val:β→Value)(dv:β→DataW Unit)(nv:Value)(zd:DataW Unit):Prop where
 say:∀x,R (val x)=some (dv x,[])
 inv:∀v x ps,R v=some (dv x,ps)→v=val x
 nmk:R nv=some (zd,[])
 ninv:∀v ps,R v=some (zd,ps)→v=nv

section
variable {κ β:Type} {kl:κ→Lit} {dv:β→DataW Unit}

def entG(kl:κ→Lit)(dv:β→DataW Unit)(p:κ×β):Lit×DataW Unit:=(kl p.1,dv p.2)

def mpG(kl:κ→Lit)(dv:β→DataW Unit)(L:List (κ×β)):DataW Unit:=.map (L.map (entG kl dv))

def getG[DecidableEq κ](s:κ)(L:List (κ×β)):Option β:=(L.find? (fun p=>decide (p.1=s))).map (·.2)

def delG[DecidableEq κ](s:κ)(L:List (κ×β)):List (κ×β):=L.filter (fun p=>!decide (p.1=s))

def insG(kl:κ→Lit)(x:κ×β):List (κ×β)→List (κ×β)
 | []=>[x]
 | y::r=>if (kl x.1).before (kl y.1)then x::y::r else y::insG kl x r

def putG[DecidableEq κ](kl:κ→Lit)(s:κ)(f:β)(L:List (κ×β)):List (κ×β):=insG kl (s,f) (delG s L)

theorem mpG_ins(x:κ×β)(L:List (κ×β)):DataW.insert (entG kl dv x) (L.map (entG kl dv))=(insG kl x L).map (entG kl dv):=by
 induction L with
 | nil=>rfl
 | cons y r ih=>
  rw[List.map_cons,DataW.insert,insG]
  by_cases h:(kl x.1).before (kl y.1)=true
  ·rw[if_pos (by exact h),if_pos h];rfl
  ·rw[if_neg (by exact h),if_neg h,ih];rfl

theorem filter_entG[DecidableEq κ](hK:KL kl)(s:κ)(L:List (κ×β)):(L.map (entG kl dv)).filter (fun p=>!p.1.sameKey (kl s))=(delG s L).map (entG kl dv):=by
 induction L with
 | nil=>rfl
 | cons y r ih=>
  have e:(entG kl dv y).1.sameKey (kl s)=decide (y.1=s):=hK.same y.1 s
  rw[List.map_cons,List.filter_cons,e]
  unfold delG at ih ⊢
  rw[List.filter_cons]
  split
  ·rw[List.map_cons,ih]
  ·exact ih

theorem mpG_put[DecidableEq κ](hK:KL kl)(s:κ)(f:β)(L:List (κ×β)):(mpG kl dv L).put (kl s) (dv f)=mpG kl dv (putG kl s f L):=by
 unfold mpG DataW.put putG
 simp only
 rw[filter_entG hK]
 congr 1
 exact mpG_ins (s,f) (delG s L)

theorem mpG_at[DecidableEq κ](hK:KL kl)(s:κ)(L:List (κ×β))(z:DataW Unit):(mpG kl dv L).atKey (kl s) z=match getG s L with | some f=>dv f | none=>z:=by
 unfold mpG DataW.atKey getG
 simp only
 induction L with
 | nil=>rfl
 | cons y r ih=>
  have e:(entG kl dv y).1.sameKey (kl s)=decide (y.1=s):=hK.same y.1 s
  rw[List.map_cons,List.find?_cons,List.find?_cons,e]
  cases decide (y.1=s) with
  | true=>rfl
  | false=>exact ih

theorem mpG_has[DecidableEq κ](hK:KL kl)(s:κ)(L:List (κ×β)):Maps.has (mpG kl dv L) (kl s)=(getG s L).isSome:=by
 unfold mpG Maps.has getG
 simp only
 induction L with
 | nil=>rfl
 | cons y r ih=>
  have e:(entG kl dv y).1.sameKey (kl s)=decide (y.1=s):=hK.same y.1 s
  rw[List.map_cons,List.any_cons,List.find?_cons,e]
  cases decide (y.1=s) with
  | true=>rfl
  | false=>rw[Bool.false_or];exact ih

theorem mpG_size(L:List (κ×β)):Maps.size (mpG kl dv L)=L.length:=by unfold mpG;rw[size_eq,List.length_map]

def MpG(kt:TypeId)(R:Value→Option (DataW Unit×List MemPlace))(kl:κ→Lit)(dv:β→DataW Unit)(w:World)(b:Nat)(L:List (κ×β)):Prop:=w.ownsMap Tryz.prog kt R b L.length (mpG kl dv L)

variable {kt:TypeId} {R:Value→Option (DataW Unit×List MemPlace)} {w:World} {b:Nat} {L:List (κ×β)} {val:β→Value} {nv:Value} {zd:DataW Unit}

theorem MpG.tight{n:Nat}(h:w.ownsMap Tryz.prog kt R b n (mpG kl dv L)):MpG kt R kl dv w b L:=by
 obtain⟨es,clock,h1,h2,h3,h4⟩:=h
 refine⟨es,clock,h1,h2,?_,h4⟩
 have h5:=congrArg Maps.size h4
 rw[mpG_size]at h5
 rw[h5]
 simp[Maps.size,length_sorted]

theorem MpG.new(w:World):MpG kt R kl dv (w.alloc (.map #[] 0)) w.heap.size []:=World.ownsMap_made w Tryz.prog kt R

theorem MpG.lt(h:MpG kt R kl dv w b L):b<w.heap.size:=World.ownsMap.lt h

theorem MpG.kept{F:Nat→Prop}{w':World}(h:MpG kt R kl dv w b L)(hk:Kept F w w')(hF:¬F b):MpG kt R kl dv w' b L:=by
 obtain⟨es,clock,h1,h2⟩:=h
 refine⟨es,clock,?_,h2⟩
 rw[hk.block b (Array.getElem?_eq_some_iff.1 h1).1 hF]
 exact h1

theorem MpG.look[DecidableEq κ](h:MpG kt R kl dv w b L)(hK:KL kl)(hV:RdG R val dv nv zd)(K:Keyed Tryz.prog kt)(t e:TypeId)(ht:Tryz.prog.underlying t=some (.map kt e))(hz:(zeroValue e).run Tryz.prog w=.ok nv w)(s:κ)(kv:Value)(hs:keyOf Tryz.prog kt kv=some (kl s)):
  (Instr.lookup t (.map (some b)) kv true).run Tryz.prog w=.ok (.tuple #[(getG s L).elim nv val,.bool (getG s L).isSome]) w:=by
 obtain⟨v,ps,h1,h2⟩:=World.ownsMap.look_ok (t:=t) h K ht hz (zd:=zd) (zp:=[]) hV.nmk hs
 rw[mpG_at hK]at h2
 rw[h1,mpG_has hK]
 cases hg:getG s L with
 | none=>rw[hg]at h2;rw[hV.ninv _ _ h2];rfl
 | some f=>rw[hg]at h2;rw[hV.inv _ _ _ h2];rfl

theorem MpG.put[DecidableEq κ](h:MpG kt R kl dv w b L)(hK:KL kl)(hV:RdG R val dv nv zd)(K:Keyed Tryz.prog kt)(t e:TypeId)(ht:Tryz.prog.underlying t=some (.map kt e))(s:κ)(kv:Value)(hs:keyOf Tryz.prog kt kv=some (kl s))(hL:L.length≤1000000000)(f:β):
  ∃w',(Instr.mapUpdate t (.map (some b)) kv (val f)).run Tryz.prog w=.ok () w'∧MpG kt R kl dv w' b (putG kl s f L)∧Kept (·=b) w w':=by
 obtain⟨w',h1,h2,h3⟩:=World.ownsMap.store (t:=t) h K ht (by unfold maxLen;omega) hs (d:=dv f) (ps:=[]) (val:=val f) (hV.say f)
 rw[mpG_put hK]at h2
 exact⟨w',h1,MpG.tight h2,turnedK h3⟩

theorem MpG.len(h:MpG kt R kl dv w b L)(t e:TypeId)(ht:Tryz.prog.underlying t=some (.map kt e))(ty:TypeId):(Builtin.len_ #[t] ty #[.map (some b)]).run Tryz.prog w=.ok (.int .i64 (L.length:Nat)) w:=by
 have:=World.ownsMap.len (t:=t) h ht ty
 rw[mpG_size]at this
 exact this

theorem MpG.apart(h:MpG kt R kl dv w b L)(K:Keyed Tryz.prog kt):L.Pairwise (fun p q=>p.1≠q.1):=by
 obtain⟨es,e,h1,_⟩:=World.ownsMap.canon h K
 unfold mpG at e
 simp only[DataW.map.injEq]at e
 rw[←e]at h1
 have h2:=List.pairwise_map.1 (apart_of_rising h1)
 exact h2.imp (fun h e=>h (by show kl _=kl _;rw[e]))

theorem delG_len[DecidableEq κ](s:κ)(L:List (κ×β)):(delG s L).length≤L.length:=List.length_filter_le _ _

theorem insG_len(x:κ×β)(L:List (κ×β)):(insG kl x L).length=L.length+1:=by
 induction L with
 | nil=>rfl
 | cons y r ih=>rw[insG];split<;>simp[ih]

theorem putG_len[DecidableEq κ](s:κ)(f:β)(L:List (κ×β)):1≤(putG kl s f L).length∧(putG kl s f L).length≤L.length+1:=by
 unfold putG
 rw[insG_len]
 have:=delG_len s L
 omega

theorem insG_mem{x p:κ×β}{L:List (κ×β)}:p∈insG kl x L↔p=x∨p∈L:=by
 induction L with
 | nil=>simp[insG]
 | cons y r ih=>
  rw[insG]
  split
  ·simp
  ·rw[List.mem_cons,ih,List.mem_cons]
   constructor
   ·rintro(h | h | h)
    ·exact .inr (.inl h)
    ·exact .inl h
    ·exact .inr (.inr h)
   ·rintro(h | h | h)
    ·exact .inr (.inl h)
    ·exact .inl h
    ·exact .inr (.inr h)

theorem putG_mem[DecidableEq κ]{s:κ}{f:β}{L:List (κ×β)}{p:κ×β}:p∈putG kl s f L↔p=(s,f)∨(p∈L∧p.1≠s):=by
 unfold putG
 rw[insG_mem]
 unfold delG
 rw[List.mem_filter]
 simp

theorem getG_mem[DecidableEq κ]{s:κ}{L:List (κ×β)}{f:β}(h:getG s L=some f):(s,f)∈L:=by
 unfold getG at h
 cases hf:L.find? (fun p=>decide (p.1=s)) with
 | none=>rw[hf]at h;cases h
 | some p=>
  rw[hf]at h
  simp only[Option.map_some,Option.some.injEq]at h
  have h1:=List.find?_some hf
  have h2:=List.mem_of_find?_eq_some hf
  simp only[decide_eq_true_eq]at h1
  rw[←h1,←h]
  exact h2

theorem getG_none[DecidableEq κ]{s:κ}{L:List (κ×β)}(h:getG s L=none){p:κ×β}(hp:p∈L):p.1≠s:=by
 unfold getG at h
 rw[Option.map_eq_none_iff,List.find?_eq_none]at h
 have:=h p hp
 simpa using this

theorem getG_of_mem[DecidableEq κ]{s:κ}{L:List (κ×β)}{f:β}(ha:L.Pairwise (fun p q=>p.1≠q.1))(h:(s,f)∈L):getG s L=some f:=by
 induction L with
 | nil=>cases h
 | cons p L ih=>
  rw[List.pairwise_cons]at ha
  unfold getG
  rw[List.find?_cons]
  by_cases e:p.1=s
  ·rw[decide_eq_true e]
   rcases List.mem_cons.1 h with h | h
   ·rw[←h];rfl
   ·exact absurd e (ha.1 _ h)
  ·rw[decide_eq_false e]
   rcases List.mem_cons.1 h with h | h
   ·exact absurd (by rw[←h]) e
   ·exact ih ha.2 h

theorem getG_eq_none[DecidableEq κ]{s:κ}{L:List (κ×β)}(h:∀p∈L,p.1≠s):getG s L=none:=by
 cases hg:getG s L with
 | none=>rfl
 | some f=>exact absurd rfl (h _ (getG_mem hg))

theorem insG_apart{x:κ×β}{L:List (κ×β)}(ha:L.Pairwise (fun p q=>p.1≠q.1))(hx:∀p∈L,p.1≠x.1):(insG kl x L).Pairwise (fun p q=>p.1≠q.1):=by
 induction L with
 | nil=>simp[insG]
 | cons y r ih=>
  rw[insG]
  split
  ·exact List.pairwise_cons.2 ⟨fun q hq e=>hx q hq e.symm,ha⟩
  ·rw[List.pairwise_cons]at ha ⊢
   refine⟨fun q hq=>?_,ih ha.2 (fun p hp=>hx p (List.mem_cons_of_mem _ hp))⟩
   rcases insG_mem.1 hq with rfl | h
   ·exact hx y (List.mem_cons_self ..)
   ·exact ha.1 q h

theorem putG_apart[DecidableEq κ]{s:κ}{f:β}{L:List (κ×β)}(ha:L.Pairwise (fun p q=>p.1≠q.1)):(putG kl s f L).Pairwise (fun p q=>p.1≠q.1):=by
 refine insG_apart (List.Pairwise.filter _ ha) (fun p hp=>?_)
 unfold delG at hp
 have:=(List.mem_filter.1 hp).2
 simpa using this

theorem getG_put[DecidableEq κ]{s t:κ}{f:β}{L:List (κ×β)}(ha:L.Pairwise (fun p q=>p.1≠q.1)):getG t (putG kl s f L)=if s=t then some f else getG t L:=by
 split
 ·rename_i e
  subst e
  exact getG_of_mem (putG_apart ha) (putG_mem.2 (.inl rfl))
 ·rename_i e
  cases hg:getG t L with
  | none=>exact getG_eq_none (fun p hp=>by
    rcases putG_mem.1 hp with rfl | h
    ·exact e
    ·exact getG_none hg h.1)
  | some g=>exact getG_of_mem (putG_apart ha) (putG_mem.2 (.inr ⟨getG_mem hg,fun e2=>e e2.symm⟩))

end

end Go.Proofs.YtcfociogljhbiaaGreatDoor
