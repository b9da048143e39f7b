import Derived.Test.YtgieeeeeiggoeaaGreatD20
import Derived.Test.YtgieeeeeiggoeaaGreatD03
set_option maxRecDepth 100000
set_option maxHeartbeats 4000000
namespace Go.Proofs.YtgieeeeeiggoeaaGreat
open Go.RowKit Go.Shelf
open Tryz
variable {x:Int}{l:List Int}{k n:Nat}{w:World}
theorem rO (v:Value)(l:List Int)(x:Int)(w:World)(hv:bJ w v l)(hl:l.length<=1000) :
  Calls prog 212 #[v,.int .i64 x] w fun e w'=>e=.returned (.bool (decide (x∈l)))/\w'=w:=by
 obtain⟨a,c,rfl,hv⟩:=hv;have HV:=ae hv;clear hv;go_enter func212,ntmps212;go_wp2;go_loopw [5] (fun i wr=>∃ k:Nat,k<=l.length/\i=.int .i64 k/\wr=w/\x ∉ l.take k) (fun i _=>l.length-(intOf i).toNat)
 case atStart=>exact⟨0,bl _,rfl,rfl,by simp⟩
 case round =>
  obtain⟨k,hk,rfl,rfl,hno⟩:=hrel;by_cases hlt:k<l.length
  ·obtain⟨b,off,rfl,hc⟩:=HV.out k hlt
   have ht:Hid (l.take (k+1)=l.take k++[l.getD k 0]):=mD l k hlt;have hm:Hid (l.getD k 0∈l):=ae (by rw[List.getD,bU hlt];exact List.getElem_mem hlt)
   generalize l.getD k 0=y at *;by_cases hxy:y=x
   ·have H:Hid (decide (x∈l)=true):=ae (eR (hxy ▸ hm.out))
    subst hxy;go_wp2;go_ret;exact⟨by rw[H.out];rfl,rfl⟩
   ·go_wp2
    go_roundw
    case rel=>exact⟨k+1,by omega,by go_num,by trivial,by rw[ht.out,fE,dg];rintro (q|q);exact hno q;exact hxy q.symm⟩
    case measure=>simp[intOf];omega
  ·obtain rfl:k=l.length:=by omega
   have H:Hid (decide (x∈l)=false):=ae (ee (by rw[je] at hno;exact hno))
   go_wp2;go_ret;exact⟨by rw[H.out];rfl,rfl⟩
def ed (l:List Int)(x:Int):Int:=(List.range l.length).foldl (fun (r:Int) i=>if l.getD i 0=x then (i:Int) else r) (-1)
def j_ (l:List Int)(x:Int)(k:Nat):Int:=(List.range k).foldl (fun (r:Int) i=>if l.getD i 0=x then (i:Int) else r) (-1)
theorem xE (l:List Int)(x:Int)(k:Nat):j_ l x (k+1)=if l.getD k 0=x then (k:Int) else j_ l x k:=by
 unfold j_;rw[List.range_succ,List.foldl_append];rfl
structure ot (w:World)(b:Nat)(r:aR)(vm vl:Value):Prop where
 c0:w.cell? (b,0)=some (.bool r.up)
 c1:w.cell? (b,1)=some (.int .i64 r.ah)
 c2:w.cell? (b,2)=some (.int .i64 r.lock)
 c3:w.cell? (b,3)=some vm
 c4:w.cell? (b,4)=some vl
 c5:w.cell? (b,5)=some (.int .i64 r.base)
 c6:w.cell? (b,6)=some (.int .i64 r.aU)
 af:bJ w vm r.af
 log:eM w vl r.log
theorem sV (b:Nat)(r:aR)(vm vl:Value)(own:Int)(w:World)(h:ot w b r vm vl)(hl:r.af.length<=5) :
  Calls prog 175 #[b,.int .i64 own] w fun e w'=>e=.returned (.tuple #[.int .i64 (ed r.af own),.bool (decide (0<=ed r.af own) && decide (r.lock<=r.ah))])/\∃ q,w'=w.drewN q:=by
 obtain⟨a,c,rfl,hv⟩:=h.af;have q3:=h.c3;have q1:=h.c1;have q2:=h.c2;have HV:=ae hv;clear hv h;go_enter func175,ntmps175;go_wp2;go_loopw [6,7] (fun rk i wr=>∃ k:Nat,k<=r.af.length/\i=.int .i64 k/\wr=w/\rk=.int .i64 (j_ r.af own k)) (fun _ i _=>r.af.length-(intOf i).toNat)
 case atStart=>exact⟨0,bl _,rfl,rfl,rfl⟩
 case round =>
  obtain⟨k,hk,rfl,rfl,rfl⟩:=hrel;by_cases hlt:k<r.af.length
  ·obtain⟨b',off,rfl,hc⟩:=HV.out k hlt
   have ht:=ae (xE r.af own k);generalize r.af.getD k 0=y at *;by_cases hxy:y=own
   ·have H:Hid (j_ r.af own (k+1)=k):=ae (by rw[ht.out,if_pos hxy])
    subst hxy;go_wp2;go_roundw
    case rel=>exact⟨k+1,by omega,by go_num,by trivial,by rw[H.out]⟩
    case measure=>simp[intOf];omega
   ·have H:Hid (j_ r.af own (k+1)=j_ r.af own k):=ae (by rw[ht.out,if_neg hxy])
    go_wp2;go_roundw
    case rel=>exact⟨k+1,by omega,by go_num,by trivial,by rw[H.out]⟩
    case measure=>simp[intOf];omega
  ·obtain rfl:k=r.af.length:=by omega
   have hR:Hid (j_ r.af own r.af.length=ed r.af own):=ae rfl;generalize j_ r.af own r.af.length=R at *;by_cases hR0:0<=R
   ·by_cases hl:r.lock<=r.ah
    ·go_wp2
     go_quiet (fail);go_wp2;go_ret2;exact⟨by rw[<- hR.out];simp[hR0,hl],_,rfl⟩
    ·go_wp2
     go_quiet (fail);go_wp2;go_ret2;exact⟨by rw[<- hR.out];simp[hR0],_,rfl⟩
   ·have hd:decide (0<=R)=false:=ee hR0
    have hd2:Hid (decide (0<=R)=false):=ae hd;go_wp2;go_quiet (fail);go_wp2;go_ret2;exact⟨by rw[<- hR.out,hd2.out];rfl,_,rfl⟩
theorem ot.below {w':World}{b:Nat}{r:aR}{vm vl:Value}(h:ot w b r vm vl)(hb:ai w w'):ot w' b r vm vl where
 c0:=aF hb h.c0
 c1:=aF hb h.c1
 c2:=aF hb h.c2
 c3:=aF hb h.c3
 c4:=aF hb h.c4
 c5:=aF hb h.c5
 c6:=aF hb h.c6
 af:=h.af.below hb
 log:=h.log.below hb
theorem So (l:List Int)(x:Int)(k:Nat)(hk:k<=l.length)(h:x ∉ l.take k):j_ l x k = -1:=by
 induction k with
 | zero=>rfl
 | succ k ih =>
  have hlt:k<l.length:=by omega
  rw[nU hlt,fE,dg] at h;rw[xE,if_neg]
  ·exact ih (by omega) (fun e=>h (.inl e))
  ·rw[ew,bU hlt]
   exact fun e=>h (.inr e.symm)
theorem Gz (h:x ∉ l):ed l x = -1:=So l x l.length (aG _) (by rw[je];exact h)
theorem Sp (l:List Int)(x:Int)(hn:l.Nodup)(k:Nat)(hk:k<=l.length)(i:Nat)(hi:i<k)(hx:l[i]?=some x):j_ l x k=(i:Int):=by
 induction k with
 | zero=>omega
 | succ k ih =>
  have hlt:k<l.length:=by omega
  rw[xE,ew,bU hlt];by_cases e:i=k
  ·subst e
   rw[if_pos];rw[bU hlt] at hx
   simpa using hx
  ·rw[if_neg]
   ·exact ih (by omega) (by omega)
   ·intro q
    have hik:i<l.length:=by omega
    have h1:l[i]=l[k]:=by
     rw[bU hik] at hx;have:=Option.some.inj hx;simp at q;rw[this,q]
    exact List.pairwise_iff_getElem.1 hn i k hik hlt (by omega) h1
theorem u_ (hn:l.Nodup)(h:x∈l):ed l x=(l.idxOf x:Int):=by
 have hi:=List.idxOf_lt_length_of_mem h;exact Sp l x hn l.length (aG _) _ hi (by rw[bU hi,List.getElem_idxOf hi])
def mx (l:List Int)(x kr:Int):Int:=if ed l x+kr<0\/(l.length:Int)<=ed l x+kr then -1 else l.getD (ed l x+kr).toNat 0
theorem AX (hn:l.Nodup):mx l x (-1)=(dY l x).getD (-1):=by
 unfold mx dY;by_cases h:x∈l
 ·have hi:=List.idxOf_lt_length_of_mem h
  rw[u_ hn h];by_cases h0:l.idxOf x=0
  ·rw[if_pos h0,if_pos (by omega)]
   rfl
  ·rw[if_neg h0,if_pos hi,if_neg (by omega),show ((l.idxOf x:Int) + -1).toNat=l.idxOf x-1 by omega,ew,bU (by omega)]
   rfl
 ·rw[Gz h,if_pos (by omega)]
  have:l.idxOf x=l.length:=List.idxOf_eq_length h;split
  ·rfl
  ·rw[if_neg (by omega)]
   rfl
theorem xt (hn:l.Nodup)(h:x∈l):mx l x 1=(bS l x).getD (-1):=by
 unfold mx bS;have hi:=List.idxOf_lt_length_of_mem h;rw[u_ hn h];by_cases h0:l.idxOf x+1<l.length
 ·rw[if_neg (by omega),show ((l.idxOf x:Int)+1).toNat=l.idxOf x+1 by omega,ew,bU h0]
  rfl
 ·rw[if_pos (by omega),List.getElem?_eq_none (by omega)]
  rfl
theorem xD (l:List Int)(x:Int)(k:Nat) : -1<=j_ l x k/\j_ l x k<k:=by
 induction k with
 | zero=>exact⟨gv _,by show (-1:Int)<0;decide⟩
 | succ k ih =>
  rw[xE];split<;>omega
theorem rP (b:Nat)(r:aR)(vm vl:Value)(own kr:Int)(w:World)(h:ot w b r vm vl)(hl:r.af.length<=5)(hby:kr = -1\/kr=1) :
  Calls prog 209 #[b,.int .i64 own,.int .i64 kr] w fun e w'=>e=.returned (.int .i64 (mx r.af own kr))/\∃ q,w'=w.drewN q:=by
 have HS:=ae (sV b r vm vl own w h hl);have HR:=ae h;have hrg:=xD r.af own r.af.length;have hro:j_ r.af own r.af.length=ed r.af own:=rfl;rw[hro] at hrg;have HN:Hid (mx r.af own kr=if ed r.af own+kr<0\/(r.af.length:Int)<=ed r.af own+kr then -1 else r.af.getD (ed r.af own+kr).toNat 0):=ae rfl
 generalize mx r.af own kr=N at *;generalize ed r.af own=R at *;have hwr:IntKind.i64.wrap (R+kr)=R+kr:=by rw[dV];omega
 clear h hro;go_enter func209,ntmps209;go_wp2_with fail;refine HS.out.mono ?_
 rintro e W ⟨rfl,q,rfl⟩;obtain⟨am,cm,dG,hv⟩:=HR.out.af;subst dG;have c3:=HR.out.c3;have c3':(w.drewN q).cell? (b,3)=some (.slice am r.af.length cm):=c3;generalize hT:R+kr=T at *;by_cases h0:T<0
 ·have HV:Hid (N = -1):=ae (by rw[HN.out,if_pos (.inl h0)])
  go_wp2_with fail;go_ret;exact⟨by rw[HV.out];rfl,q,rfl⟩
 ·by_cases h1:(r.af.length:Int)<=T
  ·have HV:Hid (N = -1):=ae (by rw[HN.out,if_pos (.inr h1)])
   go_wp2_with fail;go_ret;exact⟨by rw[HV.out];rfl,q,rfl⟩
  ·obtain⟨t,rfl⟩:∃ t:Nat,T=(t:Int):=⟨T.toNat,by omega⟩
   have htl:t<r.af.length:=by omega
   have HV:Hid (N=r.af.getD t 0):=ae (by rw[HN.out,if_neg (by omega),Int.toNat_natCast])
   obtain⟨b2,off,rfl,hc⟩:=hv t htl;have hc':(w.drewN q).cell? ⟨b2,off+t,none⟩=some (.int .i64 (r.af.getD t 0)):=hc;generalize r.af.getD t 0=Y at *;have ht1:(t:Int)<(r.af.length:Int):=by omega
   have ht0:(0:Int)<=(t:Int):=by omega
   go_wp2_with fail;go_ret;exact⟨by rw[HV.out];rfl,q,rfl⟩
theorem xF (b:Nat)(r:aR)(vm vl:Value)(own:Int)(w:World)(h:ot w b r vm vl)(hl:r.af.length<=5)(hn:r.af.Nodup)(hp:∀ x∈r.af,0<=x) :
  Calls prog 206 #[b,.int .i64 own] w fun e w'=>∃ v,e=.returned v/\a_ w' w.heap.size v (r.c_ own)/\ai w w':=by
 have HN:=ae (rP b r vm vl own (-1) w h hl (.inl rfl));rw[AX hn] at HN;have HA:Hid (r.c_ own=match dY r.af own with|none=>[] | some a=>[{ kind:=3,src:=own,dst:=a,ah:=r.ah,pos:=r.aU }]):=ae rfl
 have hpos:∀ a,dY r.af own=some a->0<=a:=fun a e=>by
  unfold dY at e;split at e
  ·cases e
  ·split at e
   ·exact hp a (dU e)
   ·cases e
 have HR:=ae h;clear h;go_enter func206,ntmps206;go_wp2_with fail;refine HN.out.mono ?_
 rintro e W ⟨rfl,q,rfl⟩;cases hpr:dY r.af own with
 | none =>
  have HV:Hid (r.c_ own=[]):=ae (by rw[HA.out,hpr])
  clear hpos;go_wp2_with fail;go_ret;rw[HV.out];exact⟨_,rfl,a_.nil _ _,aV (ax _ _) q⟩
 | some a =>
  have HV:Hid (r.c_ own=[{ kind:=3,src:=own,dst:=a,ah:=r.ah,pos:=r.aU }]):=ae (by rw[HA.out,hpr])
  have ha0:¬ a<0:=by have:=hpos a hpr;omega
  have c1:=HR.out.c1;have c6:=HR.out.c6;have c1':(w.drewN q).cell? (b,1)=some (.int .i64 r.ah):=c1;have Vm:(w.drewN q).cell? (b,6)=some (.int .i64 (r.aU:Int)):=c6;clear hpos hpr;go_wp2_with fail;go_region;go_wp2_with fail;go_ret;rw[HV.out];refine⟨_,rfl,a_.one (g:=w.heap.size) _ (.slice none 0 0) (.slice none 0 0) ?_ (aG _) (bE _ _ _ _) (bE _ _ _ _), ?_⟩
  ·exact hnw _ _
  ·exact (aV (ax w.heap.size w) (q+1)).alloc (aG _) _
theorem FT (hk:k<l.length)(h:l.getD k 0<0\/(n:Int)<=l.getD k 0):dq l n=false:=by
 rw[<- Bool.not_eq_true];intro e;have hm:l.getD k 0∈l:=by rw[List.getD,bU hk];exact List.getElem_mem hk
 have:=((j0 _ _).1 e).1 _ hm;omega
theorem Q1 {j:Nat}(hj:j<k)(hk:k<l.length)(h:l.getD j 0=l.getD k 0):dq l n=false:=by
 rw[<- Bool.not_eq_true];intro e;have hn:=((j0 _ _).1 e).2.1;have hj2:j<l.length:=by omega
 rw[ew,ew,bU hj2,bU hk] at h;have:=(List.getElem_inj hn).1 (show l[j]=l[k] from h);omega
theorem Q2 (h1:∀ k,k<l.length->0<=l.getD k 0/\l.getD k 0<(n:Int))(h2:∀ k j,k<l.length->j<k->l.getD j 0≠l.getD k 0):dq l n=decide (0<(l.length:Int)):=by
 have hg:∀ k (hk:k<l.length),l.getD k 0=l[k]:=fun k hk=>by rw[ew,bU hk];rfl
 by_cases h0:l=[]
 ·subst h0;rfl
 ·have hp:0<l.length:=List.length_pos_iff.2 h0
  rw[eR (by omega)]
  refine (j0 _ _).2 ⟨fun x hx => ?_, ?_,h0⟩
  ·obtain⟨k,hk,rfl⟩:=List.getElem_of_mem hx
   rw[<- hg k hk];exact h1 k hk
  ·refine List.pairwise_iff_getElem.2 fun a b ha hb hab e => ?_
   rw[<- hg _ ha, <- hg _ hb] at e;exact h2 _ _ hb hab e
theorem SO (v:Value)(l:List Int)(n:Nat)(w:World)(hv:bJ w v l)(hl:l.length<=3000000)(_hn:n<=5) :
  Calls prog 144 #[v,.int .i64 (n:Int)] w fun e w'=>e=.returned (.bool (dq l n))/\∃ q,w'=w.drewN q:=by
 obtain⟨a,c,rfl,hv⟩:=hv;have HV:=ae hv;clear hv;go_enter func144,ntmps144;go_wp2_with fail;go_loopw [5] (fun i wr=>∃ k:Nat,k<=l.length/\i=.int .i64 k/\(∃ q,wr=w.drewN q)/\(∀ j,j<k->0<=l.getD j 0/\l.getD j 0<(n:Int))/\∀ j t,j<k->t<j->l.getD t 0≠l.getD j 0) (fun i _=>l.length-(intOf i).toNat)
 case atStart=>exact⟨0,bl _,rfl,⟨0,rfl⟩,fun j hj=>by omega,fun j t hj=>by omega⟩
 case round =>
  obtain⟨k,hk,rfl,⟨q,rfl⟩,h1,h2⟩:=hrel;have HI:=ae (aP h1 h2);clear h1 h2;by_cases hlt:k<l.length
  ·have hk0:(0:Int)<=(k:Int):=by omega
   have hk1:(k:Int)<(l.length:Int):=by omega
   obtain⟨b,off,rfl,hc⟩:=HV.out k hlt;by_cases hb1:l.getD k 0<0
   ·have HB:Hid (dq l n=false):=ae (FT hlt (.inl hb1))
    have d1:decide (l.getD k 0<0)=true:=eR hb1;generalize l.getD k 0=x at *;go_wp2_with fail;go_ret;exact⟨by rw[HB.out];rfl,_,rfl⟩
   by_cases hb2:(n:Int)<=l.getD k 0
   ·have HB:Hid (dq l n=false):=ae (FT hlt (.inr hb2))
    have d1:decide (l.getD k 0<0)=false:=ee hb1;have d2:decide ((n:Int)<=l.getD k 0)=true:=eR hb2;generalize l.getD k 0=x at *;go_wp2_with fail;go_ret;exact⟨by rw[HB.out];rfl,_,rfl⟩
   have d1:decide (l.getD k 0<0)=false:=ee hb1;have d2:decide ((n:Int)<=l.getD k 0)=false:=ee hb2;have HX:Hid (l.getD k 0=l.getD k 0):=ae rfl;generalize hx:l.getD k 0=x at *;have Hx:=ae hx;clear hx HX;go_wp2_with fail;go_loopw [6] (fun i wr=>∃ j:Nat,j<=k/\i=.int .i64 j/\(∃ q,wr=w.drewN q)/\∀ t,t<j->l.getD t 0≠x) (fun i _=>k-(intOf i).toNat)
   case atStart=>exact⟨0,bl _,rfl,⟨_,rfl⟩,fun t ht=>by omega⟩
   case round =>
    obtain⟨j,hj,rfl,⟨q2,rfl⟩,h3⟩:=hrel;have H3:=ae h3;clear h3;by_cases ES:j<k
    ·have hj0:(0:Int)<=(j:Int):=by omega
     have hj1:(j:Int)<(k:Int):=by omega
     have hj2:(j:Int)<(l.length:Int):=by omega
     obtain⟨b',off',Nv,hcj⟩:=HV.out j (by omega)
     cases Nv;by_cases he:l.getD j 0=x
     ·have HB:Hid (dq l n=false):=ae (Q1 ES hlt (by rw[he,Hx.out]))
      rw[he] at hcj;have rn:(x == x)=true:=by simp
      go_wp2_with fail;go_quiet (fail);go_wp2_with fail;go_ret;exact⟨by rw[HB.out];rfl,_,fi ..⟩
     ·have HY:=ae he
      generalize hy:l.getD j 0=y at *;have rn:(y == x)=false:=by simpa using he
      have Hy:=ae hy;clear hy he;go_wp2_with fail;go_quiet (fail);go_wp2_with fail;go_roundw
      case rel =>
       refine⟨j+1,by omega,by go_num,⟨_,by first|rfl|exact fi ..⟩,fun t ht => ?_⟩
       by_cases e:t=j
       ·rw[e,Hy.out];exact HY.out
       ·exact H3.out t (by omega)
      case measure=>simp[intOf];omega
    ·obtain rfl:j=k:=by omega
     go_wp2_with fail;go_roundw
     case rel =>
      refine⟨j+1,by omega,by go_num,⟨_,rfl⟩,fun t ht => ?_,fun t u ht hu => ?_⟩
      ·by_cases e:t=j
       ·rw[e,Hx.out];omega
       ·exact HI.out.1 t (by omega)
      ·by_cases e:t=j
       ·rw[e,Hx.out];exact H3.out u (by omega)
       ·exact HI.out.2 t u (by omega) hu
     case measure=>simp[intOf];omega
  ·obtain rfl:k=l.length:=by omega
   have HB:Hid (dq l n=decide (0<(l.length:Int))):=ae (Q2 HI.out.1 HI.out.2);go_wp2_with fail;go_ret;exact⟨by rw[HB.out];simp,_,rfl⟩
def kN (w:World)(v:Value)(l:List Int):Prop:=bJ w v l/\∃ a c,v=.slice a l.length c/\l.length<=c
theorem NM {a:Option Addr}{c:Nat}(h:bJ w (.slice a l.length c) l)(k:Nat)(hk:k<=l.length):bJ w (.slice a k c) (l.take k):=by
 obtain⟨a',c',e,hc⟩:=h;cases e;refine⟨a,c,by rw[dA,Nat.min_eq_left hk],fun i hi => ?_⟩
 rw[dA,Nat.min_eq_left hk] at hi;obtain⟨b,off,rfl,h1⟩:=hc i (by omega)
 refine⟨b,off,rfl, ?_⟩
 rw[ew,List.getElem?_take_of_lt hi, <- ew]
 exact h1
theorem xr (h:¬ (∀ x∈l,0<=x/\x<(n:Int))\/¬ l.Nodup\/l=[]):dq l n=false:=by
 cases hm:dq l n with
 | false=>rfl
 | true =>
  obtain⟨h1,h2,h3⟩:=(j0 _ _).1 hm;rcases h with h|h|h
  ·exact absurd h1 h
  ·exact absurd h2 h
  ·exact absurd h h3
theorem MM (hk:k<l.length):l.getD k 0∈l:=by
 rw[ew,bU hk];exact List.getElem_mem hk
theorem Rv (hk:k<l.length)(h:l.getD k 0∈l.take k):¬ l.Nodup:=by
 intro hnd;rw[List.mem_take_iff_getElem] at h;obtain⟨i,hi,e⟩:=h;have h1:l[i]?=some (l.getD k 0):=by rw[bU (by omega),e]
 have h2:l[k]?=some (l.getD k 0):=by rw[ew,bU hk];rfl
 have:=Ru hnd h1 h2;omega
theorem Km (v:Value)(l:List Int)(n:Nat)(w:World)(hv:kN w v l)(hl:l.length<=2000000)(hn:n<=100) :
  Calls prog 66 #[v,.int .i64 (n:Int)] w fun e w'=>e=.returned (.bool (dq l n))/\w'=w:=by
 obtain⟨hI,a,c,rfl,hcap⟩:=hv;have HH:Hid (∀ k,k<=l.length->k<=100->∀ y,Calls prog 121 #[.slice a k c,.int .i64 y] w fun e w'=>e=.returned (.bool (decide (y∈l.take k)))/\w'=w):=ae fun k hk hk2 y=>DA _ (l.take k) y w (NM hI k hk) (by rw[dA];omega)
 obtain⟨a',c',e,hc⟩:=hI;cases e;have Hc:=ae hc;clear hc;by_cases h0:l.length<1
 ·have HV:Hid (dq l n=false):=ae (xr (.inr (.inr (List.eq_nil_of_length_eq_zero (by omega)))))
  have h0':(l.length:Int)<1:=by omega
  go_enter func66,ntmps66;go_wp2_with fail;go_ret;exact⟨by rw[HV.out];rfl,rfl⟩
 ·have h0':¬ (l.length:Int)<1:=by omega
  by_cases h1:n<l.length
  ·have HV:Hid (dq l n=false):=ae (by
    cases hm:dq l n with
    | false=>rfl
    | true=>have:=e_ hm;omega)
   have h1':(n:Int)<(l.length:Int):=by omega
   go_enter func66,ntmps66;go_wp2_with fail;go_ret;exact⟨by rw[HV.out];rfl,rfl⟩
  ·have h1':¬ (n:Int)<(l.length:Int):=by omega
   go_enter func66,ntmps66;go_wp2_with fail;go_loopw [18] (fun i wr=>∃ k:Nat,k<=l.length/\i=.int .i64 k/\wr=w/\(∀ y∈l.take k,0<=y/\y<(n:Int))/\(l.take k).Nodup) (fun i _=>l.length-(intOf i).toNat)
   case atStart=>exact⟨0,bl _,rfl,rfl,by simp,by simp⟩
   case round =>
    obtain⟨k,hk,rfl,rfl,hr,hnd⟩:=hrel;by_cases hlt:k<l.length
    ·obtain⟨b,off,rfl,ck⟩:=Hc.out k hlt
     have hk1:(k:Int)<(l.length:Int):=by omega
     have hkc:k<=c:=by omega
     have ht:Hid (l.take (k+1)=l.take k++[l.getD k 0]):=mD l k hlt;have hmem:=ae (MM hlt);have hnn:=ae (fun h=>Rv hlt h);have Iz:=ae (fun y=>HH.out k hk (by omega) y)
     have HR:=ae (aP hr hnd);clear hr hnd;generalize l.getD k 0=y at *;by_cases hy0:y<0
     ·have HV:Hid (dq l n=false):=ae (xr (.inl fun h=>by have:=h y hmem.out;omega))
      go_wp2_with fail;go_ret;exact⟨by rw[HV.out];rfl,rfl⟩
     ·by_cases hyn:(n:Int)<=y
      ·have HV:Hid (dq l n=false):=ae (xr (.inl fun h=>by have:=h y hmem.out;omega))
       go_wp2_with fail;go_ret;exact⟨by rw[HV.out];rfl,rfl⟩
      ·go_wp2_with fail
       refine (Iz.out y).mono ?_
       rintro e w9 ⟨rfl,rfl⟩;by_cases hin:y∈l.take k
       ·have HV:Hid (dq l n=false):=ae (xr (.inr (.inl (hnn.out hin))))
        have hd:decide (y∈l.take k)=true:=by simp[hin]
        rw[hd];clear hd;have tm:=ae hin;clear hin;go_wp2_with fail;go_ret;exact⟨by rw[HV.out];rfl,rfl⟩
       ·have hd:decide (y∈l.take k)=false:=by simp[hin]
        rw[hd];clear hd;have tm:=ae hin;clear hin;go_wp2_with fail;go_roundw
        case rel =>
         refine⟨k+1,by omega,by go_num,by trivial, ?_, ?_⟩
         ·rw[ht.out]
          intro z hz;rcases fE.1 hz with h|h
          ·exact HR.out.1 z h
          ·rw[dg] at h
           subst h;omega
         ·rw[ht.out,List.nodup_append]
          refine⟨HR.out.2,by simp, ?_⟩
          intro z hz z' hz' e;rw[dg] at hz';subst hz';exact tm.out (e ▸ hz)
        case measure=>simp[intOf];omega
    ·obtain rfl:k=l.length:=by omega
     have HV:Hid (dq l n=true):=ae ((j0 _ _).2 ⟨by rwa [je] at hr,by rwa [je] at hnd,fun e=>by rw[e] at h0;simp at h0⟩)
     clear hr hnd;go_wp2_with fail;go_ret;exact⟨by rw[HV.out];rfl,rfl⟩
end Go.Proofs.YtgieeeeeiggoeaaGreat
namespace Go.Proofs.YtgieeeeeiggoeaaGreat
open Go.RowKit
def x8 (w:World)(a:Option Addr)(l:List fY):Prop:=∀ (i:Nat) (x:fY),l[i]?=some x->∃ b,a=some ⟨b,0,none⟩ /\
 w.cell? ⟨b,i*3,none⟩=some (.int .i64 x.client)/\w.cell? ⟨b,i*3+1,none⟩=some (.int .i64 x.seq)/\w.cell? ⟨b,i*3+2,none⟩=some (.int .i64 x.value)
theorem yP {w:World}{base:Nat}{v:Value}{l:List fY}(h:w.ownsRow base 113 3 v l.length (aJ (dj l))):∃ a c,v=.slice a l.length c/\x8 w a l:=by
 obtain⟨a,c,rfl⟩:=aM h;refine⟨a,c,rfl, ?_⟩
 intro i x hx;have hi:=(dI.1 hx).1;obtain⟨g,cap,hv,_,_⟩:=h.form (by omega)
 cases hv;have at_:∀ j,j<3->∀ z,x.nums[j]?=some z->w.cell? ⟨g,i*3+j,none⟩=some (.int .i64 z):=by
  intro j hj z hz;rw[ev h (i*3+j) (by omega)]
  unfold aJ;rw[fe,CX l i j x hx hj,hz];rfl
 exact⟨g,rfl,at_ 0 (by omega) _ rfl,at_ 1 (by omega) _ rfl,at_ 2 (by omega) _ rfl⟩
end Go.Proofs.YtgieeeeeiggoeaaGreat
