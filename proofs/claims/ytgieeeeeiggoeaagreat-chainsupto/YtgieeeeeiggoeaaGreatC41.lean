import Derived.Test.YtgieeeeeiggoeaaGreatC37
import Derived.Test.YtgieeeeeiggoeaaGreatC40
import Derived.Test.YtgieeeeeiggoeaaGreatC18
import Derived.Test.YtgieeeeeiggoeaaGreatC09
import Derived.Test.YtgieeeeeiggoeaaGreatC21
set_option maxRecDepth 100000
set_option maxHeartbeats 4000000
namespace Go.Proofs.YtgieeeeeiggoeaaGreat
open Go.RowKit Go.Shelf
theorem LawAt.less {w0 w:World}{B:Nat}{x5:Value}{M M':Nat}{ps:List Pr}(h:LawAt w0 w B x5 M ps)(hM:M≤M'):LawAt w0 w B x5 M' ps:=by
 obtain⟨b,vC,vI,vL,vT,vA,h⟩:=h;obtain⟨s1,s2,s3,s4⟩:=h.small;exact⟨b,vC,vI,vL,vT,vA, { h with small:=⟨by omega,by omega,by omega,by omega⟩ }⟩
theorem LawAt.cells {w0 w:World}{B:Nat}{x5:Value}{M:Nat}{ps:List Pr}{p:Pr}(h:LawAt w0 w B x5 M ps)(hp:p∈ps):∃ a c,w.cell? ⟨p.q,1,none⟩=some (.pointer (some ⟨p.y,0,none⟩))∧w.cell? ⟨p.y,0,none⟩=some (.slice a p.c.reps.length c):=by
 obtain⟨b,vC,vI,vL,vT,vA,h⟩:=h;obtain⟨FX,FY,hq,hX,⟨br,ba,bm,vr,va,vm,vb,vt,vv,vc,hY⟩, -, -, -⟩:=h.prs p hp
 obtain⟨a,c,hv⟩:=osh hY.rr
 subst hv;exact⟨a,c,coh hq 1,coh hY.blk 0⟩
theorem LawAt.row {w0 w:World}{B:Nat}{x5:Value}{M:Nat}{ps:List Pr}(h:LawAt w0 w B x5 M ps):∃ a c,w.cell? ⟨B,0,none⟩=some (.slice a ps.length c)∧∀ k p,ps[k]?=some p→∃ g,a=some ⟨g,0,none⟩∧w.cell? ⟨g,k,none⟩=some (.pointer (some ⟨p.q,0,none⟩)):=by
 obtain⟨b,vC,vI,vL,vT,vA,h⟩:=h;obtain⟨a,c,hv⟩:=osh h.row
 subst hv;refine⟨a,c,coh h.book.blk 0,fun k p hp => ?_⟩
 have hk:=(List.getElem?_eq_some_iff.1 hp).1
 obtain⟨g,cap,hv, -, -⟩:=h.row.form (by omega)
 cases hv
 refine⟨g,rfl, ?_⟩
 rw[World.ownsRow.cellAt h.row k (by omega),List.getElem?_map,hp]
 rfl
theorem lawAsked_any {w0 w:World}{B:Nat}{x5:Value}{M:Nat}{ps:List Pr}(h:LawAt w0 w B x5 M ps)(hg:∀ p∈ps,(∃ E g,Good p.c E g)∧p.c.told.length≤1000000000)(hn:ps.length≤2000000)(hM:M≤10000000) :
  Calls Tryz.prog 25 #[.pointer (some ⟨B,0,none⟩)] w fun e w'=>e=.returned (.bool true)∧Below w0.heap.size w0 w':=by
 have HL:=hideA h;have HG:=hideA hg;clear h hg;go_enter Tryz.func25,Tryz.ntmps25
 go_wp2_with fail;go_loopw [3] (fun i wr=>∃ k:Nat,k≤ps.length∧i=.int .i64 k∧LawAt w0 wr B x5 (M+100*k) ps) (fun i _=>ps.length-(intOf i).toNat)
 case atStart=>exact⟨0,Nat.zero_le _,rfl,HL.out⟩
 case round =>
  obtain⟨k,hk,rfl,hL⟩:=hrel;obtain⟨aC,cC,hrow,hrows⟩:=hL.row;have HLk:=hideA hL;by_cases hlt:k<ps.length
  ·have hk1:(k:Int)<(ps.length:Int):=by omega
   have hps:ps[k]?=some ps[k]:=List.getElem?_eq_getElem hlt
   obtain⟨gC,rfl,hcell⟩:=hrows k _ hps
   have hp:ps[k]∈ps:=List.getElem_mem hlt
   generalize ps[k]=p at *
   obtain⟨⟨E,g,hgood⟩,htold⟩:=HG.out p hp
   have hn5:=hgood.nodes.n5
   have HB:=hideA (lawBag_any hL hp hgood (by omega))
   clear hL hrows hps;go_wp2_with fail;refine HB.out.mono ?_
   rintro e W1 ⟨rfl,hL1⟩;have HA:=hideA (lawAnswers_any hL1 hp htold (by omega))
   clear hL1 hrow hcell;go_wp2_with fail;refine HA.out.mono ?_
   rintro e W2 ⟨rfl,hL2⟩;have HL2:=hideA hL2;clear hL2;go_wp2_with fail;go_loopw [7] (fun i wr=>∃ j:Nat,j≤p.c.reps.length+2∧i=.int .i64 ((j:Int)-1)∧LawAt w0 wr B x5 (M+100*k+8+8*j) ps) (fun i _=>p.c.reps.length+2-(intOf i+1).toNat)
   case atStart=>exact⟨0,Nat.zero_le _,rfl,HL2.out⟩
   case round =>
    obtain⟨j,hj,rfl,hLj⟩:=hrel;obtain⟨ay,cy,y1,y0⟩:=hLj.cells hp
    by_cases hltj:j<p.c.reps.length+2
    ·have hj1:(j:Int)-1≤(p.c.reps.length:Int):=by omega
     have HS:=hideA (lawStatus_any ((j:Int)-1) hLj hp hgood (by omega) (by omega))
     have hwj:IntKind.i64.wrap ((j:Int)-1+1)=((j+1:Nat):Int)-1:=by rw[IntKind.wrap_i64];omega
     clear hLj;go_wp2_with fail;refine HS.out.mono ?_
     rintro e W3 ⟨rfl,hL3⟩;have HL3:=hideA hL3;clear hL3 y0 y1;go_wp2_with fail;go_roundw
     case rel=>exact⟨j+1,by omega,by first|rfl|(congr 1;omega)|(simp;omega),HL3.out⟩
     case measure=>simp[intOf];omega
    ·obtain rfl:j=p.c.reps.length+2:=by omega
     have hj1:¬ ((p.c.reps.length+2:Nat):Int)-1≤(p.c.reps.length:Int):=by omega
     have HLj:=hideA hLj;clear hLj;go_wp2_with fail;go_loopw [9] (fun i wr=>∃ m:Nat,m≤5∧i=.int .i64 (99+(m:Int))∧LawAt w0 wr B x5 (M+100*k+8+8*(p.c.reps.length+2)+4*m) ps) (fun i _=>104-(intOf i).toNat)
     case atStart=>exact⟨0,Nat.zero_le _,rfl,HLj.out⟩
     case round =>
      obtain⟨m,hm,rfl,hLm⟩:=hrel;by_cases hltm:m<5
      ·have hm1:99+(m:Int)≤103:=by omega
       have HS:=hideA (lawBallots_any (99+(m:Int)) hLm hp hgood (by omega) (by omega))
       have hwm:IntKind.i64.wrap (99+(m:Int)+1)=99+((m+1:Nat):Int):=by rw[IntKind.wrap_i64];omega
       clear hLm;go_wp2_with fail;refine HS.out.mono ?_
       rintro e W4 ⟨rfl,hL4⟩;have HL4:=hideA hL4;clear hL4;go_wp2_with fail;go_roundw
       case rel=>exact⟨m+1,by omega,by first|rfl|(congr 1;omega)|(simp;omega),HL4.out⟩
       case measure=>simp[intOf];omega
      ·obtain rfl:m=5:=by omega
       have HLm:=hideA hLm;clear hLm;go_wp2_with fail;go_roundw
       case rel=>exact⟨k+1,by omega,by go_num,HLm.out.less (by omega)⟩
       case measure=>simp[intOf];omega
  ·obtain rfl:k=ps.length:=by omega
   obtain⟨b,vC,vI,vL,vT,vA,hLi⟩:=HLk.out;obtain⟨s1,s2,s3,s4⟩:=hLi.small;have HW:=hideA (hLi.book.whole (by omega) (by omega) (by omega) (by omega))
   have HBe:=hideA hLi.be
   clear hL hrows hLi;go_wp2_with fail;refine HW.out.mono ?_
   rintro e W1 ⟨rfl,hb1⟩;have HB1:=hideA (HBe.out.trans (hb1.mono HBe.out.size))
   clear hrow;go_wp2_with fail;go_ret;exact⟨rfl,HB1.out⟩
def rankOf (l:List Int)(x:Int):Int:=(List.range l.length).foldl (fun (r:Int) i=>if l.getD i 0=x then (i:Int) else r) (-1)
def rankTo (l:List Int)(x:Int)(k:Nat):Int:=(List.range k).foldl (fun (r:Int) i=>if l.getD i 0=x then (i:Int) else r) (-1)
theorem rankTo_succ (l:List Int)(x:Int)(k:Nat):rankTo l x (k+1)=if l.getD k 0=x then (k:Int) else rankTo l x k:=by
 unfold rankTo
 rw[List.range_succ,List.foldl_append];rfl
structure RRp (w:World)(b:Nat)(r:Rep)(vm vl:Value):Prop where
 c0:w.cell? ⟨b,0,none⟩=some (.bool r.up)
 c1:w.cell? ⟨b,1,none⟩=some (.int .i64 r.epoch)
 c2:w.cell? ⟨b,2,none⟩=some (.int .i64 r.lock)
 c3:w.cell? ⟨b,3,none⟩=some vm
 c4:w.cell? ⟨b,4,none⟩=some vl
 c5:w.cell? ⟨b,5,none⟩=some (.int .i64 r.base)
 c6:w.cell? ⟨b,6,none⟩=some (.int .i64 r.commit)
 mems:IntsAt w vm r.mems
 log:LogAt w vl r.log
theorem refStands_any (b:Nat)(r:Rep)(vm vl:Value)(own:Int)(w:World)(h:RRp w b r vm vl)(hl:r.mems.length≤5) :
  Calls Tryz.prog 175 #[.pointer (some ⟨b,0,none⟩),.int .i64 own] w fun e w'=>e=.returned (.tuple #[.int .i64 (rankOf r.mems own),.bool (decide (0≤rankOf r.mems own) && decide (r.lock≤r.epoch))])∧∃ q,w'=w.drewN q:=by
 obtain⟨a,c,rfl,hv⟩:=h.mems;have q3:=h.c3
 have q1:=h.c1
 have q2:=h.c2
 have HV:=hideA hv;clear hv h;go_enter Tryz.func175,Tryz.ntmps175
 go_wp2
 go_loopw [6,7] (fun rk i wr=>∃ k:Nat,k≤r.mems.length∧i=.int .i64 k∧wr=w∧rk=.int .i64 (rankTo r.mems own k)) (fun _ i _=>r.mems.length-(intOf i).toNat)
 case atStart=>exact⟨0,Nat.zero_le _,rfl,rfl,rfl⟩
 case round =>
  obtain⟨k,hk,rfl,rfl,rfl⟩:=hrel;by_cases hlt:k<r.mems.length
  ·obtain⟨b',off,rfl,hc⟩:=HV.out k hlt
   have ht:=hideA (rankTo_succ r.mems own k)
   generalize r.mems.getD k 0=y at *
   by_cases hxy:y=own
   ·have H:Hid (rankTo r.mems own (k+1)=k):=hideA (by rw[ht.out,if_pos hxy])
    subst hxy;go_wp2
    go_roundw
    case rel=>exact⟨k+1,by omega,by go_num,by trivial,by rw[H.out]⟩
    case measure=>simp[intOf];omega
   ·have H:Hid (rankTo r.mems own (k+1)=rankTo r.mems own k):=hideA (by rw[ht.out,if_neg hxy])
    go_wp2
    go_roundw
    case rel=>exact⟨k+1,by omega,by go_num,by trivial,by rw[H.out]⟩
    case measure=>simp[intOf];omega
  ·obtain rfl:k=r.mems.length:=by omega
   have hR:Hid (rankTo r.mems own r.mems.length=rankOf r.mems own):=hideA rfl
   generalize rankTo r.mems own r.mems.length=R at *
   by_cases hR0:0≤R
   ·by_cases hl:r.lock≤r.epoch
    ·go_wp2
     go_quiet (fail)
     go_wp2
     go_ret2
     exact⟨by rw[← hR.out];simp[hR0,hl],_,rfl⟩
    ·go_wp2
     go_quiet (fail)
     go_wp2
     go_ret2
     exact⟨by rw[← hR.out];simp[hR0],_,rfl⟩
   ·have hd:decide (0≤R)=false:=decide_eq_false hR0
    have hd2:Hid (decide (0≤R)=false):=hideA hd
    go_wp2
    go_quiet (fail)
    go_wp2
    go_ret2
    exact⟨by rw[← hR.out,hd2.out];rfl,_,rfl⟩
theorem RRp.below {w w':World}{b:Nat}{r:Rep}{vm vl:Value}(h:RRp w b r vm vl)(hb:Below w.heap.size w w'):RRp w' b r vm vl where
 c0:=cell_later hb h.c0
 c1:=cell_later hb h.c1
 c2:=cell_later hb h.c2
 c3:=cell_later hb h.c3
 c4:=cell_later hb h.c4
 c5:=cell_later hb h.c5
 c6:=cell_later hb h.c6
 mems:=h.mems.below hb
 log:=h.log.below hb
theorem rankTo_no (l:List Int)(x:Int)(k:Nat)(hk:k≤l.length)(h:x ∉ l.take k):rankTo l x k = -1:=by
 induction k with
 | zero=>rfl
 | succ k ih =>
  have hlt:k<l.length:=by omega
  rw[List.take_succ_eq_append_getElem hlt,List.mem_append,List.mem_singleton] at h
  rw[rankTo_succ,if_neg]
  ·exact ih (by omega) (fun e=>h (.inl e))
  ·rw[List.getD_eq_getElem?_getD,List.getElem?_eq_getElem hlt]
   exact fun e=>h (.inr e.symm)
theorem rankOf_no {l:List Int}{x:Int}(h:x ∉ l):rankOf l x = -1:=rankTo_no l x l.length (Nat.le_refl _) (by rw[List.take_length];exact h)
theorem rankTo_yes (l:List Int)(x:Int)(hn:l.Nodup)(k:Nat)(hk:k≤l.length)(i:Nat)(hi:i<k)(hx:l[i]?=some x):rankTo l x k=(i:Int):=by
 induction k with
 | zero=>omega
 | succ k ih =>
  have hlt:k<l.length:=by omega
  rw[rankTo_succ,List.getD_eq_getElem?_getD,List.getElem?_eq_getElem hlt]
  by_cases e:i=k
  ·subst e
   rw[if_pos];rw[List.getElem?_eq_getElem hlt] at hx
   simpa using hx
  ·rw[if_neg]
   ·exact ih (by omega) (by omega)
   ·intro q
    have hik:i<l.length:=by omega
    have h1:l[i]=l[k]:=by
     rw[List.getElem?_eq_getElem hik] at hx
     have:=Option.some.inj hx
     simp at q
     rw[this,q]
    exact List.pairwise_iff_getElem.1 hn i k hik hlt (by omega) h1
theorem rankOf_yes {l:List Int}{x:Int}(hn:l.Nodup)(h:x∈l):rankOf l x=(l.idxOf x:Int):=by
 have hi:=List.idxOf_lt_length_of_mem h
 exact rankTo_yes l x hn l.length (Nat.le_refl _) _ hi (by rw[List.getElem?_eq_getElem hi,List.getElem_idxOf hi])
def nbOf (l:List Int)(x by_:Int):Int:=if rankOf l x+by_<0∨(l.length:Int)≤rankOf l x+by_ then -1 else l.getD (rankOf l x+by_).toNat 0
theorem nbOf_prev {l:List Int}{x:Int}(hn:l.Nodup):nbOf l x (-1)=(prevOf l x).getD (-1):=by
 unfold nbOf prevOf
 by_cases h:x∈l
 ·have hi:=List.idxOf_lt_length_of_mem h
  rw[rankOf_yes hn h];by_cases h0:l.idxOf x=0
  ·rw[if_pos h0,if_pos (by omega)]
   rfl
  ·rw[if_neg h0,if_pos hi,if_neg (by omega),show ((l.idxOf x:Int) + -1).toNat=l.idxOf x-1 by omega,List.getD_eq_getElem?_getD,List.getElem?_eq_getElem (by omega)]
   rfl
 ·rw[rankOf_no h,if_pos (by omega)]
  have:l.idxOf x=l.length:=List.idxOf_eq_length h
  split
  ·rfl
  ·rw[if_neg (by omega)]
   rfl
theorem nbOf_next {l:List Int}{x:Int}(hn:l.Nodup)(h:x∈l):nbOf l x 1=(nextOf l x).getD (-1):=by
 unfold nbOf nextOf
 have hi:=List.idxOf_lt_length_of_mem h
 rw[rankOf_yes hn h];by_cases h0:l.idxOf x+1<l.length
 ·rw[if_neg (by omega),show ((l.idxOf x:Int)+1).toNat=l.idxOf x+1 by omega,List.getD_eq_getElem?_getD,List.getElem?_eq_getElem h0]
  rfl
 ·rw[if_pos (by omega),List.getElem?_eq_none (by omega)]
  rfl
theorem rankTo_range (l:List Int)(x:Int)(k:Nat) : -1≤rankTo l x k∧rankTo l x k<k:=by
 induction k with
 | zero=>exact⟨Int.le_refl _,by show (-1:Int)<0;decide⟩
 | succ k ih =>
  rw[rankTo_succ];split<;>omega
theorem refNeighbour_any (b:Nat)(r:Rep)(vm vl:Value)(own by_:Int)(w:World)(h:RRp w b r vm vl)(hl:r.mems.length≤5)(hby:by_ = -1∨by_=1) :
  Calls Tryz.prog 209 #[.pointer (some ⟨b,0,none⟩),.int .i64 own,.int .i64 by_] w fun e w'=>e=.returned (.int .i64 (nbOf r.mems own by_))∧∃ q,w'=w.drewN q:=by
 have HS:=hideA (refStands_any b r vm vl own w h hl)
 have HR:=hideA h;have hrg:=rankTo_range r.mems own r.mems.length
 have hro:rankTo r.mems own r.mems.length=rankOf r.mems own:=rfl
 rw[hro] at hrg
 have HN:Hid (nbOf r.mems own by_=if rankOf r.mems own+by_<0∨(r.mems.length:Int)≤rankOf r.mems own+by_ then -1 else r.mems.getD (rankOf r.mems own+by_).toNat 0):=hideA rfl
 generalize nbOf r.mems own by_=N at *
 generalize rankOf r.mems own=R at *
 have hwr:IntKind.i64.wrap (R+by_)=R+by_:=by rw[IntKind.wrap_i64];omega
 clear h hro;go_enter Tryz.func209,Tryz.ntmps209
 go_wp2_with fail;refine HS.out.mono ?_
 rintro e W ⟨rfl,q,rfl⟩;obtain⟨am,cm,hvm,hv⟩:=HR.out.mems;subst hvm;have c3:=HR.out.c3
 have c3':(w.drewN q).cell? ⟨b,3,none⟩=some (.slice am r.mems.length cm):=c3
 generalize hT:R+by_=T at *
 by_cases h0:T<0
 ·have HV:Hid (N = -1):=hideA (by rw[HN.out,if_pos (.inl h0)])
  go_wp2_with fail;go_ret;exact⟨by rw[HV.out];rfl,q,rfl⟩
 ·by_cases h1:(r.mems.length:Int)≤T
  ·have HV:Hid (N = -1):=hideA (by rw[HN.out,if_pos (.inr h1)])
   go_wp2_with fail;go_ret;exact⟨by rw[HV.out];rfl,q,rfl⟩
  ·obtain⟨t,rfl⟩:∃ t:Nat,T=(t:Int):=⟨T.toNat,by omega⟩
   have htl:t<r.mems.length:=by omega
   have HV:Hid (N=r.mems.getD t 0):=hideA (by rw[HN.out,if_neg (by omega),Int.toNat_natCast])
   obtain⟨b2,off,rfl,hc⟩:=hv t htl
   have hc':(w.drewN q).cell? ⟨b2,off+t,none⟩=some (.int .i64 (r.mems.getD t 0)):=hc
   generalize r.mems.getD t 0=Y at *
   have ht1:(t:Int)<(r.mems.length:Int):=by omega
   have ht0:(0:Int)≤(t:Int):=by omega
   go_wp2_with fail;go_ret;exact⟨by rw[HV.out];rfl,q,rfl⟩
theorem refAcks_any (b:Nat)(r:Rep)(vm vl:Value)(own:Int)(w:World)(h:RRp w b r vm vl)(hl:r.mems.length≤5)(hn:r.mems.Nodup)(hp:∀ x∈r.mems,0≤x) :
  Calls Tryz.prog 206 #[.pointer (some ⟨b,0,none⟩),.int .i64 own] w fun e w'=>∃ v,e=.returned v∧MsgsOwn w' w.heap.size v (r.acks own)∧Below w.heap.size w w':=by
 have HN:=hideA (refNeighbour_any b r vm vl own (-1) w h hl (.inl rfl))
 rw[nbOf_prev hn] at HN
 have HA:Hid (r.acks own=match prevOf r.mems own with|none=>[] | some a=>[{ kind:=3,src:=own,dst:=a,epoch:=r.epoch,pos:=r.commit }]):=hideA rfl
 have hpos:∀ a,prevOf r.mems own=some a→0≤a:=fun a e=>by
  unfold prevOf at e
  split at e
  ·cases e
  ·split at e
   ·exact hp a (List.mem_of_getElem? e)
   ·cases e
 have HR:=hideA h;clear h;go_enter Tryz.func206,Tryz.ntmps206
 go_wp2_with fail;refine HN.out.mono ?_
 rintro e W ⟨rfl,q,rfl⟩;cases hpr:prevOf r.mems own with
 | none =>
  have HV:Hid (r.acks own=[]):=hideA (by rw[HA.out,hpr])
  clear hpos;go_wp2_with fail;go_ret;rw[HV.out];exact⟨_,rfl,MsgsOwn.nil _ _,below_drewN (Below.refl _ _) q⟩
 | some a =>
  have HV:Hid (r.acks own=[{ kind:=3,src:=own,dst:=a,epoch:=r.epoch,pos:=r.commit }]):=hideA (by rw[HA.out,hpr])
  have ha0:¬ a<0:=by have:=hpos a hpr;omega
  have c1:=HR.out.c1
  have c6:=HR.out.c6
  have c1':(w.drewN q).cell? ⟨b,1,none⟩=some (.int .i64 r.epoch):=c1
  have c6':(w.drewN q).cell? ⟨b,6,none⟩=some (.int .i64 (r.commit:Int)):=c6
  clear hpos hpr;go_wp2_with fail;go_region
  go_wp2_with fail;go_ret;rw[HV.out];refine⟨_,rfl,MsgsOwn.one (g:=w.heap.size) _ (.slice none 0 0) (.slice none 0 0) ?_ (Nat.le_refl _) (World.ownsRow_nil _ _ _ _) (World.ownsRow_nil _ _ _ _), ?_⟩
  ·exact hnw _ _
  ·exact (below_drewN (Below.refl w.heap.size w) (q+1)).alloc (Nat.le_refl _) _
theorem lastPut_snoc (key:Int)(l:List Ent)(k:Nat)(hk:k<l.length):lastPut key (l.take (k+1))=if (l.getD k Ent.zero).kind=1∧(l.getD k Ent.zero).key=key then (l.getD k Ent.zero).value else lastPut key (l.take k):=by
 unfold lastPut
 rw[List.take_succ_eq_append_getElem hk,List.foldl_append];have:l.getD k Ent.zero=l[k]:=by rw[List.getD_eq_getElem?_getD,List.getElem?_eq_getElem hk];rfl
 rw[this];rfl
theorem refAnswer_any (v:Value)(l:List Ent)(p:Nat)(w:World)(h:LogAt w v l)(hp:p<l.length)(hl:l.length≤24) :
  Calls Tryz.prog 221 #[v,.int .i64 (p:Int)] w fun e w'=>e=.returned (.int .i64 (answerAt l p))∧∃ q,w'=w.drewN q:=by
 obtain⟨a,c,rfl,hv⟩:=h;have HV:=hideA hv;clear hv;have HA:Hid (answerAt l p=lastPut (l.getD p Ent.zero).key (l.take p)):=hideA rfl
 go_enter Tryz.func221,Tryz.ntmps221
 go_wp2_with fail;go_loopw [5] (fun i wr=>∃ k:Nat,k≤p∧i=.int .i64 ((k:Int)-1)∧(∃ q,wr=w.drewN q)∧answerAt l p=lastPut (l.getD p Ent.zero).key (l.take k)) (fun i _=>(intOf i+1).toNat)
 case atStart=>exact⟨p,Nat.le_refl _,by go_num,⟨0,rfl⟩,HA.out⟩
 case round =>
  obtain⟨k,hk,rfl,⟨q,rfl⟩,hinv⟩:=hrel;cases k with
  | zero =>
   have HI:Hid (answerAt l p = -1):=hideA hinv
   go_wp2_with fail;go_ret;exact⟨by rw[HI.out];rfl,q,rfl⟩
  | succ k =>
   have e1:(((k+1:Nat):Int)-1)=(k:Int):=by omega
   rw[e1];have hk0:(0:Int)≤(k:Int):=by omega
   have hkl:(k:Int)<(l.length:Int):=by omega
   have hpl:(p:Int)<(l.length:Int):=by omega
   have hp0:(0:Int)≤(p:Int):=by omega
   obtain⟨b1,o1,rfl,c10,c11,c12,c13,c14⟩:=HV.out k (by omega)
   obtain⟨b2,o2,hab,c20,c21,c22,c23,c24⟩:=HV.out p hp
   cases hab
   have HS:=hideA (lastPut_snoc (l.getD p Ent.zero).key l k (by omega))
   have HI:=hideA hinv;have hwr:IntKind.i64.wrap ((k:Int)-1)=(k:Int)-1:=by rw[IntKind.wrap_i64];omega
   clear hinv;generalize l.getD k Ent.zero=x at *
   generalize l.getD p Ent.zero=y at *
   by_cases h1:x.kind=1
   ·have h1':(x.kind == 1)=true:=by simp[h1]
    by_cases h2:x.key=y.key
    ·have HF:Hid (answerAt l p=x.value):=hideA (by rw[HI.out,HS.out,if_pos ⟨h1,h2⟩])
     have h2':(x.key == y.key)=true:=by simp[h2]
     go_wp2_with fail;go_quiet (fail)
     go_wp2_with fail;go_ret;exact⟨by rw[HF.out];rfl,_,rfl⟩
    ·have HF:Hid (answerAt l p=lastPut y.key (l.take k)):=hideA (by rw[HI.out,HS.out,if_neg (fun e=>h2 e.2)])
     have h2':(x.key == y.key)=false:=by simp[h2]
     go_wp2_with fail;go_quiet (fail)
     go_wp2_with fail;go_roundw
     case rel=>exact⟨k,by omega,by go_num,⟨_,rfl⟩,HF.out⟩
     case measure=>simp[intOf]
   ·have HF:Hid (answerAt l p=lastPut y.key (l.take k)):=hideA (by rw[HI.out,HS.out,if_neg (fun e=>h1 e.1)])
    have h1':(x.kind == 1)=false:=by simp[h1]
    go_wp2_with fail;go_quiet (fail)
    go_wp2_with fail;go_roundw
    case rel=>exact⟨k,by omega,by go_num,⟨_,rfl⟩,HF.out⟩
    case measure=>simp[intOf]
theorem append_rowM {t e:TypeId}{z:Value}{size bytes:Nat}(hinfo:(Tryz.prog.info? e).map (fun i=>(i.zero,i.size,i.bytes))=some (some z,size,bytes))(hu:Tryz.prog.underlying t=some (.slice e))(hzs:z.cells.size=size)(hsz:0<size)
  (W:World) (base:Nat) (v:Value) (n:Nat) (xs:List Value) (u:Value) (m:Nat) (ys:List Value) (hown:W.ownsRow base e size v n xs) (hsrc:W.ownsRow 0 e size u m ys) (h1:∀ u∈ys,u.oneCell'=true) (hl:n+m≤1000000000000) (hby:bytes≤100) (hb:base≤W.heap.size) :
  ∃ v' W',(∀ ty,(Builtin.append_ #[t,t] ty #[v,u]).run Tryz.prog W=.ok v' W')∧W'.ownsRow base e size v' (n+m) (xs++ys)∧W.grownBy W' v.ownBlock∧(v'.ownBlock=v.ownBlock∨v'.ownBlock=some W.heap.size):=by
 obtain⟨i0,hi,hz0,hz1,hz2⟩:=info_parts hinfo
 have hA:∀ ty,∃ v' W',(Builtin.append_ #[t,t] ty #[v,u]).run Tryz.prog W=.ok v' W'∧W'.ownsRow base e size v' (n+m) (xs++ys)∧W.grownBy W' v.ownBlock∧(v'.ownBlock=v.ownBlock∨v'.ownBlock=some W.heap.size):=fun ty=>by
  rcases hsrc.2 with ⟨rfl,hm0⟩|⟨g,cap,cur,rfl,_,hg,hnc,_,hcs,htk⟩
  ·have hys:ys=[]:=by
    have:=hsrc.1
    rw[hm0,Nat.zero_mul] at this
    exact List.length_eq_zero_iff.1 this
   subst hys;subst hm0;exact⟨v,W,run_append_owned_none W base t ty e i0 size hu hi v n xs hown,by rw[List.append_nil];exact hown,⟨rfl,rfl,rfl,Nat.le_refl _,fun _ _ _=>rfl⟩,.inl rfl⟩
  ·obtain⟨v',W',hr,h2,h3,_,h5⟩:=run_append_own_at (P:=Tryz.prog) W base t ty e i0 _ size bytes hu hi hz0 hz1 hz2 hzs hsz v n xs hown ⟨g,0,none⟩ m cap ys hsrc.1
    (fun j w hj=>by
     have hjl:j<m*size:=by have:=(List.getElem?_eq_some_iff.1 hj).1;rw[hsrc.1] at this;exact this
     rw[Addr.add_lit,Nat.zero_add,World.ownsRow.cellAt hsrc j hjl,hj])
    h1 (by unfold maxLen;omega) (Nat.le_trans (Nat.mul_le_mul hl hby) (by decide)) hb
   exact⟨v',W',hr,h2,h3,h5⟩
 obtain⟨v',W',hr,h2⟩:=hA 0
 refine⟨v',W',fun ty => ?_,h2⟩
 rw[← hr];rfl
theorem infoEnt2 : (Tryz.prog.info? 42).map (fun i=>(i.zero,i.size,i.bytes))=some (some (.agg #[.int .i64 0,.int .i64 0,.int .i64 0,.int .i64 0,.int .i64 0]),5,40):=by kernel_rfl
theorem refEntries_any (v:Value)(l:List Ent)(w:World)(h:LogOwn w v l)(hl:l.length≤1000) :
  Calls Tryz.prog 208 #[v] w fun e w'=>∃ v',e=.returned v'∧w'.ownsRow w.heap.size 42 5 v' l.length (ints (entsNums l))∧Below w.heap.size w w':=by
 obtain⟨v',W',hr,h2,h3, -⟩:=append_rowM (t:=44) infoEnt2 Tryz.underlying44 rfl (by decide) w w.heap.size (.slice none 0 0) 0 [] v l.length (ints (entsNums l)) (World.ownsRow_nil _ _ _ _) h (ints_one _) (by omega) (by decide) (Nat.le_refl _)
 rw[List.nil_append,Nat.zero_add] at h2
 obtain⟨a0,c0,rfl⟩:=osh h
 obtain⟨a1,c1,rfl⟩:=osh h2
 have hb:Below w.heap.size w W':=((Moved.refl w (fun _=>False)).grown h3 (fun z _ e=>by simp[Value.ownBlock] at e)).to_below (fun _ e=>e.elim) (Nat.le_refl _)
 have HR:=hideA hr;have HO:=hideA (And.intro h2 hb)
 clear hr h2 h3 hb h;go_enter Tryz.func208,Tryz.ntmps208
 go_wp2_with (at_builtin;refine wpList_append_run rfl (.tmp 4) (.tmp 5) 44 rfl _ _ _ _ (by simp[Act.eval]) (by simp[Act.eval]) HR.out ?_)
 go_wp2_with fail;go_ret;exact⟨_,rfl,HO.out.1,HO.out.2⟩
theorem refForward_any (b:Nat)(r:Rep)(vm vl:Value)(own:Int)(p:Nat)(w:World)(h:RRp w b r vm vl)(hl:r.mems.length≤5)(hp:p<r.log.length)(_hb24:r.log.length≤24) :
  Calls Tryz.prog 207 #[.pointer (some ⟨b,0,none⟩),.int .i64 own,.int .i64 (p:Int)] w fun e w'=>∃ vl',e=.returned (mval (r.forward own (nbOf r.mems own 1) p) (.slice none 0 0) vl')∧w'.ownsRow w.heap.size 42 5 vl' 1 (ints (entsNums [r.log.getD p Ent.zero]))∧Below w.heap.size w w':=by
 obtain⟨X,hX,hbX,hM⟩:=bm1 w #[.int .i64 0,.int .i64 0,.int .i64 0,.int .i64 0,.int .i64 0,.int .i64 0,.int .i64 0,.int .i64 0,.slice none 0 0,.slice none 0 0] 134
 have hRX:=h.below hbX
 have HN:Hid (∀ W,W=X.drew→Calls Tryz.prog 209 #[.pointer (some ⟨b,0,none⟩),.int .i64 own,.int .i64 1] W fun e w'=>e=.returned (.int .i64 (nbOf r.mems own 1))∧∃ q,w'=X.drewN q):=hideA fun W hW=>by
  subst hW;refine (refNeighbour_any b r vm vl own 1 X.drew (hRX.below (Below.refl _ _).drew) hl (.inr rfl)).mono ?_
  rintro e w' ⟨h1,q,rfl⟩;exact⟨h1,1+q,World.drewN_drew _ _⟩
 have HN2:Hid (∀ o,Calls Tryz.prog 209 #[.pointer (some ⟨b,0,none⟩),.int .i64 own,.int .i64 1] (X.alloc o).drew fun e w'=>e=.returned (.int .i64 (nbOf r.mems own 1))∧∃ q,w'=(X.alloc o).drewN q):=hideA fun o=>by
  refine (refNeighbour_any b r vm vl own 1 (X.alloc o).drew (hRX.below (((Below.refl _ X).alloc (Nat.le_refl _) o).drew)) hl (.inr rfl)).mono ?_
  rintro e w' ⟨h1,q,rfl⟩;exact⟨h1,1+q,World.drewN_drew _ _⟩
 have hX1:=hRX.c1
 have hX4:=hRX.c4
 obtain⟨al,cl,hvl,hlog⟩:=hRX.log;subst hvl;obtain⟨b1,o1,hal,l0,l1,l2,l3,l4⟩:=hlog p hp
 subst hal;have hFw:Hid (∀ n v',mval (r.forward own n p) (.slice none 0 0) v'=.agg #[.int .i64 2,.int .i64 own,.int .i64 n,.int .i64 r.epoch,.int .i64 0,.int .i64 0,.int .i64 (p:Int),.int .i64 0,.slice none 0 0,v']):=hideA fun _ _=>rfl
 generalize r.log.getD p Ent.zero=x at *
 generalize nbOf r.mems own 1=nb at *
 have hp0:(0:Int)≤(p:Int):=by omega
 have hp1:(p:Int)<(r.log.length:Int):=by omega
 have gW:=fun j=>coh hM j
 have fW:=fun j=>foh hM j
 have hwl:w.heap.size<X.heap.size:=(Array.getElem?_eq_some_iff.1 hM).1
 have hn1:¬ w.heap.size=X.heap.size:=by omega
 have hn2:¬ X.heap.size=w.heap.size:=by omega
 have zC:∀ q o j,((X.drewN q).alloc o).cell? ⟨w.heap.size,j,none⟩=(#[.int .i64 0,.int .i64 0,.int .i64 0,.int .i64 0,.int .i64 0,.int .i64 0,.int .i64 0,.int .i64 0,.slice none 0 0,.slice none 0 0]:Array Value)[j]?:=fun q o j=>coh ((((Below.refl _ (X.drewN q)).alloc (Nat.le_refl _) o).block _ hwl).trans hM) j
 have zF:∀ q o j,((X.drewN q).alloc o).frozen? ⟨w.heap.size,j,none⟩=false:=fun q o j=>foh ((((Below.refl _ (X.drewN q)).alloc (Nat.le_refl _) o).block _ hwl).trans hM) j
 have z1:∀ q o,((X.drewN q).alloc o).cell? ⟨b,1,none⟩=some (.int .i64 r.epoch):=fun q o=>cell_later ((Below.refl _ (X.drewN q)).alloc (Nat.le_refl _) o) hX1
 have yC:∀ o j,(X.alloc o).cell? ⟨w.heap.size,j,none⟩=(#[.int .i64 0,.int .i64 0,.int .i64 0,.int .i64 0,.int .i64 0,.int .i64 0,.int .i64 0,.int .i64 0,.slice none 0 0,.slice none 0 0]:Array Value)[j]?:=fun o j=>coh ((((Below.refl _ X).alloc (Nat.le_refl _) o).block _ hwl).trans hM) j
 have yF:∀ o j,(X.alloc o).frozen? ⟨w.heap.size,j,none⟩=false:=fun o j=>foh ((((Below.refl _ X).alloc (Nat.le_refl _) o).block _ hwl).trans hM) j
 have y1:∀ o,(X.alloc o).cell? ⟨b,1,none⟩=some (.int .i64 r.epoch):=fun o=>cell_later ((Below.refl _ X).alloc (Nat.le_refl _) o) hX1
 have hset:∀ (U:World) (j:Nat) (v:Value),(U.setCell ⟨w.heap.size,j,none⟩ v).heap[X.heap.size]?=U.heap[X.heap.size]?:=fun U j v=>Below.heap_setCell U ⟨w.heap.size,j,none⟩ v X.heap.size (fun e=>hn2 e)
 clear h hRX hlog hM;go_enter Tryz.func207,Tryz.ntmps207
 go_wp2_with fail;go_region_law (first
  | (rw[if_pos (by simp[Region.wanted])];go_simp;go_at_call 209;refine (HN.out _ rfl).mono ?_;rintro e W ⟨rfl,q,rfl⟩)
  | (rw[if_pos (by simp[Region.wanted])];go_simp;go_at_call 209;refine (HN2.out _).mono ?_;rintro e W ⟨rfl,q,rfl⟩))
 all_goals (
  go_wp2_with fail;refine bodyPost_ret (v:=.agg #[.int .i64 2,.int .i64 own,.int .i64 nb,.int .i64 r.epoch,.int .i64 0,.int .i64 0,.int .i64 (p:Int),.int .i64 0,.slice none 0 0,.slice (some ⟨X.heap.size,0,none⟩) 1 1]) (by simp[results,Tryz.results207,go_sem,zC,yC]) rfl ?_
  refine⟨.slice (some ⟨X.heap.size,0,none⟩) 1 1,by rw[hFw.out],⟨rfl,.inr ⟨X.heap.size,1,#[.int .i64 x.client,.int .i64 x.seq,.int .i64 x.kind,.int .i64 x.key,.int .i64 x.value],rfl,Nat.le_of_lt hwl, ?_,Nat.le_refl _,by decide,rfl,rfl⟩⟩, ?_⟩
  ·simp only [hset]
   exact hnw _ _
  ·iterate 10 refine Below.setCell ?_ (by exact Nat.le_refl _) _
   first
    | exact (below_drewN hbX q).alloc (Nat.le_of_lt hwl) _
    | exact below_drewN (hbX.alloc (Nat.le_of_lt hwl) _) q)
theorem refReply_any (b:Nat)(r:Rep)(vm vl:Value)(own:Int)(p:Nat)(w:World)(h:RRp w b r vm vl)(hp:p<r.log.length)(hb24:r.log.length≤24)(hcl:0≤(r.log.getD p Ent.zero).client∧(r.log.getD p Ent.zero).client≤1000) :
  Calls Tryz.prog 220 #[.pointer (some ⟨b,0,none⟩),.int .i64 own,.int .i64 (p:Int)] w fun e w'=>e=.returned (mval (r.reply own p) (.slice none 0 0) (.slice none 0 0))∧Below w.heap.size w w':=by
 obtain⟨X,hX,hbX,hM⟩:=bm1 w #[.int .i64 0,.int .i64 0,.int .i64 0,.int .i64 0,.int .i64 0,.int .i64 0,.int .i64 0,.int .i64 0,.slice none 0 0,.slice none 0 0] 134
 have hRX:=h.below hbX
 obtain⟨al,cl,hvl,hlog⟩:=hRX.log;subst hvl;obtain⟨b1,o1,hal,l0,l1,l2,l3,l4⟩:=hlog p hp
 subst hal;have hX4:=hRX.c4
 have HA0:Hid (∀ W,Below X.heap.size X W→Calls Tryz.prog 221 #[.slice (some ⟨b1,o1,none⟩) r.log.length cl,.int .i64 (p:Int)] W fun e w'=>e=.returned (.int .i64 (answerAt r.log p))∧∃ q,w'=W.drewN q):=hideA fun W hb=>refAnswer_any _ r.log p W (hRX.below hb).log hp hb24
 have hFw:Hid (mval (r.reply own p) (.slice none 0 0) (.slice none 0 0)=.agg #[.int .i64 4,.int .i64 own,.int .i64 (300+(r.log.getD p Ent.zero).client),.int .i64 0,.int .i64 0,.int .i64 0,.int .i64 (r.log.getD p Ent.zero).seq,.int .i64 (answerAt r.log p),.slice none 0 0,.slice none 0 0]):=hideA rfl
 generalize r.log.getD p Ent.zero=x at *
 generalize answerAt r.log p=an at *
 have hwr:IntKind.i64.wrap (300+x.client)=300+x.client:=by rw[IntKind.wrap_i64];omega
 obtain⟨Y,hY,hbY,hMY⟩:=bm1 X #[.int .i64 x.client,.int .i64 x.seq,.int .i64 x.kind,.int .i64 x.key,.int .i64 x.value] 42
 have hp0:(0:Int)≤(p:Int):=by omega
 have hp1:(p:Int)<(r.log.length:Int):=by omega
 have hwl:w.heap.size<X.heap.size:=(Array.getElem?_eq_some_iff.1 hM).1
 have hMX:=(hbY.block _ hwl).trans hM
 have gW:=fun j=>coh hMX j
 have fW:=fun j=>foh hMX j
 have e0:Y.cell? ⟨X.heap.size,0,none⟩=some (.int .i64 x.client):=coh hMY 0
 have e1:Y.cell? ⟨X.heap.size,1,none⟩=some (.int .i64 x.seq):=coh hMY 1
 have y4:=cell_later hbY hX4
 have HA:Hid (∀ W,W=Y.drew→Calls Tryz.prog 221 #[.slice (some ⟨b1,o1,none⟩) r.log.length cl,.int .i64 (p:Int)] W fun e w'=>e=.returned (.int .i64 an)∧∃ q,w'=Y.drewN q):=hideA fun W hW=>by
  subst hW;refine (HA0.out Y.drew hbY.drew).mono ?_
  rintro e w' ⟨h1,q,rfl⟩;exact⟨h1,1+q,World.drewN_drew _ _⟩
 have hbW:Below w.heap.size w Y:=hbX.trans (hbY.mono hbX.size)
 clear h hRX hlog hM hMX hMY;go_enter Tryz.func220,Tryz.ntmps220
 go_wp2_with fail;go_region_law (first|(rw[if_pos (by simp[Region.wanted])];go_simp;go_at_call 221;refine (HA.out _ rfl).mono ?_;rintro e W ⟨rfl,q,rfl⟩))
 all_goals (
  go_wp2_with fail;refine bodyPost_ret (v:=.agg #[.int .i64 4,.int .i64 own,.int .i64 (300+x.client),.int .i64 0,.int .i64 0,.int .i64 0,.int .i64 x.seq,.int .i64 an,.slice none 0 0,.slice none 0 0]) (by simp[results,Tryz.results220,go_sem,gW]) rfl ?_
  refine⟨by rw[hFw.out], ?_⟩
  iterate 10 refine Below.setCell ?_ (by exact Nat.le_refl _) _
  exact below_drewN hbW q)
end Go.Proofs.YtgieeeeeiggoeaaGreat
