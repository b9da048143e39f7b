import Derived.Test.YtgieeeeeiggoeaaGreatD38
import Derived.Test.YtgieeeeeiggoeaaGreatD37
set_option maxRecDepth 100000
set_option maxHeartbeats 2000000
namespace Go.Proofs.YtgieeeeeiggoeaaGreat
open Go.RowKit Go.Shelf
open Tryz
variable {c:aq}{y:Nat}{F:Nat->Prop}{w:World}
theorem C1 (W:World)(base:Nat)(v:Value)(l m:List (List UInt8 × Bool))(A:Addr)(cap:Nat)(hown:W.ownsRow base 214 2 v l.length (de l))(hA:∀ j u,(de m)[j]?=some u->W.cell? (A.add j)=some u)(hl:l.length+m.length<=1000)(hb:base<=W.heap.size) :
  ∃ v' W',(∀ ty,(Builtin.append_ #[118,118] ty #[v,.slice (some A) m.length cap]).run prog W=.ok v' W') /\
   W'.ownsRow base 214 2 v' (l++m).length (de (l++m))/\W.grownBy W' v.ownBlock/\(v'.ownBlock=v.ownBlock\/v'.ownBlock=some W.heap.size):=by
 obtain⟨i0,hi,hz0,hz1,hz2⟩:=info_parts Fm;have hB:∀ ty,∃ v' W',(Builtin.append_ #[118,118] ty #[v,.slice (some A) m.length cap]).run prog W=.ok v' W' /\
   W'.ownsRow base 214 2 v' (l++m).length (de (l++m))/\W.grownBy W' v.ownBlock/\(v'.ownBlock=v.ownBlock\/v'.ownBlock=some W.heap.size):=fun ty=>by
  obtain⟨v',W',hr,h2,h3,_,h5⟩:=run_append_own_at (P:=prog) W base 118 ty 214 i0 _ 2 24 underlying118 hi hz0 hz1 hz2 rfl (by decide) v l.length (de l) hown A m.length cap (de m) (D4 m) hA (MC m) (by unfold maxLen;omega) (by omega) hb
  rw[<- zt, <- bG] at h2;exact⟨v',W',hr,h2,h3,h5⟩
 obtain⟨v',W',hr,h2⟩:=hB 0;refine⟨v',W',fun ty => ?_,h2⟩
 rw[<- hr];rfl
theorem GG (k:Nat)(h:cK w F y c)(hl:c.aE.length<=200)(hk:k<c.aE.length) :
  Calls prog 138 #[y,.int .i64 (k:Int)] w fun r w'=>(∃ v,r=.returned v)/\eO w F y (c.gone (k:Int)) w':=by
 have HG:Hid (c.gone (k:Int)={ c with aE:=c.aE.take k++c.aE.drop (k+1) }):=ae (by unfold aq.gone;rw[Int.toNat_natCast,tP])
 obtain⟨br,ba,bm,vr,va,vm,vb,vt,vv,vc,h⟩:=h;obtain⟨g,cb,hv, -, -⟩:=h.aE.form (by omega)
 subst hv;have hcb:c.aE.length<=cb:=by
  rcases h.aE.2 with ⟨h0,_⟩|⟨g',cap',cur,hv,_,_,hnc,_⟩
  ·cases h0
  ·cases hv
   exact hnc
 have c3:=au h.blk 3;have hyl:y<w.heap.size:=(aQ h.blk);have hcell:∀ j u,(de c.aE)[j]?=some u->w.cell? ⟨g,j,none⟩=some u:=fun j u hu=>by
  have hj:=(dI.1 hu).1;rw[D4] at hj;rw[ev h.aE j hj,hu]
 have hadd:∀ o j,(⟨g,o,none⟩:Addr).add j=⟨g,o+j,none⟩:=fun o j=>by rw[Addr.add_lit]
 obtain⟨v1,W1,hr1,ho1,hg1,hw1⟩:=C1 w w.heap.size (.slice none 0 0) [] (c.aE.take k) ⟨g,0,none⟩ cb (bE _ _ _ _) (fun j u hu=>by
  rw[hadd,fh];rw[D5] at hu;exact hcell j u (by rw[<- hu,List.getElem?_take_of_lt];have:=(dI.1 hu).1;rw[dA] at this;omega)) (by rw[dA];simp;omega) (aG _)
 have hb1:ai w W1:=((Moved.refl w (fun _=>False)).grown hg1 (fun z _ e=>by simp[Value.ownBlock] at e)).jg (fun _ e=>e.elim) (aG _)
 rw[fH] at ho1;have hlt:(c.aE.take k).length=k:=by rw[dA];omega
 obtain⟨A,hA,hsrc⟩:∃ A:Addr,(if cb=k+1 then some (⟨g,0,none⟩:Addr) else some ⟨g,(k+1)*2,none⟩)=some A/\∀ t u,(de (c.aE.drop (k+1)))[t]?=some u->W1.cell? (A.add t)=some u:=by
  by_cases h9:cb=k+1
  ·refine⟨⟨g,0,none⟩,by simp[h9],fun t u hu => ?_⟩
   rw[List.drop_of_length_le (by omega)] at hu
   simp[de] at hu
  ·refine⟨⟨g,(k+1)*2,none⟩,by simp[h9],fun t u hu => ?_⟩
   rw[hadd];rw[MB,List.getElem?_drop] at hu
   exact aF hb1 (hcell _ u hu)
 obtain⟨v2,W2,hr2,ho2,hg2,hw2⟩:=C1 W1 w.heap.size v1 (c.aE.take k) (c.aE.drop (k+1)) A (cb-(k+1)) ho1 hsrc (by rw[dA,iQ];omega) hb1.size
 have hld:(c.aE.drop (k+1)).length=c.aE.length-(k+1):=iQ;rw[hlt] at hr1;rw[hld] at hr2;have M2:Moved w W2 (fun k=>k=y\/(Value.slice (some g) c.aE.length cb).ownBlock=some k\/vt.ownBlock=some k):=((Moved.refl w _).below hb1).grown hg2 (fun z hz e=>by
  have:=(ho1.lt z e).1;omega)
 have hb2:ai w W2:=hb1.trans ((Moved.refl W1 (fun z=>v1.ownBlock=some z)).grown hg2 (fun z _ e=>e) |>.jg (fun z e=>(ho1.lt z e).1) hb1.size);have fO:W2.heap[y]?=some (.cells #[vr,va,vm,.slice (some g) c.aE.length cb,vt] 120):=(hb2.block y hyl).trans h.blk;obtain⟨Vj,Vt,ON⟩:=aM ho1;obtain⟨qI,qK,AE⟩:=aM ho2;subst ON;subst AE;have d3:=aj fO 3;have e3:=aW fO 3;have Vl:=aF hb1 c3;have HF:Hid (eO w F y { c with aE:=c.aE.take k++c.aE.drop (k+1) } (W2.setCell ⟨y,3,none⟩ (.slice qI (c.aE.take k++c.aE.drop (k+1)).length qK))):=ae (by
  have M3:=M2.setCell ⟨y,3,none⟩ (.inl rfl) (.slice qI (c.aE.take k++c.aE.drop (k+1)).length qK);have hr:=bu (a:=⟨y,3,none⟩) ho2 (aY fO ho2 (by decide)) (.slice qI (c.aE.take k++c.aE.drop (k+1)).length qK)
  have hS:∀ k,k=y\/(Value.slice (some g) c.aE.length cb).ownBlock=some k\/vt.ownBlock=some k->F k:=fun k hk=>h.ft k (by
   rcases hk with e|e|e
   ·exact .inl e
   ·exact .inr (.inr (.inr (.inl e)))
   ·exact .inr (.inr (.inr (.inr (.inl e)))))
  have hs2:=M3.size;have hro:(W2.setCell ⟨y,3,none⟩ (.slice qI (c.aE.take k++c.aE.drop (k+1)).length qK)).ownsRow 0 113 3 vt c.told.length (aJ (dj c.told)) :=
   bu (a:=⟨y,3,none⟩) (aS h.told fun z _ hz=>hb2.block z hz) (aY h.blk h.told (by decide)) _
  refine⟨⟨br,ba,bm,vr,va,vm,_,vt,vv,vc,h.Be (c.aE.take k++c.aE.drop (k+1)) c.told (.slice qI (c.aE.take k++c.aE.drop (k+1)).length qK) vt M3 (fun k e=>.inl e) (Gr.lt h.lt hs2) (GV _ fO) (obs hr (bl _)) hro ?_ ?_⟩,M3.wider hS,fun _ _ _ hm=>hm.off M3 h.blk h.aE h.told⟩
  ·exact bA.new hr (aG _)
  ·exact fun k hk=>.inl (h.ft k (.inr (.inr (.inr (.inr (.inl hk)))))))
 rw[hlt] at hr2;have HR1:=ae hr1;have HR2:=ae hr2;have hk0:(0:Int)<=(k:Int):=by omega
 have hk1:(k:Int)<=(c.aE.length:Int):=by omega
 have hk2:(0:Int)<=(k:Int)+1:=by omega
 have hk3:(k:Int)+1<=(c.aE.length:Int):=by omega
 have hk4:k<=cb:=by omega
 have hk5:k+1<=cb:=by omega
 have hwr:IntKind.i64.wrap ((k:Int)+1)=(k:Int)+1:=by rw[dV];omega
 clear h hr1 hr2 hcell ho1 ho2 hg1 hg2 hw1 hw2 hb1 hb2 M2 fO hsrc hadd;go_enter func138,ntmps138;go_wp2_with (at_builtin;first
  | refine kI rfl (.tmp 5) (.tmp 11) 118 rfl _ _ _ _ (by simp[Act.eval]) (by simp[Act.eval]) HR1.out ?_
  | refine kI rfl (.tmp 14) (.tmp 21) 118 rfl _ _ _ _ (by simp[Act.eval]) (by simp[Act.eval]) HR2.out ?_)
 go_wp2_with fail;go_end0;rw[HG.out];have hF:=HF.out;rw[show (c.aE.take k++c.aE.drop (k+1)).length=k+(c.aE.length-(k+1)) by rw[bG,hlt,hld]] at hF
 exact⟨⟨_,rfl⟩,hF⟩
theorem SI (d:Int)(h:cK w F y c)(hl:c.aE.length<=200) :
  Calls prog 85 #[y,.int .i64 d] w fun r w'=>r=.returned (.int .i64 (c.drop d).2)/\bH w F y (c.drop d).1 w':=by
 have HA:=ae h;obtain⟨br,ba,bm,vr,va,vm,vb,vt,vv,vc,h⟩:=h;obtain⟨ab,cb,rfl⟩:=aM h.aE;have c3:=au h.blk 3;clear h;by_cases hh:c.kT d
 ·have EL:=hh.1
  have EM:=hh.2;have H:Hid (c.drop d=(c.gone d,0)):=ae (by unfold aq.drop;rw[if_pos hh])
  obtain⟨k,rfl⟩:∃ k:Nat,d=(k:Int):=⟨d.toNat,by omega⟩
  have HG:=ae (GG k HA.out hl (by omega))
  have h3:¬ (k:Int)<0:=by omega
  clear hh;go_enter func85,ntmps85;go_wp2_with fail;refine HG.out.mono ?_
  rintro e W ⟨⟨v,rfl⟩,hC⟩;have HC:=ae hC;clear hC;go_wp2_with fail;go_ret;rw[H.out];exact⟨rfl,HC.out.after⟩
 ·have H:Hid (c.drop d=(c,8)):=ae (by unfold aq.drop;rw[if_neg hh])
  by_cases h3:d<0
  ·clear hh
   go_enter func85,ntmps85;go_wp2_with fail;go_ret;rw[H.out];exact⟨rfl,bH.still HA.out (ax _ _)⟩
  ·have h4:(c.aE.length:Int)<=d:=by
    unfold aq.kT at hh;omega
   clear hh;go_enter func85,ntmps85;go_wp2_with fail;go_ret;rw[H.out];exact⟨rfl,bH.still HA.out (ax _ _)⟩
theorem SH (d:Int)(h:cK w F y c)(hl:c.aE.length<=200) :
  Calls prog 86 #[y,.int .i64 d] w fun r w'=>r=.returned (.int .i64 (c.double d).2)/\bH w F y (c.double d).1 w':=by
 have HA:=ae h;obtain⟨br,ba,bm,vr,va,vm,vb,vt,vv,vc,h⟩:=h;obtain⟨ab,cb,rfl⟩:=aM h.aE;have c3:=au h.blk 3;by_cases hh:c.kT d
 ·have EL:=hh.1
  have EM:=hh.2;have H:Hid (c.double d=({ c with aE:=jE c.aE (c.aE.getD d.toNat ([],false)) },0)):=ae (by unfold aq.double;rw[if_pos hh,DK c hl];rfl)
  obtain⟨k,rfl⟩:∃ k:Nat,d=(k:Int):=⟨d.toNat,by omega⟩
  rw[Int.toNat_natCast] at H;have hkl:k<c.aE.length:=by omega
  obtain⟨g,cap,hv, -, -⟩:=h.aE.form (by omega)
  cases hv;have hf:c.aE[k]?=some (c.aE.getD k ([],false)):=by rw[ew,bU hkl];rfl
  have f0:=ev h.aE (k*2) (by omega)
  have f1:=ev h.aE (k*2+1) (by omega)
  rw[(zu c.aE k _ hf).1] at f0;rw[(zu c.aE k _ hf).2] at f1;have HG:=ae (GH (c.aE.getD k ([],false)) HA.out hl);generalize c.aE.getD k ([],false)=fr at *;have h3:¬ (k:Int)<0:=by omega
  have h5:(0:Int)<=(k:Int):=by omega
  clear hh h hf;go_enter func86,ntmps86;go_wp2_with fail;refine HG.out.mono ?_
  rintro e W ⟨⟨v,rfl⟩,hC⟩;have HC:=ae hC;clear hC;go_wp2_with fail;go_ret;rw[H.out];exact⟨rfl,HC.out.after⟩
 ·have H:Hid (c.double d=(c,8)):=ae (by unfold aq.double;rw[if_neg hh])
  by_cases h3:d<0
  ·clear hh h
   go_enter func86,ntmps86;go_wp2_with fail;go_ret;rw[H.out];exact⟨rfl,bH.still HA.out (ax _ _)⟩
  ·have h4:(c.aE.length:Int)<=d:=by
    unfold aq.kT at hh;omega
   clear hh h;go_enter func86,ntmps86;go_wp2_with fail;go_ret;rw[H.out];exact⟨rfl,bH.still HA.out (ax _ _)⟩
def xZ (x:aH):Bool:=decide (0<=x.client) && decide (x.client<=3) && decide (0<=x.seq) && decide (x.seq<=999)
def xY (x:aH):Bool:=decide (0<=x.key) && decide (x.key<=15) && decide (0<=x.value) && decide (x.value<=999)
theorem RJ (x:aH):x.ok=(xZ x && xY x && (decide (x.kind=1) || (decide (x.kind=2) && decide (x.value=0)))):=by
 unfold aH.ok xZ xY;simp only [Bool.and_assoc]
theorem SL (x:aH)(w:World):Calls prog 134 #[.agg #[x.client,x.seq,x.kind,x.key,x.value]] w fun e w'=>e=.returned (.bool x.ok)/\ai w w':=by
 obtain⟨B,hB,bz,bf⟩:=ch w #[x.client,x.seq,x.kind,x.key,x.value] 42;have k0:=au bf 0;have k1:=au bf 1;have k2:=au bf 2;have k3:=au bf 3;have k4:=au bf 4;have HO:=ae (RJ x);have HW1:Hid (xZ x=(decide (0<=x.client) && decide (x.client<=3) && decide (0<=x.seq) && decide (x.seq<=999))):=ae rfl;have HW2:Hid (xY x=(decide (0<=x.key) && decide (x.key<=15) && decide (0<=x.value) && decide (x.value<=999))):=ae rfl;generalize xZ x=wh at *;generalize xY x=wt at *;clear bf;go_enter func134,ntmps134;go_upto_region 1 with fail
 go_cut [1,2,3] (fun p1 p2 p3 wx=>p1=.pointer (some w.heap.size)/\p2=.bool false/\p3=.bool wh/\wx=B)
 case first =>
  by_cases h1:0<=x.client
  ·by_cases h2:x.client<=3
   ·by_cases h3:0<=x.seq
    ·by_cases h4:x.seq<=999
     ·have HV:Hid (wh=true):=ae (by rw[HW1.out];simp[h1,h2,h3,h4])
      go_wp2_with fail;go_meet;exact⟨rfl,rfl,by rw[HV.out],rfl⟩
     ·have HV:Hid (wh=false):=ae (by rw[HW1.out];simp[h4])
      go_wp2_with fail;go_meet;exact⟨rfl,rfl,by rw[HV.out],rfl⟩
    ·have HV:Hid (wh=false):=ae (by rw[HW1.out];simp[h3])
     go_wp2_with fail;go_meet;exact⟨rfl,rfl,by rw[HV.out],rfl⟩
   ·have HV:Hid (wh=false):=ae (by rw[HW1.out];simp[h2])
    go_wp2_with fail;go_meet;exact⟨rfl,rfl,by rw[HV.out],rfl⟩
  ·have HV:Hid (wh=false):=ae (by rw[HW1.out];simp[h1])
   go_wp2_with fail;go_meet;exact⟨rfl,rfl,by rw[HV.out],rfl⟩
 case rest =>
  obtain⟨rfl,rfl,rfl,rfl⟩:=hcut;go_upto_region 2 with fail
  go_cut [1,2,3,4] (fun p1 p2 p3 p4 wx=>p1=.pointer (some w.heap.size)/\p2=.bool false/\p3=.bool wh/\p4=.bool wt/\wx=wc)
  case first =>
   by_cases h1:0<=x.key
   ·by_cases h2:x.key<=15
    ·by_cases h3:0<=x.value
     ·by_cases h4:x.value<=999
      ·have HV:Hid (wt=true):=ae (by rw[HW2.out];simp[h1,h2,h3,h4])
       go_wp2_with fail;go_meet;exact⟨rfl,rfl,rfl,by rw[HV.out],rfl⟩
      ·have HV:Hid (wt=false):=ae (by rw[HW2.out];simp[h4])
       go_wp2_with fail;go_meet;exact⟨rfl,rfl,rfl,by rw[HV.out],rfl⟩
     ·have HV:Hid (wt=false):=ae (by rw[HW2.out];simp[h3])
      go_wp2_with fail;go_meet;exact⟨rfl,rfl,rfl,by rw[HV.out],rfl⟩
    ·have HV:Hid (wt=false):=ae (by rw[HW2.out];simp[h2])
     go_wp2_with fail;go_meet;exact⟨rfl,rfl,rfl,by rw[HV.out],rfl⟩
   ·have HV:Hid (wt=false):=ae (by rw[HW2.out];simp[h1])
    go_wp2_with fail;go_meet;exact⟨rfl,rfl,rfl,by rw[HV.out],rfl⟩
  case rest =>
   obtain⟨rfl,rfl,rfl,rfl,rfl⟩:=hcut;clear HW1 HW2;cases wh with
   | false =>
    have HV:Hid (x.ok=false):=ae (by rw[HO.out];rfl)
    go_wp2_with fail;go_ret;exact⟨by rw[HV.out];rfl,bz⟩
   | true =>
    cases wt with
    | false =>
     have HV:Hid (x.ok=false):=ae (by rw[HO.out];rfl)
     go_wp2_with fail;go_ret;exact⟨by rw[HV.out];rfl,bz⟩
    | true =>
     cases t1:(x.kind == 1) with
     | true =>
      have HV:Hid (x.ok=true):=ae (by rw[HO.out];simp at t1;simp[t1])
      go_wp2_with fail;go_ret;exact⟨by rw[HV.out];rfl,bz⟩
     | false =>
      cases t2:(x.kind == 2) with
      | false =>
       have HV:Hid (x.ok=false):=ae (by rw[HO.out];simp at t1 t2;simp[t1,t2])
       go_wp2_with fail;go_ret;exact⟨by rw[HV.out];rfl,bz⟩
      | true =>
       cases t3:(x.value == 0) with
       | true =>
        have HV:Hid (x.ok=true):=ae (by rw[HO.out];simp at t2 t3;simp[t2,t3])
        go_wp2_with fail;go_ret;exact⟨by rw[HV.out];rfl,bz⟩
       | false =>
        have HV:Hid (x.ok=false):=ae (by rw[HO.out];simp at t1 t2 t3;simp[t2,t3])
        go_wp2_with fail;go_ret;exact⟨by rw[HV.out];rfl,bz⟩
theorem Su {E:Int}{g:Gh}(d:Int)(x:aH)(h:cK w F y c)(hg:Good c E g)(hi : -9223372036854775808<=d/\d<=9223372036854775807) :
  Calls prog 82 #[y,.int .i64 d,.agg #[x.client,x.seq,x.kind,x.key,x.value]] w fun r w'=>r=.returned (.int .i64 (c.ask d x).2)/\bH w F y (c.ask d x).1 w':=by
 have HA:=ae h;have hn:=hg.nodes.n5;obtain⟨B,hB,bz,bf⟩:=ch w #[x.client,x.seq,x.kind,x.key,x.value] 42;have k0:=au bf 0;have k1:=au bf 1;have k2:=au bf 2;have k3:=au bf 3;have k4:=au bf 4;have HK:Hid (Calls prog 133 #[y,.int .i64 d] B fun e w'=>e=.returned (.tuple #[.int .i64 (cE c.aD.length d).1,.int .i64 (cE c.aD.length d).2])/\w'=B):=ae (by
  obtain⟨br,ba,bm,vr,va,vm,vb,vt,vv,vc,h⟩:=h.below bz;obtain⟨ar,cr,dp⟩:=aM h.rr;subst dp;exact mB y c.aD.length _ cr d B (aj h.blk 0) hn hi)
 have HE:=ae (SL x B);have Ct:=ae bf;by_cases hr:c.cN d
 ·have hkd:cE c.aD.length d=(1,d):=by unfold cE;rw[if_pos ⟨hr.1,hr.2⟩]
  rw[hkd] at HK;cases hok:x.ok with
  | false =>
   have H:Hid (c.ask d x=(c,6)):=ae (by unfold aq.ask;rw[if_neg (by simpa using hr),if_pos hok])
   rw[hok] at HE;clear h bf hkd hr hok;go_enter func82,ntmps82;go_wp2_with fail;refine HK.out.mono ?_
   rintro e W ⟨rfl,rfl⟩;go_wp2_with fail;refine HE.out.mono ?_
   rintro e W2 ⟨rfl,hb2⟩;go_wp2_with fail;go_ret;rw[H.out];exact⟨rfl,bH.still HA.out (bz.trans (hb2.mono bz.size))⟩
  | true =>
   have H:Hid (c.ask d x=(c.send [{ kind:=1,src:=300+x.client,dst:=d,log:=[x] }],0)):=ae (by unfold aq.ask;rw[if_neg (by simpa using hr),if_neg (by rw[hok];simp)])
   rw[hok] at HE;have hcl:=sP hok;have hwr:IntKind.i64.wrap (300+x.client)=300+x.client:=by rw[dV];omega
   have mU:∀ m∈[({ kind:=1,src:=300+x.client,dst:=d,log:=[x] }:aK)],m.ok=true:=by
    intro m hm;rw[dg] at hm;subst hm;obtain⟨d0,d1,_⟩:=rQ hg.nodes hr;have hwf:cU c.aD.length E { kind:=1,src:=300+x.client,dst:=d,log:=[x] }:=xH hok hg.nodes.E0 (by omega) ⟨d0,d1⟩
    exact hwf.ok hg.nodes.n5 hg.nodes.jM
   have HS:Hid (∀ Y,ai w Y->Calls prog 135 #[y,.slice (some ⟨Y.heap.size+1,0,none⟩) 1 1] ((Y.alloc (.cells #[x.client,x.seq,x.kind,x.key,x.value] 42)).alloc (.cells #[.int .i64 1,.int .i64 (300+x.client),.int .i64 d,(),(),(),(),(),true,.slice (some Y.heap.size) 1 1] 134)) fun e w'=>(∃ v,e=.returned v)/\bH w F y (c.send [{ kind:=1,src:=300+x.client,dst:=d,log:=[x] }]) w'):=ae fun Y bt=>by
    have rf:=((bt.alloc bt.size (.cells #[x.client,x.seq,x.kind,x.key,x.value] 42)).alloc (by have:=bt.size;simp;omega) (.cells #[.int .i64 1,.int .i64 (300+x.client),.int .i64 d,(),(),(),(),(),true,.slice (some Y.heap.size) 1 1] 134))
    have bR:bw ((Y.alloc (.cells #[x.client,x.seq,x.kind,x.key,x.value] 42)).alloc (.cells #[.int .i64 1,.int .i64 (300+x.client),.int .i64 d,(),(),(),(),(),true,.slice (some Y.heap.size) 1 1] 134)) (.slice (some Y.heap.size) 1 1) [x]:=by
     refine⟨rfl,.inr ⟨Y.heap.size,1,#[.int .i64 x.client,.int .i64 x.seq,.int .i64 x.kind,.int .i64 x.key,.int .i64 x.value],rfl,bl _, ?_,aG _,by decide,rfl,rfl⟩⟩
     exact (j6 _ _ _ (by simp)).trans (hnw _ _)
    have hms:a_ _ 0 (.slice (some ⟨Y.heap.size+1,0,none⟩) 1 1) [{ kind:=1,src:=300+x.client,dst:=d,log:=[x] }]:=a_.one { kind:=1,src:=300+x.client,dst:=d,log:=[x] } (.slice none 0 0) (.slice (some Y.heap.size) 1 1) (kX _ _ _) (bl _) (bE _ _ _ _) bR;refine (xG 0 _ _ (HA.out.below rf) hg.aE hms mU (by simp)).mono ?_
    rintro e w' ⟨h1,hB⟩;exact⟨h1,bH.before HA.out rf hB.after⟩
   clear h bf hkd hr hok mU;go_enter func82,ntmps82;go_wp2_with fail;refine HK.out.mono ?_
   rintro e W ⟨rfl,rfl⟩;go_wp2_with fail;refine HE.out.mono ?_
   rintro e W2 ⟨rfl,hb2⟩;have hb3:=bz.trans (hb2.mono bz.size);have n0:=aF hb2 k0;have n1:=aF hb2 k1;have n2:=aF hb2 k2;have n3:=aF hb2 k3;have n4:=aF hb2 k4;clear k0 k1 k2 k3 k4;go_wp2_with fail;refine (HS.out _ hb3).mono ?_
   rintro e W3 ⟨⟨v,rfl⟩,hC⟩;have HC:=ae hC;clear hC;go_wp2_with fail;go_ret;rw[H.out];exact⟨rfl,HC.out⟩
 ·have H:Hid (c.ask d x=(c,4)):=ae (by unfold aq.ask;rw[if_pos hr])
  have hk1:(cE c.aD.length d).1≠1:=by
   unfold cE;rw[if_neg (fun e=>hr ⟨e.1,e.2⟩)];split
   ·show (2:Int)≠1;omega
   ·split
    ·show (3:Int)≠1;omega
    ·show (0:Int)≠1;omega
  generalize (cE c.aD.length d).1=q1 at *;generalize (cE c.aD.length d).2=q2 at *;have hk2:(q1 == 1)=false:=by simpa using hk1
  clear h bf hr hk1;go_enter func82,ntmps82;go_wp2_with fail;refine HK.out.mono ?_
  rintro e W ⟨rfl,rfl⟩;go_wp2_with fail;go_ret;rw[H.out];exact⟨rfl,bH.still HA.out bz⟩
theorem S8 (m:aK)(a1:Option Addr)(d1:Nat)(a2:Option Addr)(d2:Nat)(h:cK w F y c)(ht:c.told.length<=2999999999999) :
  Calls prog 140 #[y,.agg #[m.kind,m.src,m.dst,m.ah,m.ak,m.aO,m.pos,m.value,.slice a1 m.af.length d1,.slice a2 m.log.length d2]] w fun r w'=>(∃ v,r=.returned v)/\eO w F y (c.tell m) w':=by
 have HA:=ae h;obtain⟨br,ba,bm,vr,va,vm,vb,vt,vv,vc,h⟩:=h;have hyl:y<w.heap.size:=(aQ h.blk);have HT:Hid (c.tell m=if m.kind=4/\300<=m.dst/\m.dst<=303 then { c with told:=c.told++[⟨m.dst-300,m.pos,m.value⟩] } else c):=ae rfl
 obtain⟨B0,hB0,iz,jA⟩:=dk w m (.slice a1 m.af.length d1) (.slice a2 m.log.length d2);have k0:=au jA 0;have k2:=au jA 2;have k6:=au jA 6;have k7:=au jA 7;clear jA;cases tk:(m.kind == 4) with
 | false =>
  have HV:Hid (c.tell m=c):=ae (by rw[HT.out,if_neg (fun e=>by rw[e.1] at tk;simp at tk)])
  clear h;go_enter func140,ntmps140;go_wp2_with fail;go_end0;rw[HV.out];exact⟨⟨_,rfl⟩,eO.still HA.out iz⟩
 | true =>
  have PK:Hid (m.kind=4):=ae (by simpa using tk)
  by_cases hc1:300<=m.dst
  ·by_cases hc2:m.dst<=303
   ·have HV:Hid (c.tell m={ c with told:=c.told++[⟨m.dst-300,m.pos,m.value⟩] }):=ae (by rw[HT.out,if_pos ⟨PK.out,hc1,hc2⟩])
    have hwr:IntKind.i64.wrap (m.dst-300)=m.dst-300:=by rw[dV];omega
    have mixed:prog.follows Departure.mixedOrders=true:=by kernel_rfl
    obtain⟨av,cv,lK⟩:=aM h.told;subst lK;have c4:=au h.blk 4;have KR:=aF iz c4;have z4:∀ o,(B0.alloc o).cell? (y,4)=some (.slice av c.told.length cv):=fun o=>aF ((ax _ B0).alloc (aG _) o) KR;obtain⟨Z,hZ⟩:∃ Z,Z=(B0.alloc (.cells #[.int .i64 (m.dst-300),m.pos,m.value] 113)).drew:=⟨_,rfl⟩;have cq:ai w Z:=by rw[hZ];exact iz.trans ((((ax _ B0).alloc (aG _) _).drew).mono iz.size)
    have IZ:=h.keep (w':=Z) fun k hk=>cq.block k (h.lt k hk);have sI:Z.heap.size=B0.heap.size+1:=by rw[hZ];simp
    have hs0:=iz.size;obtain⟨g',cap',W1,hrun,ho1,hg1,ek⟩:=C3 (t:=91) xb underlying91 rfl (by decide) Z 0 (.slice av c.told.length cv) c.told.length (aJ (dj c.told)) [.int .i64 (m.dst-300),.int .i64 m.pos,.int .i64 m.value] B0.heap.size IZ.told (by rw[hZ];exact hnw _ _) rfl (by intro u hu;simp at hu;rcases hu with rfl|rfl|rfl<;>rfl) (by omega) (by decide) (bl _)
    have nb:(Value.slice av c.told.length cv).ownBlock≠some y:=aY h.blk h.told (by decide)
    have fO:W1.heap[y]?=some (.cells #[vr,va,vm,vb,.slice av c.told.length cv] 120):=(hg1.block y (by omega) (fun e=>nb e.symm)).trans IZ.blk
    have d4:=aj fO 4;have e4:=aW fO 4;have M1:Moved w W1 (fun k=>k=y\/vb.ownBlock=some k\/(Value.slice av c.told.length cv).ownBlock=some k):=((Moved.refl w _).below cq).grown hg1 (fun k _ e=>.inr (.inr e));have HF:Hid (eO w F y { c with told:=c.told++[⟨m.dst-300,m.pos,m.value⟩] } (W1.setCell ⟨y,4,none⟩ (.slice (some g') (c.told.length+1) cap'))):=ae (by
     have M2:=M1.setCell ⟨y,4,none⟩ (.inl rfl) (.slice (some g') (c.told.length+1) cap');have hr:=bu (a:=⟨y,4,none⟩) ho1 (aY fO ho1 (by decide)) (.slice (some g') (c.told.length+1) cap')
     have hS:∀ k,k=y\/vb.ownBlock=some k\/(Value.slice av c.told.length cv).ownBlock=some k->F k:=fun k hk=>h.ft k (by
      rcases hk with e|e|e
      ·exact .inl e
      ·exact .inr (.inr (.inr (.inl e)))
      ·exact .inr (.inr (.inr (.inr (.inl e)))))
     have hs2:=M2.size;have hro:(W1.setCell ⟨y,4,none⟩ (.slice (some g') (c.told.length+1) cap')).ownsRow 0 214 2 vb c.aE.length (de c.aE):=by
      refine bu (a:=⟨y,4,none⟩) (cG IZ.aE fun k e=>hg1.block k (dL.1 (bK IZ.aE e).choose_spec.1).1 (fun q=>bM IZ.aE IZ.told (by decide) k e q.symm)) ?_ _
      exact aY h.blk h.aE (by decide)
     refine⟨⟨br,ba,bm,vr,va,vm,vb,_,vv,vc,h.Be c.aE (c.told++[⟨m.dst-300,m.pos,m.value⟩]) vb (.slice (some g') (c.told.length+1) cap') M2 (fun k e=>.inl e) (Gr.lt h.lt hs2) (Tz _ fO) hro ?_ ?_ ?_⟩,M2.wider hS,fun _ _ _ hm=>hm.off M2 h.blk h.aE h.told⟩
     ·rw[bG,CZ]
      exact hr
     ·exact fun k hk=>.inl (h.ft k (.inr (.inr (.inr (.inl hk)))))
     ·intro k hk
      have:g'=k:=by simpa [Value.ownBlock] using hk
      subst this;rcases ek with q|q
      ·exact .inl (h.ft _ (.inr (.inr (.inr (.inr (.inl q))))))
      ·refine .inr ⟨by omega, ?_⟩
       exact (dL.1 (bK hr (by rfl)).choose_spec.1).1)
    rw[hZ] at hrun;clear hg1 ek ho1 fO M1 IZ cq sI hZ h hs0;go_enter func140,ntmps140;go_upto_region 2 with fail
    go_region_law (first|(refine jq rfl (.tmp 21) (.tmp 30) 91 rfl _ _ _ _ (by simp[Act.eval]) (by simp[Act.eval]) hrun ?_))
    all_goals (
     go_wp2_with fail;go_end0;rw[HV.out];exact⟨⟨_,rfl⟩,HF.out⟩)
   ·have HV:Hid (c.tell m=c):=ae (by rw[HT.out,if_neg (fun e=>hc2 e.2.2)])
    clear h;go_enter func140,ntmps140;go_wp2_with fail;go_end0;rw[HV.out];exact⟨⟨_,rfl⟩,eO.still HA.out iz⟩
  ·have HV:Hid (c.tell m=c):=ae (by rw[HT.out,if_neg (fun e=>hc1 e.2.1)])
   clear h;go_enter func140,ntmps140;go_wp2_with fail;go_end0;rw[HV.out];exact⟨⟨_,rfl⟩,eO.still HA.out iz⟩
end Go.Proofs.YtgieeeeeiggoeaaGreat
