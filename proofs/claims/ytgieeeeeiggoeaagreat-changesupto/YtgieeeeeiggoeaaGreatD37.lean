import Derived.Test.YtgieeeeeiggoeaaGreatD35
set_option maxRecDepth 100000
set_option maxHeartbeats 2000000
namespace Go.Proofs.YtgieeeeeiggoeaaGreat
open Go.RowKit Go.Shelf
open Tryz
variable {c:aq}{g:Gh}{E d:Int}{gs x:Nat}{F:Nat->Prop}{w:World}
theorem CZ (l:List fY)(a:fY):aJ (dj (l++[a]))=aJ (dj l)++[.int .i64 a.client,.int .i64 a.seq,.int .i64 a.value]:=by
 unfold dj aJ;rw[List.flatMap_append,gw];rfl
def pK (c:aq)(L:List UInt8):aq:=match lN L with|none=>c|some m=>c.kO m
theorem Mm (h:c.cO d≠some true):∃ en,(en == (0:Int))=false/\dK c gs true d=.tuple #[.pointer none,.int .i64 en]:=by
 rw[lQ] at h;unfold dK;cases hp:dD c.aD.length d with
 | none=>exact⟨4,rfl,rfl⟩
 | some j =>
  rw[hp] at h;simp only [Option.map_some,ne_eq,Option.some.injEq] at h;exact⟨5,rfl,by simp[h]⟩
theorem Mn (h:c.cO d=some true):∃ j,dD c.aD.length d=some j/\(c.bj j).up=true/\dK c gs true d=.tuple #[.pointer (some ⟨gs,j*3,none⟩),()]:=by
 rw[lQ] at h;unfold dK;cases hp:dD c.aD.length d with
 | none=>rw[hp] at h;cases h
 | some j =>
  rw[hp] at h;simp only [Option.map_some,Option.some.injEq] at h;exact⟨j,rfl,h,by simp[h]⟩
theorem LB {X:World}(m:aK)(a1:Option Addr)(d1:Nat)(a2:Option Addr)(d2:Nat)(h:dM X F x c)(ht:c.told.length<=2999999999999) :
  Calls prog 118 #[x,.agg #[m.kind,m.src,m.dst,m.ah,m.ak,m.aO,m.pos,m.value,.slice a1 m.af.length d1,.slice a2 m.log.length d2]] X fun r w'=>(∃ v,r=.returned v)/\bW X F x (c.tell m) w':=by
 have HA:=ae h;obtain⟨gs,cap,b,Fn,vr,va,vm,vb,vt,h⟩:=h;have IX:=ae h;have hxl:x<X.heap.size:=h.lt x (h.dv x (.inl rfl));have vz:=fun W=>ae (Pn m.dst W);have HT:Hid (c.tell m=if m.kind=4/\300<=m.dst/\m.dst<=303 then { c with told:=c.told++[⟨m.dst-300,m.pos,m.value⟩] } else c):=ae rfl
 obtain⟨B0,hB0,iz,jA⟩:=dk X m (.slice a1 m.af.length d1) (.slice a2 m.log.length d2);have k0:=au jA 0;have k2:=au jA 2;have k6:=au jA 6;have k7:=au jA 7;clear h jA;cases tk:(m.kind == 4) with
 | false =>
  have HV:Hid (c.tell m=c):=ae (by rw[HT.out,if_neg (fun e=>by rw[e.1] at tk;simp at tk)])
  go_enter func118,ntmps118;go_wp2_with fail;go_end0;rw[HV.out];exact⟨⟨_,rfl⟩,bW.still HA.out iz⟩
 | true =>
  have PK:Hid (m.kind=4):=ae (by simpa using tk)
  by_cases hcl:300<=m.dst/\m.dst<=303
  ·have HV:Hid (c.tell m={ c with told:=c.told++[⟨m.dst-300,m.pos,m.value⟩] }):=ae (by rw[HT.out,if_pos ⟨PK.out,hcl⟩])
   have hdd:decide (300<=m.dst/\m.dst<=303)=true:=eR hcl;rw[hdd] at vz;clear hdd;have hwr:IntKind.i64.wrap (m.dst-300)=m.dst-300:=by rw[dV];omega
   have mixed:prog.follows Departure.mixedOrders=true:=by kernel_rfl
   obtain⟨av,cv,lK⟩:=aM IX.out.rt;subst lK;have c5:=aj IX.out.aE.blk 5;have KS:=aF iz c5;obtain⟨Z,hZ⟩:∃ Z,Z=(B0.alloc (.cells #[.int .i64 (m.dst-300),m.pos,m.value] 113)).drew:=⟨_,rfl⟩;have cq:ai X Z:=by rw[hZ];exact iz.trans ((((ax _ B0).alloc (aG _) _).drew).mono iz.size)
   have hs0:=iz.size;have IZ:=IX.out.below cq;have sI:Z.heap.size=B0.heap.size+1:=by rw[hZ];simp
   obtain⟨g',cap',W1,hrun,ho1,hg1,ek⟩:=C3 (t:=91) xb underlying91 rfl (by decide) Z 0 (.slice av c.told.length cv) c.told.length (aJ (dj c.told)) [.int .i64 (m.dst-300),.int .i64 m.pos,.int .i64 m.value] B0.heap.size IZ.rt (by rw[hZ];exact hnw _ _) rfl (by intro u hu;simp at hu;rcases hu with rfl|rfl|rfl<;>rfl) (by omega) (by decide) (bl _)
   have nb:(Value.slice av c.told.length cv).ownBlock≠some x:=aY IX.out.aE.blk IX.out.rt (by decide)
   have jY:W1.heap[x]?=some (.cells #[.slice (some gs) (c.aD.length+5) cap,vr,va,vm,vb,.slice av c.told.length cv] 93):=(hg1.block x (by omega) (fun e=>nb e.symm)).trans IZ.aE.blk
   have d5:=aj jY 5;have e5:=aW jY 5;have z5:∀ o,(B0.alloc o).cell? (x,5)=some (.slice av c.told.length cv):=fun o=>aF ((ax _ B0).alloc (aG _) o) KS;have M1:Moved X W1 (fun k=>k=x\/(Value.slice av c.told.length cv).ownBlock=some k):=((Moved.refl X _).below cq).grown hg1 (fun k _ e=>.inr e);have HFin:Hid (bW X F x { c with told:=c.told++[⟨m.dst-300,m.pos,m.value⟩] } (W1.setCell ⟨x,5,none⟩ (.slice (some g') (c.told.length+1) cap'))):=ae (by
    refine IX.out.Uz _ (.slice (some g') (c.told.length+1) cap') (TE _ jY) ?_ (M1.setCell ⟨x,5,none⟩ (.inl rfl) _) ?_
    ·rw[bG,CZ]
     exact bu ho1 (aY jY ho1 (by decide)) _
    ·intro k hk
     have:g'=k:=by simpa [Value.ownBlock] using hk
     subst this;rcases ek with h5|h5
     ·exact .inl h5
     ·exact .inr (by omega))
   rw[hZ] at hrun;clear hg1 ek ho1 jY M1 IZ cq sI hZ hs0;go_enter func118,ntmps118;go_wp2_with fail;refine (vz _).out.mono ?_
   rintro e W ⟨rfl,rfl⟩;go_wp2_with fail;go_region_law (first|(refine jq rfl (.tmp 16) (.tmp 25) 91 rfl _ _ _ _ (by simp[Act.eval]) (by simp[Act.eval]) hrun ?_))
   all_goals (
    go_wp2_with fail;go_end0;rw[HV.out];exact⟨⟨_,rfl⟩,HFin.out⟩)
  ·have HV:Hid (c.tell m=c):=ae (by rw[HT.out,if_neg (fun e=>hcl e.2)])
   have hdd:decide (300<=m.dst/\m.dst<=303)=false:=ee hcl;rw[hdd] at vz;clear hdd hcl;go_enter func118,ntmps118;go_wp2_with fail;refine (vz _).out.mono ?_
   rintro e W ⟨rfl,rfl⟩;go_wp2_with fail;go_end0;rw[HV.out];exact⟨⟨_,rfl⟩,bW.still HA.out iz⟩
theorem Kn (L:List UInt8)(sp:Bool)(hL:L.length<=100000)(h:dM w F x c)(hg:Good c E g)(ht:c.told.length<=2999999999999)(hs:∀ m,lN L=some m->iw c E g m) :
  Calls prog 63 #[x,.agg #[.string (bs L),.bool sp]] w fun r w'=>(∃ v,r=.returned v)/\bW w F x (pK c L) w':=by
 have HA:=ae h;obtain⟨gs,cap,b,Fn,vr,va,vm,vb,vt,h⟩:=h;obtain⟨B0,hB0,iz,jA⟩:=ch w #[.string (bs L),.bool sp] 138;have b0:=au jA 0;have HD:=ae (UT L B0 (by omega))
 have hmo:=FV L;have HV:Hid (∀ mem log,(cH L).value mem log=.tuple #[bL (o_ L) mem log,.int .i64 (cH L).err]/\(cH L).ms=(o_ L).af/\(cH L).es=(o_ L).log):=ae fun mem log=>⟨rfl,rfl,rfl⟩;generalize o_ L=m at *;generalize (cH L).err=er at *;have HI:=ae h;have hxl:x<w.heap.size:=h.lt x (h.dv x (.inl rfl));have hgl:gs<w.heap.size:=h.lt gs (h.dv gs (.inr (.inl rfl)));have HF:Hid (∀ W,ai w W->Calls prog 65 #[x,(),m.dst] W fun e w'=>e=.returned (dK c gs true m.dst)/\w'=W):=ae fun W hb=>tQ W F x gs cap c b Fn vr va vm vb vt true m.dst (h.below hb);have km:Hid (∀ (a1 a2:Option Addr) (d1 d2:Nat) W F' c',dM W F' x c'->c'.told.length<=2999999999999->Calls prog 118 #[x,.agg #[m.kind,m.src,m.dst,m.ah,m.ak,m.aO,m.pos,m.value,.slice a1 m.af.length d1,.slice a2 m.log.length d2]] W fun r w'=>(∃ v,r=.returned v)/\bW W F' x (c'.tell m) w'):=ae fun a1 a2 d1 d2 W F' c' h1 h2=>LB m a1 d1 a2 d2 h1 h2;clear h;go_enter func63,ntmps63;go_wp2_with fail;refine HD.out.mono ?_
 rintro e Y ⟨No,mem,log,rfl,o1,o2⟩;have bt:=iz.trans (No.mono iz.size);have MV:=iz.size
 replace o1:=obs o1 (base':=w.heap.size+1) (by omega)
 replace o2:=obs o2 (base':=w.heap.size+1) (by omega)
 obtain⟨v1,v2,v3⟩:=HV.out mem log;rw[v2] at o1;rw[v3] at o2;rw[v1];clear v1 v2 v3;obtain⟨a1,d1,rfl⟩:=aM o1;obtain⟨a2,d2,rfl⟩:=aM o2;have HO:=ae (aP o1 o2);clear o1 o2 HD HV b0 jA MV;unfold bL;go_upto_region 2 with fail
 obtain⟨X,hX,rh,hM⟩:=dk Y m (.slice a1 m.af.length d1) (.slice a2 m.log.length d2);rw[hX];clear hX;have hbX:=bt.trans (rh.mono bt.size);have vN:Hid (X.ownsRow (w.heap.size+1) 3 1 (.slice a1 m.af.length d1) m.af.length (aJ m.af)/\X.ownsRow (w.heap.size+1) 42 5 (.slice a2 m.log.length d2) m.log.length (aJ (bk m.log))):=ae ⟨aS HO.out.1 fun k _ hk=>rh.block k hk,aS HO.out.2 fun k _ hk=>rh.block k hk⟩;have hys:=bt.size;have gM:=fun j=>aj hM j;have HM:=ae hM;clear hM HO;have IX:=ae (HI.out.below hbX);cases her:(er == 0) with
 | false =>
  have N0:Hid (¬ er=0):=ae (by simpa using her)
  have H:Hid (pK c L=c):=ae (by unfold pK;rw[hmo,if_neg N0.out])
  go_wp2_with fail;(try simp only [Exit.inBlock,Exit.then]);refine dB (results_none rfl _ _ _) rfl ?_
  rw[H.out];exact⟨⟨_,rfl⟩,bW.still HA.out hbX⟩
 | true =>
  have P0:er=0:=by simpa using her
  subst P0;rw[if_pos rfl] at hmo;have mU:=hs m hmo;have H:Hid (pK c L=c.kO m):=ae (by unfold pK;rw[hmo])
  by_cases hup:c.cO m.dst=some true
  ·obtain⟨j,hp,hu2,hfi⟩:=Mn (gs:=gs) hup
   rw[hfi] at HF;have hj:=mW hp;have fs:=my hp;have hA:=Ko hg.nodes.n5 hp hu2;have hd3:m.dst<300:=by rw[<- fs];exact F7 hg.nodes.n5 hj
   have hout:Hid ((∀ z∈((c.bj j).take m.dst m).2,z.ok=true)/\((c.bj j).take m.dst m).2.length<=100):=ae (by
    obtain⟨E',g',hl,ho⟩:=hg.nodes.takes mU;rw[BS hp hu2] at hl ho;refine⟨fun z hz=>(ho z hz).1.ok hl.nodes.n5 hl.nodes.jM, ?_⟩
    have hk:=rH hg j hj;rw[fs] at hk;refine F0 hk fun s hsm=>⟨E', ?_⟩
    have hr:=hl.aD;rcases oJ hp with ⟨_,h2,_⟩|⟨_,_,h3,_⟩|⟨h1,h2,h3,h4,h5⟩
    ·rw[h2] at hsm;cases hsm
    ·rw[h3] at hsm;cases hsm
    ·have hS:=hl.nodes.S m.dst h3
     rw[h4] at hsm;cases hsm;rw[h4] at hS;simp only [bT.take] at hS;rw[h5,sO hg.nodes.m2 h3 h3,if_pos rfl] at hS;exact hS)
   obtain⟨cs,hcs,hst⟩:=IX.out.iE;have HST:=ae (aP hcs (hst j hj));have c2:X.cell? ⟨gs,j*3+2,none⟩=some (.iface (fu (c.bj j)) (.pointer (some ⟨b j,0,none⟩))):=(aj hcs (j*3+2)).trans (hst j hj).2.2;clear hcs hst;have hm:=Q5 (c.bj j) (some ⟨b j,0,none⟩);have HC:Hid (∀ W,ai X W->Calls prog (tb (c.bj j)) #[.pointer (some ⟨b j,0,none⟩),.agg #[m.kind,m.src,m.dst,m.ah,m.ak,m.aO,m.pos,m.value,.slice a1 m.af.length d1,.slice a2 m.log.length d2]] W fun e w'=>nt X w' (Fn j) (b j) m.dst e ((c.bj j).take m.dst m)):=ae fun W hb=>by
    have hN:eW W (Fn j) (b j) m.dst (c.bj j):=by
     rw[<- fs];exact (IX.out.bj j hj).keep fun k hk=>hb.block k ((IX.out.bj j hj).lt hk)
    have hnF:∀ k,w.heap.size+1<=k->¬ Fn j k:=fun k hk e=>by
     have:=HI.out.lt k (HI.out.iC j hj k e);omega
    exact (Rq c.aD.length E (Fn j) (b j) m.dst (c.bj j) m _ _ W hN (fs ▸ rH hg j hj) hu2 mU.1 (obs (aS vN.out.1 fun k _ hk=>hb.block k hk) (bl _)) (obs (aS vN.out.2 fun k _ hk=>hb.block k hk) (bl _)) rfl
     (fun k e=>hnF k (bK vN.out.1 e).choose_spec.2) (fun k e=>hnF k (bK vN.out.2 e).choose_spec.2)).mono fun e w' ho=>nt.below hb ho
   have HS:Hid (∀ W v,Moved X W (Fn j)->a_ W X.heap.size v ((c.bj j).take m.dst m).2->Calls prog 36 #[.pointer (some ⟨x,4,none⟩),v] W fun e w'=>(∃ v,e=.returned v)/\gP W w' x (.slice (some gs) (c.aD.length+5) cap) vr va vm vb vt (iS c.aE ((c.bj j).take m.dst m).2)):=ae fun W v hM hv=>wb x _ vr va vm vb vt c.aE _ v _ W (IX.out.tG j hj hM).1 hg.aE hv hout.out.1 (by have:=hout.out.2;omega)
   have HK:Hid (∀ W,Moved X W (Fn j)->(W.cell? ⟨gs,j*3+2,none⟩=some (.iface (fu (c.bj j)) (.pointer (some ⟨b j,0,none⟩)))/\W.heap[Y.heap.size]?=some (.cells #[m.kind,m.src,m.dst,m.ah,m.ak,m.aO,m.pos,m.value,.slice a1 m.af.length d1,.slice a2 m.log.length d2] 134))/\∀ w' l',gP W w' x (.slice (some gs) (c.aD.length+5) cap) vr va vm vb vt l'->w'.cell? ⟨gs,j*3+2,none⟩=some (.iface (fu (c.bj j)) (.pointer (some ⟨b j,0,none⟩)))/\w'.heap[Y.heap.size]?=some (.cells #[m.kind,m.src,m.dst,m.ah,m.ak,m.aO,m.pos,m.value,.slice a1 m.af.length d1,.slice a2 m.log.length d2] 134)):=ae fun W hM=>by
    obtain⟨q1,q2⟩:=IX.out.tG j hj hM;have q3:=q2.trans HST.out.1;have q4:W.heap[Y.heap.size]?=some (.cells #[m.kind,m.src,m.dst,m.ah,m.ak,m.aO,m.pos,m.value,.slice a1 m.af.length d1,.slice a2 m.log.length d2] 134):=(hM.block _ (aQ HM.out) (fun e=>by have:=HI.out.lt _ (HI.out.iC j hj _ e);omega)).trans HM.out
    refine⟨⟨(aj q3 (j*3+2)).trans HST.out.2.2.2,q4⟩,fun w' l' hB=>⟨(aj (hB.beside q1 q3) (j*3+2)).trans HST.out.2.2.2, ?_⟩⟩
    obtain⟨iT,z1,z2,z3⟩:=hB;refine (z2.block _ (aQ q4) ?_).trans q4
    rintro (e|e)
    ·rw[e,q1.blk] at q4
     simp at q4
    ·exact aY q4 q1.row (by decide) e
   clear mU hup hfi;rcases xC (c.bj j) with ⟨k1,k2,_⟩|⟨k1,k2,_⟩|⟨k1,k2,_⟩
   ·rw[k1] at c2 hm HK
    rw[k2] at hm HC;go_wp2_with fail;refine (HF.out X hbX).mono ?_
    rintro e W9 ⟨rfl,rfl⟩;go_wp2_with fail;have hbd:=(ax W9.heap.size W9).drew;go_region_held3 (fun w'=>w'.cell? ⟨gs,j*3+2,none⟩=some (.iface 129 (.pointer (some ⟨b j,0,none⟩)))/\∀ t,w'.cell? ⟨Y.heap.size,t,none⟩=(#[.int .i64 m.kind,.int .i64 m.src,.int .i64 m.dst,.int .i64 m.ah,.int .i64 m.ak,.int .i64 m.aO,.int .i64 m.pos,.int .i64 m.value,.slice a1 m.af.length d1,.slice a2 m.log.length d2]:Array Value)[t]?) (first|(simp[go_sem];done)|(simp[go_sem, *];done)|go_keep)
     (first
      | (go_at_call 261;refine (HC.out _ hbd).mono ?_;rintro e W ⟨v,F',rfl,n1,n2,n3,n4⟩;have HN:=ae (aP n1 (aP n2 (aP n3 n4)));have cW:=(HK.out W n2).1.1;have gW:=fun t=>aj (HK.out W n2).1.2 t;clear n1 n2 n3 n4)
      | (go_at_call 36;refine (HS.out _ _ HN.out.2.1 HN.out.2.2.2).mono ?_;rintro e W2 ⟨⟨v2,rfl⟩,hB⟩;have HB:=ae hB;have hz:=(HK.out W HN.out.2.1).2 _ _ hB;have cZ:=hz.1;have gZ:=fun t=>aj hz.2 t;clear hB hz))
    all_goals (
     obtain⟨F9,q1,q2,q3⟩:=IX.out.sends j hj ((c.bj j).take m.dst m).1 F' _ (by rw[fs];exact HN.out.1) HN.out.2.1 HN.out.2.2.1 (AN _ _ _) (AZ _ _ _) HB.out
     have HQ:=ae (aP q1 (aP q2 q3));clear q1 q2 q3;go_wp2_with fail;refine (km.out a1 a2 d1 d2 _ F9 _ HQ.out.1 (by rw[show ({ c.dE j ((c.bj j).take m.dst m).1 with aE:=iS c.aE ((c.bj j).take m.dst m).2 }:aq).told=c.told from (vi c j _).2.1];exact ht)).mono ?_
     rintro e W3 ⟨⟨v3,rfl⟩,hC⟩;rw[xO hd3] at hC;have oQ:=ae hC;clear hC;go_wp2_with fail;go_end0;rw[H.out,hA];exact⟨⟨_,rfl⟩,bW.trans ((Moved.refl w F).below hbX) (fun _ e=>.inl e) (bW.trans HQ.out.2.1 HQ.out.2.2 oQ.out)⟩)
   ·rw[k1] at c2 hm HK
    rw[k2] at hm HC;go_wp2_with fail;refine (HF.out X hbX).mono ?_
    rintro e W9 ⟨rfl,rfl⟩;go_wp2_with fail;have hbd:=(ax W9.heap.size W9).drew;go_region_held3 (fun w'=>w'.cell? ⟨gs,j*3+2,none⟩=some (.iface 99 (.pointer (some ⟨b j,0,none⟩)))/\∀ t,w'.cell? ⟨Y.heap.size,t,none⟩=(#[.int .i64 m.kind,.int .i64 m.src,.int .i64 m.dst,.int .i64 m.ah,.int .i64 m.ak,.int .i64 m.aO,.int .i64 m.pos,.int .i64 m.value,.slice a1 m.af.length d1,.slice a2 m.log.length d2]:Array Value)[t]?) (first|(simp[go_sem];done)|(simp[go_sem, *];done)|go_keep)
     (first
      | (go_at_call 250;refine (HC.out _ hbd).mono ?_;rintro e W ⟨v,F',rfl,n1,n2,n3,n4⟩;have HN:=ae (aP n1 (aP n2 (aP n3 n4)));have cW:=(HK.out W n2).1.1;have gW:=fun t=>aj (HK.out W n2).1.2 t;clear n1 n2 n3 n4)
      | (go_at_call 36;refine (HS.out _ _ HN.out.2.1 HN.out.2.2.2).mono ?_;rintro e W2 ⟨⟨v2,rfl⟩,hB⟩;have HB:=ae hB;have hz:=(HK.out W HN.out.2.1).2 _ _ hB;have cZ:=hz.1;have gZ:=fun t=>aj hz.2 t;clear hB hz))
    all_goals (
     obtain⟨F9,q1,q2,q3⟩:=IX.out.sends j hj ((c.bj j).take m.dst m).1 F' _ (by rw[fs];exact HN.out.1) HN.out.2.1 HN.out.2.2.1 (AN _ _ _) (AZ _ _ _) HB.out
     have HQ:=ae (aP q1 (aP q2 q3));clear q1 q2 q3;go_wp2_with fail;refine (km.out a1 a2 d1 d2 _ F9 _ HQ.out.1 (by rw[show ({ c.dE j ((c.bj j).take m.dst m).1 with aE:=iS c.aE ((c.bj j).take m.dst m).2 }:aq).told=c.told from (vi c j _).2.1];exact ht)).mono ?_
     rintro e W3 ⟨⟨v3,rfl⟩,hC⟩;rw[xO hd3] at hC;have oQ:=ae hC;clear hC;go_wp2_with fail;go_end0;rw[H.out,hA];exact⟨⟨_,rfl⟩,bW.trans ((Moved.refl w F).below hbX) (fun _ e=>.inl e) (bW.trans HQ.out.2.1 HQ.out.2.2 oQ.out)⟩)
   ·rw[k1] at c2 hm HK
    rw[k2] at hm HC;go_wp2_with fail;refine (HF.out X hbX).mono ?_
    rintro e W9 ⟨rfl,rfl⟩;go_wp2_with fail;have hbd:=(ax W9.heap.size W9).drew;go_region_held3 (fun w'=>w'.cell? ⟨gs,j*3+2,none⟩=some (.iface 81 (.pointer (some ⟨b j,0,none⟩)))/\∀ t,w'.cell? ⟨Y.heap.size,t,none⟩=(#[.int .i64 m.kind,.int .i64 m.src,.int .i64 m.dst,.int .i64 m.ah,.int .i64 m.ak,.int .i64 m.aO,.int .i64 m.pos,.int .i64 m.value,.slice a1 m.af.length d1,.slice a2 m.log.length d2]:Array Value)[t]?) (first|(simp[go_sem];done)|(simp[go_sem, *];done)|go_keep)
     (first
      | (go_at_call 239;refine (HC.out _ hbd).mono ?_;rintro e W ⟨v,F',rfl,n1,n2,n3,n4⟩;have HN:=ae (aP n1 (aP n2 (aP n3 n4)));have cW:=(HK.out W n2).1.1;have gW:=fun t=>aj (HK.out W n2).1.2 t;clear n1 n2 n3 n4)
      | (go_at_call 36;refine (HS.out _ _ HN.out.2.1 HN.out.2.2.2).mono ?_;rintro e W2 ⟨⟨v2,rfl⟩,hB⟩;have HB:=ae hB;have hz:=(HK.out W HN.out.2.1).2 _ _ hB;have cZ:=hz.1;have gZ:=fun t=>aj hz.2 t;clear hB hz))
    all_goals (
     obtain⟨F9,q1,q2,q3⟩:=IX.out.sends j hj ((c.bj j).take m.dst m).1 F' _ (by rw[fs];exact HN.out.1) HN.out.2.1 HN.out.2.2.1 (AN _ _ _) (AZ _ _ _) HB.out
     have HQ:=ae (aP q1 (aP q2 q3));clear q1 q2 q3;go_wp2_with fail;refine (km.out a1 a2 d1 d2 _ F9 _ HQ.out.1 (by rw[show ({ c.dE j ((c.bj j).take m.dst m).1 with aE:=iS c.aE ((c.bj j).take m.dst m).2 }:aq).told=c.told from (vi c j _).2.1];exact ht)).mono ?_
     rintro e W3 ⟨⟨v3,rfl⟩,hC⟩;rw[xO hd3] at hC;have oQ:=ae hC;clear hC;go_wp2_with fail;go_end0;rw[H.out,hA];exact⟨⟨_,rfl⟩,bW.trans ((Moved.refl w F).below hbX) (fun _ e=>.inl e) (bW.trans HQ.out.2.1 HQ.out.2.2 oQ.out)⟩)
  ·obtain⟨en,hen,hfi⟩:=Mm (gs:=gs) hup
   rw[hfi] at HF;have hA:=Kp hup hg.aE;go_wp2_with fail;refine (HF.out X hbX).mono ?_
   rintro e W ⟨rfl,rfl⟩;go_wp2_with fail;refine (km.out a1 a2 d1 d2 _ F c ⟨gs,cap,b,Fn,vr,va,vm,vb,vt,IX.out⟩ ht).mono ?_
   rintro e W3 ⟨⟨v3,rfl⟩,hC⟩;have oQ:=ae hC;clear hC;go_wp2_with fail;go_end0;rw[H.out,hA];exact⟨⟨_,rfl⟩,bW.trans ((Moved.refl w F).below hbX) (fun _ e=>.inl e) oQ.out⟩
theorem D6 (hg:Good c E g){f:List UInt8 × Bool}(hf:f∈c.aE):f.1.length<=100000:=by
 obtain⟨m,hm,h2⟩:=hg.frames f hf;have hl:m.frame.length<=1000:=by
  have h5:=hm.1.lf hg.nodes.n5;have mi:=hm.1.log.1;unfold aK.frame frame;rw[bG,sr,rX];have:m.head.length=7:=rfl;omega
 rcases h2 with q|⟨_,_,q⟩
 ·rw[q];omega
 ·omega
theorem Lt (d:Int)(h:dM w F x c)(hg:Good c E g)(ht:c.told.length<=2999999999999) :
  Calls prog 31 #[x,.int .i64 d] w fun r w'=>r=.returned (.int .i64 (c.gI d).2)/\bW w F x (c.gI d).1 w':=by
 have HA:=ae h;obtain⟨gs,cap,b,Fn,vr,va,vm,vb,vt,h⟩:=h;have hf:=yY x _ vr va vm vb vt c.aE d w h.aE;by_cases hh:c.kT d
 ·have e:decide (0<=d/\d<(c.aE.length:Int))=true:=eR hh
  rw[e] at hf;have hd:d=((d.toNat:Nat):Int):=by have:=hh.1;omega
  have hfm:=wA hh;have H:Hid (c.gI d=(pK (c.gone d) (c.dX d).1,0)):=ae (by
   unfold aq.gI pK;rw[if_pos hh];cases lN (c.dX d).1<;>rfl)
  have HT:=ae (C8 x _ vr va vm vb vt c.aE d.toNat w h.aE (by have:=hh.1;have:=hh.2;omega) hg.aE)
  have hg2:=hg.gone d;have HR:Hid (∀ W F',dM W F' x (c.gone d)->Calls prog 63 #[x,.agg #[.string (bs (c.dX d).1),.bool (c.dX d).2]] W fun r w'=>(∃ v,r=.returned v)/\bW W F' x (pK (c.gone d) (c.dX d).1) w'):=ae fun W F' hA=>Kn (c.dX d).1 (c.dX d).2 (D6 hg hfm) hA hg2 ht (fun m hm=>hg.msg hfm hm);have HI:=ae h;rw[<- hd] at HT;have hfr:(c.aE.getD d.toNat ([],false))=c.dX d:=rfl;rw[hfr] at HT;have hgo:({ c with aE:=c.aE.eraseIdx d.toNat }:aq)=c.gone d:=rfl
  clear h e hd hfr;generalize c.dX d=fr at *;go_enter func31,ntmps31;go_wp2_with fail;refine hf.mono ?_
  rintro e w1 ⟨rfl,rfl⟩;clear hf;go_wp2_with fail;refine HT.out.mono ?_
  rintro e W ⟨rfl,hB⟩;obtain⟨F1,q1,q2,q3⟩:=HI.out.wa _ hB;rw[hgo] at q1;have HQ:=ae (aP q1 (aP q2 q3));clear hB q1 q2 q3;go_wp2_with fail;refine (HR.out W F1 HQ.out.1).mono ?_
  rintro e Z ⟨⟨v,rfl⟩,hC⟩;have HC:=ae hC;clear hC;go_wp2_with fail;go_ret;rw[H.out];exact⟨rfl,bW.trans HQ.out.2.1 HQ.out.2.2 HC.out⟩
 ·have e:decide (0<=d/\d<(c.aE.length:Int))=false:=ee hh
  rw[e] at hf;have H:Hid (c.gI d=(c,8)):=ae (by unfold aq.gI;rw[if_neg hh])
  clear h e;go_enter func31,ntmps31;go_wp2_with fail;refine hf.mono ?_
  rintro e w1 ⟨rfl,rfl⟩;clear hf;go_wp2_with fail;go_ret;rw[H.out];exact⟨rfl,bW.still HA.out (ax _ _)⟩
theorem Ln {xx:Nat}(d:Int)(x:aH)(h:dM w F xx c)(hg:Good c E g) :
  Calls prog 28 #[xx,.int .i64 d,.agg #[x.client,x.seq,x.kind,x.key,x.value]] w fun r w'=>r=.returned (.int .i64 (c.ask d x).2)/\bW w F xx (c.ask d x).1 w':=by
 have HA:=ae h;obtain⟨gs,cap,b,Fn,vr,va,vm,vb,vt,h⟩:=h;obtain⟨ar,cr,dp⟩:=aM h.rr;subst dp;have HI:=ae h;have hxl:xx<w.heap.size:=h.lt xx (h.dv xx (.inl rfl));have hx1:¬ xx=w.heap.size:=by omega
 have hx2:¬ w.heap.size=xx:=by omega
 have HP:Hid (∀ W,ai w W->Calls prog 59 #[.slice ar c.aD.length cr,(),.int .i64 d] W fun e w'=>e=.returned (if 0<=d/\d<0+(c.aD.length:Int) then .tuple #[.pointer (some ⟨b (0+(d-0).toNat),0,none⟩),.bool true] else .tuple #[.pointer none,.bool false])/\w'=W):=ae fun W hb=>Bm _ b 0 c.aD.length 0 d W (h.below hb).rr (by have:=h.n5;omega) (by omega)
 have HE:=fun W=>ae (Po x W);clear h;obtain⟨X,hX,hbX,hM⟩:=tN w x;have c1:=aj (HI.out.below hbX).aE.blk 1;have gM:=fun j=>aj hM j;have HM:=ae hM;clear hM;by_cases hr:c.cN d
 ·have e0:(if 0<=d/\d<0+(c.aD.length:Int) then Value.tuple #[.pointer (some ⟨b (0+(d-0).toNat),0,none⟩),.bool true] else .tuple #[.pointer none,.bool false])=.tuple #[.pointer (some ⟨b (0+(d-0).toNat),0,none⟩),.bool true]:=if_pos (by have:=hr.1;have:=hr.2;omega)
  rw[e0] at HP;clear e0;cases hok:x.ok with
  | false =>
   have H:Hid (c.ask d x=(c,6)):=ae (by unfold aq.ask;rw[if_neg (by simpa using hr),if_pos hok])
   rw[hok] at HE;go_enter func28,ntmps28;go_upto_region 1 with fail
   go_wp2_with fail;refine (HP.out X hbX).mono ?_
   rintro e W ⟨rfl,rfl⟩;go_wp2_with fail;refine (HE _).out.mono ?_
   rintro e W2 ⟨rfl,hb2⟩;clear gM c1;go_wp2_with fail;go_ret;rw[H.out];exact⟨rfl,bW.still HA.out (hbX.trans (hb2.mono hbX.size))⟩
  | true =>
   have H:Hid (c.ask d x=({ c with aE:=iS c.aE [{ kind:=1,src:=300+x.client,dst:=d,log:=[x] }] },0)):=ae (by unfold aq.ask;rw[if_neg (by simpa using hr),if_neg (by rw[hok];simp)];rfl)
   rw[hok] at HE;have hcl:=sP hok;have hwr:IntKind.i64.wrap (300+x.client)=300+x.client:=by rw[dV];omega
   have HS:Hid (∀ Y,ai w Y->Y.heap[w.heap.size]?=some (.cells #[x.client,x.seq,x.kind,x.key,x.value] 42)->Calls prog 36 #[.pointer (some ⟨xx,4,none⟩),.slice (some ⟨Y.heap.size+1,0,none⟩) 1 1] (((Y.alloc (.cells #[x.client,x.seq,x.kind,x.key,x.value] 42)).alloc (.cells #[.int .i64 1,.int .i64 (300+x.client),.int .i64 d,(),(),(),(),(),true,.slice (some Y.heap.size) 1 1] 134)).drew) fun e w'=>(∃ v,e=.returned v)/\bW w F xx { c with aE:=iS c.aE [{ kind:=1,src:=300+x.client,dst:=d,log:=[x] }] } w'/\w'.heap[w.heap.size]?=some (.cells #[x.client,x.seq,x.kind,x.key,x.value] 42)):=ae fun Y bt hbx=>by
    have rf:=(((bt.alloc bt.size (.cells #[x.client,x.seq,x.kind,x.key,x.value] 42)).alloc (by have:=bt.size;simp;omega) (.cells #[.int .i64 1,.int .i64 (300+x.client),.int .i64 d,(),(),(),(),(),true,.slice (some Y.heap.size) 1 1] 134))).drew
    have bR:bw (((Y.alloc (.cells #[x.client,x.seq,x.kind,x.key,x.value] 42)).alloc (.cells #[.int .i64 1,.int .i64 (300+x.client),.int .i64 d,(),(),(),(),(),true,.slice (some Y.heap.size) 1 1] 134)).drew) (.slice (some Y.heap.size) 1 1) [x]:=by
     refine⟨rfl,.inr ⟨Y.heap.size,1,#[.int .i64 x.client,.int .i64 x.seq,.int .i64 x.kind,.int .i64 x.key,.int .i64 x.value],rfl,bl _, ?_,aG _,by decide,rfl,rfl⟩⟩
     exact (j6 _ _ _ (by simp)).trans (hnw _ _)
    have hms:a_ _ 0 (.slice (some ⟨Y.heap.size+1,0,none⟩) 1 1) [{ kind:=1,src:=300+x.client,dst:=d,log:=[x] }]:=a_.one { kind:=1,src:=300+x.client,dst:=d,log:=[x] } (.slice none 0 0) (.slice (some Y.heap.size) 1 1) (kX _ _ _) (bl _) (bE _ _ _ _) bR;have mU:∀ m∈[({ kind:=1,src:=300+x.client,dst:=d,log:=[x] }:aK)],m.ok=true:=by
     intro m hm;rw[dg] at hm;subst hm;obtain⟨d0,d1,_⟩:=rQ hg.nodes hr;have hwf:cU c.aD.length E { kind:=1,src:=300+x.client,dst:=d,log:=[x] }:=xH hok hg.nodes.E0 (by omega) ⟨d0,d1⟩
     exact hwf.ok hg.nodes.n5 hg.nodes.jM
    refine (wb xx _ _ va vm vb vt c.aE 0 _ _ _ (HI.out.below rf).aE hg.aE hms mU (by simp)).mono ?_
    rintro e w' ⟨h1,hB⟩;refine⟨h1,bW.trans ((Moved.refl w F).below rf) (fun _ e=>.inl e) ((HI.out.below rf).wa _ hB), ?_⟩
    have hbq:(((Y.alloc (.cells #[x.client,x.seq,x.kind,x.key,x.value] 42)).alloc (.cells #[.int .i64 1,.int .i64 (300+x.client),.int .i64 d,(),(),(),(),(),true,.slice (some Y.heap.size) 1 1] 134)).drew).heap[w.heap.size]?=some (.cells #[x.client,x.seq,x.kind,x.key,x.value] 42):=by
     have hlt:=(aQ hbx);exact ((((ax Y.heap.size Y).alloc (aG _) _).alloc (by simp) _).block _ hlt).trans hbx
    obtain⟨iT,_,bI,_⟩:=hB;refine (bI.block _ (aQ hbq) ?_).trans hbq
    rintro (e|e)
    ·exact hx2 e
    ·exact aY hbq (HI.out.below rf).aE.row (by decide) e
   go_enter func28,ntmps28;go_upto_region 1 with fail
   go_wp2_with fail;refine (HP.out X hbX).mono ?_
   rintro e W ⟨rfl,rfl⟩;go_wp2_with fail;refine (HE _).out.mono ?_
   rintro e Y ⟨rfl,hb2⟩;have bt:=hbX.trans (hb2.mono hbX.size);have kx:=(hb2.block _ (aQ HM.out)).trans HM.out;clear gM c1;have g0:=aj kx 0;have g1:=aj kx 1;have g2:=aj kx 2;have g3:=aj kx 3;have g4:=aj kx 4;have ic:=ae kx;clear kx;go_wp2_with fail;go_region_held3 (fun w'=>w'.cell? (w.heap.size,0)=some (.int .i64 x.client)/\w'.cell? (w.heap.size,1)=some (.int .i64 x.seq)/\w'.cell? (w.heap.size,2)=some (.int .i64 x.kind)/\w'.cell? (w.heap.size,3)=some (.int .i64 x.key)/\w'.cell? (w.heap.size,4)=some (.int .i64 x.value)) (first|(refine⟨?_, ?_, ?_, ?_, ?_⟩<;>first|assumption|(simp[go_sem, *];done))|(simp[go_sem];done)|go_keep)
    (first|(go_at_call 36;refine (HS.out Y bt ic.out).mono ?_;rintro e Z ⟨⟨v9,rfl⟩,hC,hz⟩;have oQ:=ae hC;have z0:=aj hz 0;have z1:=aj hz 1;have z2:=aj hz 2;have z3:=aj hz 3;have z4:=aj hz 4;clear hC hz))
   all_goals (
    go_wp2_with fail;go_ret;rw[H.out];exact⟨rfl,oQ.out⟩)
 ·have e0:(if 0<=d/\d<0+(c.aD.length:Int) then Value.tuple #[.pointer (some ⟨b (0+(d-0).toNat),0,none⟩),.bool true] else .tuple #[.pointer none,.bool false])=.tuple #[.pointer none,.bool false]:=if_neg (fun e=>hr ⟨e.1,by omega⟩)
  rw[e0] at HP;have H:Hid (c.ask d x=(c,4)):=ae (by unfold aq.ask;rw[if_pos hr])
  clear e0;go_enter func28,ntmps28;go_upto_region 1 with fail
  go_wp2_with fail;refine (HP.out X hbX).mono ?_
  rintro e W ⟨rfl,rfl⟩;clear gM c1;go_wp2_with fail;go_ret;rw[H.out];exact⟨rfl,bW.still HA.out hbX⟩
end Go.Proofs.YtgieeeeeiggoeaaGreat
