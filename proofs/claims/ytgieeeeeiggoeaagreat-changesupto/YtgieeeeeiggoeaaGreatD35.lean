import Derived.Test.YtgieeeeeiggoeaaGreatD34
set_option maxRecDepth 100000
set_option maxHeartbeats 2000000
namespace Go.Proofs.YtgieeeeeiggoeaaGreat
open Go.RowKit Go.Shelf
open Tryz
variable {c:aq}{g:Gh}{E d own:Int}{m:aK}{cap gs j n x:Nat}{b:Nat->Nat}{Fn:Nat->Nat->Prop}{F:Nat->Prop}{va vb vm vr vt:Value}{W w w':World}
theorem BK {α : Type}(l:List α)(i:Nat)(d : α):l.set i (l.getD i d)=l:=by
 by_cases h:i<l.length
 ·rw[ew,bU h]
  exact List.set_getElem_self h
 ·exact List.set_eq_of_length_le (by omega)
theorem TN (c:aq)(j:Nat):c.dE j (c.bj j)=c:=by
 unfold aq.bj;split
 ·unfold aq.dE aq.fJ aq.bq
  simp only;rw[BK]
 ·split
  ·unfold aq.dE aq.iu aq.acc
   simp only;rw[BK]
  ·unfold aq.dE aq.ej aq.aX
   simp only;rw[BK]
theorem AM (x:bT):x.kin x:=by cases x<;>trivial
theorem eK.sends (h:eK w F x gs cap c b Fn vr va vm vb vt)(j:Nat)(hj:j<c.aD.length+5)(y:bT)(F':Nat->Prop)(l:List (List UInt8 × Bool))
  (hy:eW W F' (b j) (bY c.aD.length j) y) (hM:Moved w W (Fn j)) (hF:∀ k,F' k->Fn j k\/w.heap.size<=k) (rq:(c.bj j).kin y) (hup:y.up=(c.bj j).up)
  (hB:gP W w' x (.slice (some gs) (c.aD.length+5) cap) vr va vm vb vt l):bW w F x { c.dE j y with aE:=l } w':=by
 have h1:=h.node j hj y F' hy hM hF rq hup;have hn:=ta c j y;obtain⟨iT,h2,h3,h4⟩:=h1.C9 l (by rw[hn];exact hB)
 refine bW.trans (F1:=fun k=>F k\/F' k) (hM.wider (fun k e=>h.iC j hj k e)) ?_ ⟨_,⟨gs,cap,b,_,vr,va,vm,iT,vt,h2⟩,h3,h4⟩
 rintro k (e|e)
 ·exact .inl e
 ·exact (hF k e).imp (h.iC j hj k) id
theorem nt.below {b:Nat}{e:Ending}{q:bT × List aK}(hb:ai w W)(h:nt W w' F b own e q):nt w w' F b own e q:=by
 obtain⟨v,F',rfl,h1,h2,h3,h4⟩:=h;have hs:=hb.size;exact⟨v,F',rfl,h1,((Moved.refl w F).below hb).trans h2 (fun k _ e=>e),fun k e=>(h3 k e).imp id (fun e=>by omega),h4.base hs⟩
theorem eK.tG (h:eK w F x gs cap c b Fn vr va vm vb vt)(j:Nat)(hj:j<c.aD.length+5)(hM:Moved w W (Fn j)) :
  jL W x (.slice (some gs) (c.aD.length+5) cap) vr va vm vb vt c.aE/\W.heap[gs]?=w.heap[gs]?:=by
 have hO:∀ k,tz x gs vr va vm vb vt k->W.heap[k]?=w.heap[k]?:=fun k hk=>hM.block k (h.lt k (h.dv k hk)) (fun e=>h.off j hj k e hk);exact⟨⟨(hO x (.inl rfl)).trans h.aE.blk,cG h.aE.row fun k e=>hO k (.inr (.inr (.inr (.inr (.inr (.inl e))))))⟩,hO gs (.inr (.inl rfl))⟩
theorem gP.beside {vs:Value}{l l':List (List UInt8 × Bool)}{cs:Array Value}(hB:jL W x vs vr va vm vb vt l)(h:gP W w' x vs vr va vm vb vt l')(hg:W.heap[gs]?=some (.cells cs 183)):w'.heap[gs]?=some (.cells cs 183):=by
 obtain⟨iT,h1,h2,h3⟩:=h;refine (h2.block gs (aQ hg) ?_).trans hg
 rintro (e|e)
 ·rw[e,hB.blk] at hg
  simp at hg
 ·exact aY hg hB.row (by decide) e
theorem Ux (r:aR)(own:Int)(h:r.log.length<=24):(r.tick own).length<=24:=by
 unfold aR.tick;split
 ·split
  ·unfold aR.c_
   split<;>simp
  ·simp[fc]
   omega
 ·simp
theorem F3 {y:bT}(h:si n E own y):(y.tick own).length<=100:=by
 cases y with
 | bq r =>
  have:=Ux r own (h.bq r rfl).log.1;show (r.tick own).length<=100;omega
 | acc a=>simp[bT.tick]
 | aX s =>
  have h1:=tC (h.aX s rfl).1 h.n5;show (s.asks own).length<=100;unfold aN.asks;rw[fF];have:=List.length_filter_le (fun x => !s.du x) s.all;omega
theorem LC (d:Int)(h:dM w F x c)(hg:Good c E g) :
  Calls prog 73 #[x,.int .i64 d] w fun r w'=>r=.returned (.int .i64 (c.tick d).2)/\bW w F x (c.tick d).1 w':=by
 have HA:=ae h;obtain⟨gs,cap,b,Fn,vr,va,vm,vb,vt,h⟩:=h;have hf:Calls prog 65 #[x,(),.int .i64 d] w fun e w'=>e=.returned (dK c gs true d)/\w'=w:=tQ w F x gs cap c b Fn vr va vm vb vt true d h;have hu:=lQ c d;cases hp:dD c.aD.length d with
 | none =>
  have e:dK c gs true d=.tuple #[.pointer none,.int .i64 4]:=by unfold dK;rw[hp]
  have H:Hid (c.tick d=(c,4)):=ae (by unfold aq.tick;rw[hu,hp];rfl)
  rw[e] at hf;clear e hu h;go_enter func73,ntmps73;go_wp2_with fail;refine hf.mono ?_
  rintro e w1 ⟨rfl,rfl⟩;clear hf;go_wp2_with fail;go_ret;rw[H.out];exact⟨rfl,bW.still HA.out (ax _ _)⟩
 | some j =>
  by_cases hu2:(c.bj j).up=true
  ·have e:dK c gs true d=.tuple #[.pointer (some ⟨gs,j*3,none⟩),()]:=by unfold dK;rw[hp];simp[hu2]
   have hj:=mW hp;have fs:=my hp;have H:Hid (c.tick d=({ c.dE j (c.bj j) with aE:=iS c.aE ((c.bj j).tick d) },0)):=ae (by
    unfold aq.tick;rw[hu,hp];simp only [Option.map_some,hu2];rw[TN,BU hp];rfl)
   have hok:Hid (∀ m∈(c.bj j).tick d,m.ok=true):=ae (by
    rw[<- BU hp];exact fun m hm=>(hg.nodes.gO d m hm).1.ok hg.nodes.n5 hg.nodes.jM)
   have hlen:Hid (((c.bj j).tick d).length<=100):=ae (by
    have:=F3 (rH hg j hj);rw[fs] at this;exact this)
   obtain⟨cs,hcs,hst⟩:=h.iE;have c2:w.cell? ⟨gs,j*3+2,none⟩=some (.iface (fu (c.bj j)) (.pointer (some ⟨b j,0,none⟩))):=(aj hcs (j*3+2)).trans (hst j hj).2.2;rw[e] at hf;clear e hu;have hm:=Q6 (c.bj j) (some ⟨b j,0,none⟩);have HC:Hid (∀ W,ai w W->Calls prog (tc (c.bj j)) #[.pointer (some ⟨b j,0,none⟩)] W fun e w'=>nt w w' (Fn j) (b j) d e (c.bj j,(c.bj j).tick d)):=ae fun W hb=>by
    have hN:eW W (Fn j) (b j) d (c.bj j):=by
     rw[<- fs];exact (h.bj j hj).keep fun k hk=>hb.block k ((h.bj j hj).lt hk)
    exact (Rr c.aD.length E (Fn j) (b j) d (c.bj j) _ hN (fs ▸ rH hg j hj)).mono fun e w' ho=>nt.below hb ho
   have HS:Hid (∀ W v,Moved w W (Fn j)->a_ W w.heap.size v ((c.bj j).tick d)->Calls prog 36 #[.pointer (some ⟨x,4,none⟩),v] W fun e w'=>(∃ v,e=.returned v)/\gP W w' x (.slice (some gs) (c.aD.length+5) cap) vr va vm vb vt (iS c.aE ((c.bj j).tick d))):=ae fun W v hM hv=>wb x _ vr va vm vb vt c.aE _ v _ W (h.tG j hj hM).1 hg.aE hv hok.out (by have:=hlen.out;omega)
   have HK:Hid (∀ W,Moved w W (Fn j)->W.cell? ⟨gs,j*3+2,none⟩=some (.iface (fu (c.bj j)) (.pointer (some ⟨b j,0,none⟩)))/\∀ w' l',gP W w' x (.slice (some gs) (c.aD.length+5) cap) vr va vm vb vt l'->w'.cell? ⟨gs,j*3+2,none⟩=some (.iface (fu (c.bj j)) (.pointer (some ⟨b j,0,none⟩)))):=ae fun W hM=>by
    obtain⟨q1,q2⟩:=h.tG j hj hM;have q3:=q2.trans hcs;exact⟨(aj q3 (j*3+2)).trans (hst j hj).2.2,fun w' l' hB=>(aj (hB.beside q1 q3) (j*3+2)).trans (hst j hj).2.2⟩
   have HI:=ae h;clear h hcs hst;rcases xC (c.bj j) with ⟨k1,_,k2,_⟩|⟨k1,_,k2,_⟩|⟨k1,_,k2,_⟩
   ·rw[k1] at c2 hm HK
    rw[k2] at hm HC;go_enter func73,ntmps73;go_wp2_with fail;refine hf.mono ?_
    rintro e w1 ⟨rfl,rfl⟩;clear hf;go_wp2_with fail;have hbd:=(ax w1.heap.size w1).drew;go_region_held3 (fun w'=>w'.cell? ⟨gs,j*3+2,none⟩=some (.iface 129 (.pointer (some ⟨b j,0,none⟩)))) (first|assumption|(simp[go_sem];done)|(simp[go_sem, *];done)|go_keep)
     (first
      | (go_at_call 262;refine (HC.out _ hbd).mono ?_;rintro e W ⟨v,F',rfl,n1,n2,n3,n4⟩;have HN:=ae (aP n1 (aP n2 (aP n3 n4)));have cW:=(HK.out W n2).1;clear n1 n2 n3 n4)
      | (go_at_call 36;refine (HS.out _ _ HN.out.2.1 HN.out.2.2.2).mono ?_;rintro e W2 ⟨⟨v2,rfl⟩,hB⟩;have HB:=ae hB;have cW2:=(HK.out W HN.out.2.1).2 _ _ hB;clear hB))
    all_goals (
     go_wp2_with fail;go_ret;rw[H.out];exact⟨rfl,HI.out.sends j hj (c.bj j) F' _ (by rw[fs];exact HN.out.1) HN.out.2.1 HN.out.2.2.1 (AM _) rfl HB.out⟩)
   ·rw[k1] at c2 hm HK
    rw[k2] at hm HC;go_enter func73,ntmps73;go_wp2_with fail;refine hf.mono ?_
    rintro e w1 ⟨rfl,rfl⟩;clear hf;go_wp2_with fail;have hbd:=(ax w1.heap.size w1).drew;go_region_held3 (fun w'=>w'.cell? ⟨gs,j*3+2,none⟩=some (.iface 99 (.pointer (some ⟨b j,0,none⟩)))) (first|assumption|(simp[go_sem];done)|(simp[go_sem, *];done)|go_keep)
     (first
      | (go_at_call 251;refine (HC.out _ hbd).mono ?_;rintro e W ⟨v,F',rfl,n1,n2,n3,n4⟩;have HN:=ae (aP n1 (aP n2 (aP n3 n4)));have cW:=(HK.out W n2).1;clear n1 n2 n3 n4)
      | (go_at_call 36;refine (HS.out _ _ HN.out.2.1 HN.out.2.2.2).mono ?_;rintro e W2 ⟨⟨v2,rfl⟩,hB⟩;have HB:=ae hB;have cW2:=(HK.out W HN.out.2.1).2 _ _ hB;clear hB))
    all_goals (
     go_wp2_with fail;go_ret;rw[H.out];exact⟨rfl,HI.out.sends j hj (c.bj j) F' _ (by rw[fs];exact HN.out.1) HN.out.2.1 HN.out.2.2.1 (AM _) rfl HB.out⟩)
   ·rw[k1] at c2 hm HK
    rw[k2] at hm HC;go_enter func73,ntmps73;go_wp2_with fail;refine hf.mono ?_
    rintro e w1 ⟨rfl,rfl⟩;clear hf;go_wp2_with fail;have hbd:=(ax w1.heap.size w1).drew;go_region_held3 (fun w'=>w'.cell? ⟨gs,j*3+2,none⟩=some (.iface 81 (.pointer (some ⟨b j,0,none⟩)))) (first|assumption|(simp[go_sem];done)|(simp[go_sem, *];done)|go_keep)
     (first
      | (go_at_call 125;refine (HC.out _ hbd).mono ?_;rintro e W ⟨v,F',rfl,n1,n2,n3,n4⟩;have HN:=ae (aP n1 (aP n2 (aP n3 n4)));have cW:=(HK.out W n2).1;clear n1 n2 n3 n4)
      | (go_at_call 36;refine (HS.out _ _ HN.out.2.1 HN.out.2.2.2).mono ?_;rintro e W2 ⟨⟨v2,rfl⟩,hB⟩;have HB:=ae hB;have cW2:=(HK.out W HN.out.2.1).2 _ _ hB;clear hB))
    all_goals (
     go_wp2_with fail;go_ret;rw[H.out];exact⟨rfl,HI.out.sends j hj (c.bj j) F' _ (by rw[fs];exact HN.out.1) HN.out.2.1 HN.out.2.2.1 (AM _) rfl HB.out⟩)
  ·have e:dK c gs true d=.tuple #[.pointer none,.int .i64 5]:=by unfold dK;rw[hp];simp[hu2]
   have H:Hid (c.tick d=(c,5)):=ae (by
    have:(c.bj j).up=false:=by simpa using hu2
    unfold aq.tick;rw[hu,hp];simp only [Option.map_some,this])
   rw[e] at hf;clear e hu h;go_enter func73,ntmps73;go_wp2_with fail;refine hf.mono ?_
   rintro e w1 ⟨rfl,rfl⟩;clear hf;go_wp2_with fail;go_ret;rw[H.out];exact⟨rfl,bW.still HA.out (ax _ _)⟩
theorem eK.wa (h:eK w F x gs cap c b Fn vr va vm vb vt)(l:List (List UInt8 × Bool))(hB:gP w w' x (.slice (some gs) (c.aD.length+5) cap) vr va vm vb vt l):bW w F x { c with aE:=l } w':=by
 obtain⟨iT,h2,h3,h4⟩:=h.C9 l hB;exact⟨_,⟨gs,cap,b,_,vr,va,vm,iT,vt,h2⟩,h3,h4⟩
theorem Lv (d:Int)(h:dM w F x c)(hg:Good c E g) :
  Calls prog 78 #[x,.int .i64 d] w fun r w'=>r=.returned (.int .i64 (c.drop d).2)/\bW w F x (c.drop d).1 w':=by
 have HA:=ae h;obtain⟨gs,cap,b,Fn,vr,va,vm,vb,vt,h⟩:=h;have hf:=yY x _ vr va vm vb vt c.aE d w h.aE;by_cases hh:c.kT d
 ·have e:decide (0<=d/\d<(c.aE.length:Int))=true:=eR hh
  rw[e] at hf;have hd:d=((d.toNat:Nat):Int):=by have:=hh.1;omega
  have H:Hid (c.drop d=({ c with aE:=c.aE.eraseIdx d.toNat },0)):=ae (by unfold aq.drop;rw[if_pos hh];rfl)
  have HT:=ae (C8 x _ vr va vm vb vt c.aE d.toNat w h.aE (by have:=hh.1;have:=hh.2;omega) hg.aE)
  have HI:=ae h;rw[<- hd] at HT;clear h e hd;go_enter func78,ntmps78;go_wp2_with fail;refine hf.mono ?_
  rintro e w1 ⟨rfl,rfl⟩;clear hf;go_wp2_with fail;refine HT.out.mono ?_
  rintro e W ⟨rfl,hB⟩;have HB:=ae hB;clear hB;go_wp2_with fail;go_ret;rw[H.out];exact⟨rfl,HI.out.wa _ HB.out⟩
 ·have e:decide (0<=d/\d<(c.aE.length:Int))=false:=ee hh
  rw[e] at hf;have H:Hid (c.drop d=(c,8)):=ae (by unfold aq.drop;rw[if_neg hh])
  clear h e;go_enter func78,ntmps78;go_wp2_with fail;refine hf.mono ?_
  rintro e w1 ⟨rfl,rfl⟩;clear hf;go_wp2_with fail;go_ret;rw[H.out];exact⟨rfl,bW.still HA.out (ax _ _)⟩
theorem DK (c:aq)(hb:c.aE.length<=200)(f:List UInt8 × Bool):(c.aE++[f]).take 200=jE c.aE f:=by
 unfold jE;split
 ·rw[jF (by simp;omega)]
 ·rw[List.take_append_of_le_length (by omega),jF hb]
theorem Lu (d:Int)(h:dM w F x c)(hg:Good c E g) :
  Calls prog 79 #[x,.int .i64 d] w fun r w'=>r=.returned (.int .i64 (c.double d).2)/\bW w F x (c.double d).1 w':=by
 have HA:=ae h;obtain⟨gs,cap,b,Fn,vr,va,vm,vb,vt,h⟩:=h;have hf:=yY x _ vr va vm vb vt c.aE d w h.aE;by_cases hh:c.kT d
 ·have e:decide (0<=d/\d<(c.aE.length:Int))=true:=eR hh
  rw[e] at hf;have hd:d=((d.toNat:Nat):Int):=by have:=hh.1;omega
  have H:Hid (c.double d=({ c with aE:=jE c.aE (c.aE.getD d.toNat ([],false)) },0)):=ae (by unfold aq.double;rw[if_pos hh,DK c hg.aE];rfl)
  have HT:=ae (Ku x _ vr va vm vb vt c.aE d.toNat w h.aE (by have:=hh.1;have:=hh.2;omega) hg.aE)
  have HI:=ae h;rw[<- hd] at HT;clear h e hd;go_enter func79,ntmps79;go_wp2_with fail;refine hf.mono ?_
  rintro e w1 ⟨rfl,rfl⟩;clear hf;go_wp2_with fail;refine HT.out.mono ?_
  rintro e W ⟨⟨v,rfl⟩,hB⟩;have HB:=ae hB;clear hB;go_wp2_with fail;go_ret;rw[H.out];exact⟨rfl,HI.out.wa _ HB.out⟩
 ·have e:decide (0<=d/\d<(c.aE.length:Int))=false:=ee hh
  rw[e] at hf;have H:Hid (c.double d=(c,8)):=ae (by unfold aq.double;rw[if_neg hh])
  clear h e;go_enter func79,ntmps79;go_wp2_with fail;refine hf.mono ?_
  rintro e w1 ⟨rfl,rfl⟩;clear hf;go_wp2_with fail;go_ret;rw[H.out];exact⟨rfl,bW.still HA.out (ax _ _)⟩
theorem Lo (h:dM w F x c)(hg:c.aE.length<=200) :
  Calls prog 61 #[x] w fun r w'=>∃ v,r=.returned v/\w'.ownsRow w.heap.size 9 1 v c.aE.length (nv c.aE)/\ai w w':=by
 obtain⟨gs,cap,b,Fn,vr,va,vm,vb,vt,h⟩:=h;have HL:=ae (Ky x _ vr va vm vb vt c.aE w h.aE hg);clear h;go_enter func61,ntmps61;go_wp2_with fail;refine HL.out.mono ?_
 rintro e W ⟨v,rfl,h1,h2⟩;obtain⟨a9,c9,rfl⟩:=aM h1;have H1:=ae h1;clear h1;go_wp2_with fail;go_ret;exact⟨_,rfl,H1.out,h2⟩
theorem Lm (h:dM w F x c)(hg:c.told.length<=3000000000000) :
  Calls prog 103 #[x] w fun r w'=>∃ v,r=.returned v/\w'.ownsRow w.heap.size 113 3 v c.told.length (aJ (dj c.told))/\ai w w':=by
 obtain⟨gs,cap,b,Fn,vr,va,vm,vb,vt,h⟩:=h;have HC:=ae (Lk vt c.told.length (aJ (dj c.told)) w (oM.cM h.rt) (by rw[fP,CY]) (kE _) hg)
 obtain⟨at',ct,rfl⟩:=aM h.rt;have c5:=aj h.aE.blk 5;clear h;go_enter func103,ntmps103;go_wp2_with fail;refine HC.out.mono ?_
 rintro e W ⟨v,rfl,h1,h2⟩;obtain⟨a9,c9,rfl⟩:=aM h1;have H1:=ae h1;clear h1;go_wp2_with fail;go_ret;exact⟨_,rfl,H1.out,h2⟩
def o_ (L:List UInt8):aK:=⟨(cH L).k,(cH L).f,(cH L).t,(cH L).ep,(cH L).ba,(cH L).vo,(cH L).po,(cH L).va,(cH L).ms,(cH L).es⟩
theorem FV (L:List UInt8):lN L=if (cH L).err=0 then some (o_ L) else none:=rfl
theorem Ty (c:aq)(h:c.aE.length<=200):c.send []=c:=by
 unfold aq.send;rw[List.map_nil,List.append_nil,jF h]
theorem Us (c:aq)(m:aK)(d:Int):(c.tell m).cO d=c.cO d:=by
 unfold aq.tell;split<;>rfl
theorem Ur (c:aq)(m:aK):(c.tell m).aE=c.aE:=by
 unfold aq.tell;split<;>rfl
theorem Kp (h:c.cO m.dst≠some true)(hb:c.aE.length<=200):c.kO m=c.tell m:=by
 unfold aq.kO;rw[Up (by rw[Us];exact h),Ty _ (by rw[Ur];exact hb)]
theorem F7 (hn:n<=5)(hj:j<n+5):bY n j<300:=by
 unfold bY;split
 ·omega
 ·split<;>omega
theorem xO (h:m.dst<300):c.tell m=c:=by
 unfold aq.tell;rw[if_neg (by omega)]
theorem Ko (hn:c.aD.length<=5)(hp:dD c.aD.length m.dst=some j)(hu:(c.bj j).up=true) :
  c.kO m={ c.dE j ((c.bj j).take m.dst m).1 with aE:=iS c.aE ((c.bj j).take m.dst m).2 }:=by
 have hd:m.dst<300:=by rw[<- my hp];exact F7 hn (mW hp)
 unfold aq.kO;rw[xO hd,BS hp hu];unfold aq.send;simp only;rw[(vi c j _).1];rfl
theorem vW (r:aR)(own:Int):(r.c_ own).length<=1:=by
 unfold aR.c_;split<;>simp
theorem Gq (r:aR)(own:Int)(e:aH)(h:r.log.length<=24):(r.put own e).2.length<=50:=by
 unfold aR.put;split
 ·simp
 ·unfold aR.mJ
  rw[bG,fF];have:=vW { r with log:=r.log++[e],aU:=(r.log++[e]).length } own
  simp only [fc,fF,List.length_range,bG,eu,fG] at *;omega
theorem Sn (r:aR)(own:Int)(m:aK)(h:r.log.length<=24):(r.take own m).2.length<=50:=by
 have ha:=vW r own;unfold aR.take;split
 ·split
  ·unfold aR.asked
   split
   ·simp
   ·split
    ·split<;>simp
    ·split
     ·simp
     ·exact Gq r own _ h
  ·simp
 ·split
  ·unfold aR.gL
   split
   ·split
    ·exact Gq r own _ h
    ·split
     ·show (r.c_ own).length<=50;omega
     ·simp
   ·simp
  ·split
   ·unfold aR.jf
    split
    ·have:=vW { r with aU:=m.pos.toNat } own
     show (aR.c_ { r with aU:=m.pos.toNat } own).length<=50
     omega
    ·simp
   ·split
    ·unfold aR.lp
     split<;>simp
    ·split
     ·unfold aR.mC
      simp
     ·simp
theorem JT (a:Acc)(m:aK):(a.take m).2.length<=1:=by
 unfold Acc.take;split
 ·simp
 ·split
  ·split<;>simp
  ·split
   ·split<;>simp
   ·split<;>simp
theorem yU (s:aN)(own:Int):(s.asks own).length<=s.all.length:=by
 unfold aN.asks;rw[fF];exact List.length_filter_le _ _
theorem F0 {y:bT}(h:si n E own y)(hw:∀ s,y=.aX s->∃ E',d_ n E' (s.take m).1):(y.take own m).2.length<=100:=by
 cases y with
 | bq r =>
  have:=Sn r own m (h.bq r rfl).log.1;show (r.take own m).2.length<=100;omega
 | acc a =>
  have:=JT a m;show (a.take m).2.length<=100;omega
 | aX s =>
  obtain⟨E',h1⟩:=hw s rfl;have h2:=tC h1 h.n5;show (s.take m).2.length<=100;have key:(s.take m).2=[]\/∃ o,(s.take m).2=(s.take m).1.asks o:=by
   have hon:∀ s:aN,∀ o,(s.b_ o).2=(s.b_ o).1.asks o:=fun _ _=>rfl;unfold aN.take;split
   ·split
    ·split
     ·exact .inl rfl
     ·exact .inr ⟨_,hon _ _⟩
    ·exact .inr ⟨_,hon _ _⟩
    ·split
     ·exact .inl rfl
     ·split
      ·exact .inr ⟨_,hon _ _⟩
      ·exact .inr ⟨_,hon _ _⟩
    ·split
     ·exact .inl rfl
     ·exact .inr ⟨_,hon _ _⟩
    ·split
     ·exact .inl rfl
     ·exact .inr ⟨_,hon _ _⟩
   ·exact .inl rfl
  rcases key with e|⟨o,e⟩
  ·rw[e];simp
  ·rw[e]
   have:=yU (s.take m).1 o;omega
theorem AZ (y:bT)(own:Int)(m:aK):(y.take own m).1.up=y.up:=by
 cases y with
 | bq r=>exact Hp r own m
 | acc a =>
  show (a.take m).1.up=a.up;unfold Acc.take;split
  ·rfl
  ·split
   ·split<;>rfl
   ·split
    ·split<;>rfl
    ·split
     ·simp only
      split<;>rfl
     ·rfl
 | aX s=>exact FO s m
theorem Pn (n:Int)(w:World):Calls prog 151 #[.int .i64 n] w fun e w'=>e=.returned (.bool (decide (300<=n/\n<=303)))/\w'=w:=by
 by_cases h0:300<=n
 ·have H:Hid (decide (300<=n/\n<=303)=decide (n<=303)):=ae (by simp[h0])
  generalize decide (300<=n/\n<=303)=dd at *;go_enter func151,ntmps151;go_wp2_with fail;go_ret;exact⟨by rw[H.out];first|rfl|simp,rfl⟩
 ·have H:Hid (decide (300<=n/\n<=303)=false):=ae (by simp[h0])
  generalize decide (300<=n/\n<=303)=dd at *;go_enter func151,ntmps151;go_wp2_with fail;go_ret;exact⟨by rw[H.out];first|rfl|simp,rfl⟩
theorem eK.Uz (h:eK w F x gs cap c b Fn vr va vm vb vt)(l:List fY)(nZ:Value)
  (hblk:w'.heap[x]?=some (.cells #[.slice (some gs) (c.aD.length+5) cap,vr,va,vm,vb,nZ] 93)) (hrow:w'.ownsRow 0 113 3 nZ l.length (aJ (dj l))) (hM:Moved w w' (fun k=>k=x\/vt.ownBlock=some k)) (hg:bO w vt nZ) :
  bW w F x { c with told:=l } w':=by
 have hS:∀ k,(k=x\/vt.ownBlock=some k)->F k:=by
  rintro k (e|e)
  ·exact h.dv k (.inl e)
  ·exact h.dv k (.inr (.inr (.inr (.inr (.inr (.inr e))))))
 have hrow2:∀ {base size n:Nat} {e:TypeId} {v:Value} {xs:List Value},w.ownsRow base e size v n xs->e≠113->e≠93->w'.ownsRow base e size v n xs:=by
  intro base size n e v xs hv h1 h2;refine hM.owns hv fun k hk hS => ?_
  rcases hS with e1|e1
  ·exact aY h.aE.blk hv h2 (e1 ▸ hk)
  ·exact bM hv h.rt h1 k hk e1
 have hgs:w'.heap[gs]?=w.heap[gs]?:=by
  refine hM.block gs (h.lt gs (h.dv gs (.inr (.inl rfl)))) ?_
  rintro (e|e)
  ·exact h.apart.1 e.symm
  ·exact h.apart.2 h.rt (by decide) e
 have hnw:∀ k,nZ.ownBlock=some k->F k\/w.heap.size<=k:=fun k e=>(hg k e).imp (fun e2=>hS k (.inr e2)) id;refine⟨fun k=>F k\/nZ.ownBlock=some k,⟨gs,cap,b,Fn,vr,va,vm,vb,nZ,⟨⟨hblk,hrow2 h.aE.row (by decide) (by decide)⟩,h.iE.keep hgs,h.hcap,hrow2 h.rr (by decide) (by decide),hrow2 h.ra (by decide) (by decide),hrow2 h.rm (by decide) (by decide),hrow, ?_,h.sep, ?_, ?_,fun j hj k hk=>.inl (h.iC j hj k hk), ?_,h.n1,h.n5,h.a3,h.m2⟩⟩,hM.wider hS, ?_⟩
 ·intro j hj
  refine (h.bj j hj).keep fun k hk=>hM.block k (h.lt k (h.iC j hj k hk)) ?_
  rintro (e|e)
  ·exact h.off j hj k hk (.inl e)
  ·exact h.off j hj k hk (.inr (.inr (.inr (.inr (.inr (.inr e))))))
 ·intro j hj k hk hO
  rcases hO with e|e|e|e|e|e|e
  ·exact h.off j hj k hk (.inl e)
  ·exact h.off j hj k hk (.inr (.inl e))
  ·exact h.off j hj k hk (.inr (.inr (.inl e)))
  ·exact h.off j hj k hk (.inr (.inr (.inr (.inl e))))
  ·exact h.off j hj k hk (.inr (.inr (.inr (.inr (.inl e)))))
  ·exact h.off j hj k hk (.inr (.inr (.inr (.inr (.inr (.inl e))))))
  ·rcases hg k e with e2|e2
   ·exact h.off j hj k hk (.inr (.inr (.inr (.inr (.inr (.inr e2))))))
   ·have:=h.lt k (h.iC j hj k hk);omega
 ·intro k hO
  rcases hO with e|e|e|e|e|e|e
  ·exact .inl (h.dv k (.inl e))
  ·exact .inl (h.dv k (.inr (.inl e)))
  ·exact .inl (h.dv k (.inr (.inr (.inl e))))
  ·exact .inl (h.dv k (.inr (.inr (.inr (.inl e)))))
  ·exact .inl (h.dv k (.inr (.inr (.inr (.inr (.inl e))))))
  ·exact .inl (h.dv k (.inr (.inr (.inr (.inr (.inr (.inl e)))))))
  ·exact .inr e
 ·rintro k (e|e)
  ·have:=h.lt k e
   have:=hM.size;omega
  ·obtain⟨_,h6,_⟩:=bK hrow e
   exact (aQ h6)
 ·rintro k (e|e)
  ·exact .inl e
  ·exact hnw k e
theorem qu (b:Nat->Nat)(from_ m k:Nat)(h:k<m):(ec b from_ m)[k]?=some (.pointer (some ⟨b (from_+k),0,none⟩)):=by
 unfold ec;rw[fe,List.getElem?_range h]
 rfl
theorem Bm (v:Value)(b:Nat->Nat)(s n:Nat)(f d:Int)(w:World)(h:w.ownsRow 0 129 1 v n (ec b s n))(hn:n<=100)(hf:0<=f/\f<=1000) :
  Calls prog 59 #[v,.int .i64 f,.int .i64 d] w fun e w'=>e=.returned (if f<=d/\d<f+n then .tuple #[.pointer (some ⟨b (s+(d-f).toNat),0,none⟩),.bool true] else .tuple #[.pointer none,.bool false])/\w'=w:=by
 obtain⟨a,c,rfl⟩:=aM h;have hw1:IntKind.i64.wrap (f+(n:Int))=f+(n:Int):=by rw[dV];omega
 by_cases h1:d<f
 ·have H:Hid ((if f<=d/\d<f+n then Value.tuple #[.pointer (some ⟨b (s+(d-f).toNat),0,none⟩),.bool true] else .tuple #[.pointer none,.bool false])=.tuple #[.pointer none,.bool false]):=ae (if_neg (by omega))
  rw[H.out];clear h;go_enter func59,ntmps59;go_wp2_with fail;go_ret2;exact⟨rfl,rfl⟩
 ·by_cases h2:f+(n:Int)<=d
  ·have H:Hid ((if f<=d/\d<f+n then Value.tuple #[.pointer (some ⟨b (s+(d-f).toNat),0,none⟩),.bool true] else .tuple #[.pointer none,.bool false])=.tuple #[.pointer none,.bool false]):=ae (if_neg (by omega))
   rw[H.out];clear h;go_enter func59,ntmps59;go_wp2_with fail;go_ret2;exact⟨rfl,rfl⟩
  ·have H:Hid ((if f<=d/\d<f+n then Value.tuple #[.pointer (some ⟨b (s+(d-f).toNat),0,none⟩),.bool true] else .tuple #[.pointer none,.bool false])=.tuple #[.pointer (some ⟨b (s+(d-f).toNat),0,none⟩),.bool true]):=ae (if_pos (by omega))
   rw[H.out];have hw2:IntKind.i64.wrap (d-f)=((d-f).toNat:Int):=by rw[dV];omega
   have hkl:(d-f).toNat<n:=by omega
   obtain⟨g,cap,hv, -, -⟩:=h.form (by omega)
   cases hv;have ck:w.cell? ⟨g,(d-f).toNat,none⟩=some (.pointer (some ⟨b (s+(d-f).toNat),0,none⟩)):=by
    rw[ev h (d-f).toNat (by omega)]
    exact qu b s n _ hkl
   clear h;generalize (d-f).toNat=k at *;have hk0:(0:Int)<=(k:Int):=by omega
   have hk1:(k:Int)<(n:Int):=by omega
   go_enter func59,ntmps59;go_wp2_with fail;go_ret2;exact⟨rfl,rfl⟩
theorem Gk (v:Value)(b:Nat->Nat)(s n:Nat)(f d:Int)(w:World)(h:w.ownsRow 0 99 1 v n (ec b s n))(hn:n<=100)(hf:0<=f/\f<=1000) :
  Calls prog 38 #[v,.int .i64 f,.int .i64 d] w fun e w'=>e=.returned (if f<=d/\d<f+n then .tuple #[.pointer (some ⟨b (s+(d-f).toNat),0,none⟩),.bool true] else .tuple #[.pointer none,.bool false])/\w'=w:=by
 obtain⟨a,c,rfl⟩:=aM h;have hw1:IntKind.i64.wrap (f+(n:Int))=f+(n:Int):=by rw[dV];omega
 by_cases h1:d<f
 ·have H:Hid ((if f<=d/\d<f+n then Value.tuple #[.pointer (some ⟨b (s+(d-f).toNat),0,none⟩),.bool true] else .tuple #[.pointer none,.bool false])=.tuple #[.pointer none,.bool false]):=ae (if_neg (by omega))
  rw[H.out];clear h;go_enter func38,ntmps38;go_wp2_with fail;go_ret2;exact⟨rfl,rfl⟩
 ·by_cases h2:f+(n:Int)<=d
  ·have H:Hid ((if f<=d/\d<f+n then Value.tuple #[.pointer (some ⟨b (s+(d-f).toNat),0,none⟩),.bool true] else .tuple #[.pointer none,.bool false])=.tuple #[.pointer none,.bool false]):=ae (if_neg (by omega))
   rw[H.out];clear h;go_enter func38,ntmps38;go_wp2_with fail;go_ret2;exact⟨rfl,rfl⟩
  ·have H:Hid ((if f<=d/\d<f+n then Value.tuple #[.pointer (some ⟨b (s+(d-f).toNat),0,none⟩),.bool true] else .tuple #[.pointer none,.bool false])=.tuple #[.pointer (some ⟨b (s+(d-f).toNat),0,none⟩),.bool true]):=ae (if_pos (by omega))
   rw[H.out];have hw2:IntKind.i64.wrap (d-f)=((d-f).toNat:Int):=by rw[dV];omega
   have hkl:(d-f).toNat<n:=by omega
   obtain⟨g,cap,hv, -, -⟩:=h.form (by omega)
   cases hv;have ck:w.cell? ⟨g,(d-f).toNat,none⟩=some (.pointer (some ⟨b (s+(d-f).toNat),0,none⟩)):=by
    rw[ev h (d-f).toNat (by omega)]
    exact qu b s n _ hkl
   clear h;generalize (d-f).toNat=k at *;have hk0:(0:Int)<=(k:Int):=by omega
   have hk1:(k:Int)<(n:Int):=by omega
   go_enter func38,ntmps38;go_wp2_with fail;go_ret2;exact⟨rfl,rfl⟩
theorem RW (v:Value)(b:Nat->Nat)(s n:Nat)(f d:Int)(w:World)(h:w.ownsRow 0 81 1 v n (ec b s n))(hn:n<=100)(hf:0<=f/\f<=1000) :
  Calls prog 32 #[v,.int .i64 f,.int .i64 d] w fun e w'=>e=.returned (if f<=d/\d<f+n then .tuple #[.pointer (some ⟨b (s+(d-f).toNat),0,none⟩),.bool true] else .tuple #[.pointer none,.bool false])/\w'=w:=by
 obtain⟨a,c,rfl⟩:=aM h;have hw1:IntKind.i64.wrap (f+(n:Int))=f+(n:Int):=by rw[dV];omega
 by_cases h1:d<f
 ·have H:Hid ((if f<=d/\d<f+n then Value.tuple #[.pointer (some ⟨b (s+(d-f).toNat),0,none⟩),.bool true] else .tuple #[.pointer none,.bool false])=.tuple #[.pointer none,.bool false]):=ae (if_neg (by omega))
  rw[H.out];clear h;go_enter func32,ntmps32;go_wp2_with fail;go_ret2;exact⟨rfl,rfl⟩
 ·by_cases h2:f+(n:Int)<=d
  ·have H:Hid ((if f<=d/\d<f+n then Value.tuple #[.pointer (some ⟨b (s+(d-f).toNat),0,none⟩),.bool true] else .tuple #[.pointer none,.bool false])=.tuple #[.pointer none,.bool false]):=ae (if_neg (by omega))
   rw[H.out];clear h;go_enter func32,ntmps32;go_wp2_with fail;go_ret2;exact⟨rfl,rfl⟩
  ·have H:Hid ((if f<=d/\d<f+n then Value.tuple #[.pointer (some ⟨b (s+(d-f).toNat),0,none⟩),.bool true] else .tuple #[.pointer none,.bool false])=.tuple #[.pointer (some ⟨b (s+(d-f).toNat),0,none⟩),.bool true]):=ae (if_pos (by omega))
   rw[H.out];have hw2:IntKind.i64.wrap (d-f)=((d-f).toNat:Int):=by rw[dV];omega
   have hkl:(d-f).toNat<n:=by omega
   obtain⟨g,cap,hv, -, -⟩:=h.form (by omega)
   cases hv;have ck:w.cell? ⟨g,(d-f).toNat,none⟩=some (.pointer (some ⟨b (s+(d-f).toNat),0,none⟩)):=by
    rw[ev h (d-f).toNat (by omega)]
    exact qu b s n _ hkl
   clear h;generalize (d-f).toNat=k at *;have hk0:(0:Int)<=(k:Int):=by omega
   have hk1:(k:Int)<(n:Int):=by omega
   go_enter func32,ntmps32;go_wp2_with fail;go_ret2;exact⟨rfl,rfl⟩
theorem kN.below {v:Value}{l:List Int}(h:kN w v l)(hb:ai w W):kN W v l:=⟨h.1.below hb,h.2⟩
theorem Kl (v:Value)(l:List Int)(h:eK w F x gs cap c b Fn vr va vm vb vt)(hv:kN w v l)(hl:l.length<=2000000) :
  Calls prog 35 #[x,v] w fun e w'=>e=.returned (.bool (dq l c.aD.length))/\w'=w:=by
 have hc:=Km v l c.aD.length w hv hl (by have:=h.n5;omega)
 obtain⟨ar,cr,dp⟩:=aM h.rr;subst dp;have c1:=aj h.aE.blk 1;clear h;go_enter func35,ntmps35;go_wp2_with fail;refine hc.mono ?_
 rintro e w1 ⟨rfl,rfl⟩;clear hc;go_wp2_with fail;go_ret;exact⟨rfl,rfl⟩
theorem QO (hn:n<=5)(h:200<=d/\d<202):dD n d=some (n+3+(d-200).toNat):=by
 unfold dD;rw[if_neg (by omega),if_neg (by omega),if_pos h]
theorem JX (hn:n<=5)(h:100<=d/\d<103):dD n d=some (n+(d-100).toNat):=by
 unfold dD;rw[if_neg (by omega),if_pos h]
theorem Tm (h:0<=d/\d<n):dD n d=some d.toNat:=by
 unfold dD;rw[if_pos h]
theorem QN (h:b8 d)(hn:c.aD.length<=5)(hp:dD c.aD.length d=some j):c.bj j=.aX (c.aX d)/\(∀ r,c.dE j (.aX r)=c.ej d r):=by
 unfold b8 at h;rcases oJ hp with ⟨h1,_,_⟩|⟨_,h2,_,_⟩|⟨_,_,_,h4,h5⟩
 ·unfold aq.cN at h1;omega
 ·unfold dC at h2;omega
 ·exact⟨h4,h5⟩
theorem JW (h:dC d)(hn:c.aD.length<=5)(hp:dD c.aD.length d=some j):c.bj j=.acc (c.acc d):=by
 unfold dC at h;rcases oJ hp with ⟨h1,_,_⟩|⟨_,_,h3,_⟩|⟨_,_,h3,_,_⟩
 ·unfold aq.cN at h1;omega
 ·exact h3
 ·unfold b8 at h3;omega
theorem Tl (h:c.cN d)(hp:dD c.aD.length d=some j):c.bj j=.bq (c.bq d):=by
 rcases oJ hp with ⟨_,h2,_⟩|⟨h1,_,_,_⟩|⟨h1,_,_,_,_⟩
 ·exact h2
 ·exact absurd h h1
 ·exact absurd h h1
theorem Lr (d:Int)(v:Value)(l:List Int)(h:dM w F x c)(hg:Good c E g)(hv:kN w v l)(hl:l.length<=2000000)(OF:∀ k,v.ownBlock=some k->¬ F k) :
  Calls prog 18 #[x,.int .i64 d,v] w fun r w'=>r=.returned (.int .i64 (c.change d l).2)/\bW w F x (c.change d l).1 w':=by
 have HA:=ae h;obtain⟨gs,cap,b,Fn,vr,va,vm,vb,vt,h⟩:=h;obtain⟨am,cm,dG⟩:=aM h.rm;subst dG;have nJ:=h.n5;have hf:=RW _ b (c.aD.length+3) 2 200 d w h.rm (by omega) (by omega)
 have c3:=aj h.aE.blk 3;have HU:=ae (AK w F x gs cap c b Fn vr va _ vb vt d h);have HR:=ae (Kl v l h hv hl);have HI:=ae h;by_cases hd:b8 d
 ·have e0:(if 200<=d/\d<200+((2:Nat):Int) then Value.tuple #[.pointer (some ⟨b (c.aD.length+3+(d-200).toNat),0,none⟩),.bool true] else .tuple #[.pointer none,.bool false])=.tuple #[.pointer (some ⟨b (c.aD.length+3+(d-200).toNat),0,none⟩),.bool true]:=if_pos (by unfold b8 at hd;omega)
  rw[e0] at hf;clear e0;have hp:=QO nJ hd;generalize c.aD.length+3+(d-200).toNat=j at *;have hj:=mW hp;have fs:=my hp;obtain⟨kD,hset⟩:=QN hd nJ hp;have hN:=h.bj j hj;rw[kD,fs] at hN;obtain⟨⟨p,hrel,hat⟩,hdn⟩:=hN;have HB:=ae (QP (Fn j) (b j) d p w hat);have hup:c.cO d=some (c.aX d).up:=by rw[lQ,hp];simp[kD,bT.up]
  rw[hup] at HU;have Ez:p.begun=(c.aX d).begun:=hrel.begun;cases hu:(c.aX d).up with
  | false =>
   have H:Hid (c.change d l=(c,5)):=ae (by unfold aq.change;rw[if_neg (by simpa using hd),if_pos (.inl hu)])
   have e1:decide (some (c.aX d).up=some true)=false:=by rw[hu];rfl
   rw[e1] at HU;clear e1 h hat;go_enter func18,ntmps18;go_wp2_with fail;refine hf.mono ?_
   rintro e w1 ⟨rfl,rfl⟩;clear hf;go_wp2_with fail;refine HU.out.mono ?_
   rintro e w1 ⟨rfl,rfl⟩;go_wp2_with fail;go_ret;rw[H.out];exact⟨rfl,bW.still HA.out (ax _ _)⟩
  | true =>
   have e1:decide (some (c.aX d).up=some true)=true:=by rw[hu];rfl
   rw[e1] at HU;clear e1;by_cases hb:1000<=(c.aX d).begun
   ·have H:Hid (c.change d l=(c,5)):=ae (by unfold aq.change;rw[if_neg (by simpa using hd),if_pos (.inr hb)])
    have e1:decide (p.begun<1000)=false:=by rw[Ez];simp;omega
    rw[e1] at HB;clear e1 h hat;go_enter func18,ntmps18;go_wp2_with fail;refine hf.mono ?_
    rintro e w1 ⟨rfl,rfl⟩;clear hf;go_wp2_with fail;refine HU.out.mono ?_
    rintro e w1 ⟨rfl,rfl⟩;go_wp2_with fail;refine HB.out.mono ?_
    rintro e w1 ⟨rfl,rfl⟩;go_wp2_with fail;go_ret;rw[H.out];exact⟨rfl,bW.still HA.out (ax _ _)⟩
   ·have e1:decide (p.begun<1000)=true:=by rw[Ez];simp;omega
    rw[e1] at HB;clear e1;cases hmem:dq l c.aD.length with
    | false =>
     have H:Hid (c.change d l=(c,7)):=ae (by unfold aq.change;rw[if_neg (by simpa using hd),if_neg (by rw[hu];simp;omega),if_pos hmem])
     rw[hmem] at HR;clear h hat;go_enter func18,ntmps18;go_wp2_with fail;refine hf.mono ?_
     rintro e w1 ⟨rfl,rfl⟩;clear hf;go_wp2_with fail;refine HU.out.mono ?_
     rintro e w1 ⟨rfl,rfl⟩;go_wp2_with fail;refine HB.out.mono ?_
     rintro e w1 ⟨rfl,rfl⟩;go_wp2_with fail;refine HR.out.mono ?_
     rintro e w1 ⟨rfl,rfl⟩;go_wp2_with fail;go_ret;rw[H.out];exact⟨rfl,bW.still HA.out (ax _ _)⟩
    | true =>
     have H:Hid (c.change d l=({ c.dE j (.aX ((c.aX d).begin d l)) with aE:=iS c.aE (((c.aX d).begin d l).asks d) },0)):=ae (by
      unfold aq.change;rw[if_neg (by simpa using hd),if_neg (by rw[hu];simp;omega),if_neg (by rw[hmem];simp),hset]
      rfl)
     rw[hmem] at HR;have hwf:=AU (n:=c.aD.length) (E:=E) (own:=d) (s:=c.aX d) (l:=l) (by omega) hg.nodes.E0 hd hmem
     have hok:∀ z∈((c.aX d).begin d l).asks d,z.ok=true:=fun z hz=>(tD hwf hg.nodes.n5 hg.nodes.E0 (by unfold b8 at hd;omega) z hz).ok hg.nodes.n5 hg.nodes.jM
     have hlen:(((c.aX d).begin d l).asks d).length<=100:=by
      have q1:=yU ((c.aX d).begin d l) d;have q2:=tC hwf hg.nodes.n5;omega
     have hl5:l.length<=5:=by have:=e_ hmem;omega
     have EC:=hrel.begin l hmem nJ;have HC:Hid (∀ W,ai w W->Calls prog 37 #[.pointer (some ⟨b j,0,none⟩),v] W fun e w'=>nt w w' (Fn j) (b j) d e (.aX ((c.aX d).begin d l),((c.aX d).begin d l).asks d)):=ae fun W hbW=>by
      refine (Qy (Fn j) (b j) d p v l W (hat.below hbW) (by omega) (by unfold b8 at hd;omega) (hv.1.below hbW) (fun k e e2=>OF k e (h.iC j hj k (by rw[e2];obtain⟨_,_,_,_,q⟩:=hat;exact q.fb))) hl5).mono ?_
      rintro e w' ⟨v9,F',rfl,n1,n2,n3,n4⟩;rw[EC.2] at n4;exact nt.below hbW ⟨v9,F',rfl,⟨⟨_,EC.1,n1⟩,fun e=>by simp[aN.begin] at e⟩,n2,n3,n4⟩
     have HS:Hid (∀ W v,Moved w W (Fn j)->a_ W w.heap.size v (((c.aX d).begin d l).asks d)->Calls prog 36 #[.pointer (some ⟨x,4,none⟩),v] W fun e w'=>(∃ v,e=.returned v)/\gP W w' x (.slice (some gs) (c.aD.length+5) cap) vr va (.slice am 2 cm) vb vt (iS c.aE (((c.aX d).begin d l).asks d))):=ae fun W v hM hv=>wb x _ vr va _ vb vt c.aE _ v _ W (h.tG j hj hM).1 hg.aE hv hok (by omega)
     clear h hat;obtain⟨aa,ca,hsh, -⟩:=hv.2;subst hsh;clear hv;go_enter func18,ntmps18;go_wp2_with fail;refine hf.mono ?_
     rintro e w1 ⟨rfl,rfl⟩;clear hf;go_wp2_with fail;refine HU.out.mono ?_
     rintro e w1 ⟨rfl,rfl⟩;go_wp2_with fail;refine HB.out.mono ?_
     rintro e w1 ⟨rfl,rfl⟩;go_wp2_with fail;refine HR.out.mono ?_
     rintro e w1 ⟨rfl,rfl⟩;clear c3;go_wp2_with fail;have hbd:=(ax w1.heap.size w1).drew;go_region_held3 (fun _=>True) (trivial)
      (first
       | (go_at_call 37;refine (HC.out _ hbd).mono ?_;rintro e W ⟨v9,F',rfl,n1,n2,n3,n4⟩;have HN:=ae (aP n1 (aP n2 (aP n3 n4)));clear n1 n2 n3 n4)
       | (go_at_call 36;refine (HS.out _ _ HN.out.2.1 HN.out.2.2.2).mono ?_;rintro e W2 ⟨⟨v2,rfl⟩,hB⟩;have Io:=ae hB;clear hB))
     all_goals (
      go_wp2_with fail;go_ret;rw[H.out];exact⟨rfl,HI.out.sends j hj (.aX ((c.aX d).begin d l)) F' _ (by rw[fs];exact HN.out.1) HN.out.2.1 HN.out.2.2.1 (by rw[kD];trivial) (by rw[kD];exact hu.symm) Io.out⟩)
 ·have e0:(if 200<=d/\d<200+((2:Nat):Int) then Value.tuple #[.pointer (some ⟨b (c.aD.length+3+(d-200).toNat),0,none⟩),.bool true] else .tuple #[.pointer none,.bool false])=.tuple #[.pointer none,.bool false]:=if_neg (fun e=>hd ⟨e.1,by omega⟩)
  rw[e0] at hf;have H:Hid (c.change d l=(c,4)):=ae (by unfold aq.change;rw[if_pos hd])
  clear e0 h;go_enter func18,ntmps18;go_wp2_with fail;refine hf.mono ?_
  rintro e w1 ⟨rfl,rfl⟩;clear hf;go_wp2_with fail;go_ret;rw[H.out];exact⟨rfl,bW.still HA.out (ax _ _)⟩
theorem Lz (d:Int)(h:dM w F x c)(hg:Good c E g)(hd:c.cN d) :
  Calls prog 54 #[x,.int .i64 d] w fun r w'=>∃ vm vl,r=.returned (.tuple #[.agg #[.bool (c.bq d).up,.int .i64 (c.bq d).ah,.int .i64 (c.bq d).lock,.int .i64 ((c.bq d).aU:Int),vm,vl],()]) /\
   w'.ownsRow w.heap.size 3 1 vm (c.bq d).af.length (aJ (c.bq d).af)/\w'.ownsRow w.heap.size 42 5 vl (c.bq d).log.length (aJ (bk (c.bq d).log))/\ai w w':=by
 obtain⟨gs,cap,b,Fn,vr,va,vm,vb,vt,h⟩:=h;obtain⟨ar,cr,dp⟩:=aM h.rr;subst dp;have hp:=Tm hd;have hj:=mW hp;have fs:=my hp;have kD:=Tl hd hp;have hup:c.cO d=some (c.bq d).up:=by rw[lQ,hp];simp[kD,bT.up]
 have e0:(if 0<=d/\d<0+(c.aD.length:Int) then Value.tuple #[.pointer (some ⟨b (0+(d-0).toNat),0,none⟩),.bool true] else .tuple #[.pointer none,.bool false])=.tuple #[.pointer (some ⟨b d.toNat,0,none⟩),.bool true]:=by
  rw[if_pos (by have:=hd.1;have:=hd.2;omega)]
  simp
 have HP:Hid (∀ W,ai w W->Calls prog 59 #[.slice ar c.aD.length cr,(),.int .i64 d] W fun e w'=>e=.returned (.tuple #[.pointer (some ⟨b d.toNat,0,none⟩),.bool true])/\w'=W):=ae fun W hb=>by
  have:=Bm _ b 0 c.aD.length 0 d W (h.below hb).rr (by have:=h.n5;omega) (by omega)
  rw[e0] at this;exact this
 have HU:Hid (∀ W,ai w W->Calls prog 33 #[x,.int .i64 d] W fun e w'=>e=.returned (.bool (c.bq d).up)/\w'=W):=ae fun W hb=>by
  have:=AK W F x gs cap c b Fn _ va vm vb vt d (h.below hb);rw[hup,show decide (some (c.bq d).up=some true)=(c.bq d).up by cases (c.bq d).up<;>rfl] at this
  exact this
 have hN:=h.bj _ hj;rw[kD,fs] at hN;obtain⟨⟨wm,wl,hat,hF,hlt⟩,hdn⟩:=hN;have hwf:=hg.nodes.R d hd;have HS:Hid (∀ W,ai w W->Calls prog 111 #[.pointer (some ⟨b d.toNat,0,none⟩)] W fun e w'=>∃ a c1 a' c',e=.returned (.agg #[.bool false,.int .i64 (c.bq d).ah,.int .i64 (c.bq d).lock,.int .i64 ((c.bq d).aU:Int),.slice a (c.bq d).af.length c1,.slice a' (c.bq d).log.length c']) /\
   w'.ownsRow W.heap.size 3 1 (.slice a (c.bq d).af.length c1) (c.bq d).af.length (aJ (c.bq d).af)/\w'.ownsRow W.heap.size 42 5 (.slice a' (c.bq d).log.length c') (c.bq d).log.length (aJ (bk (c.bq d).log))/\ai W w'):=ae fun W hb=>Tg _ d (c.bq d) wm wl W (hat.below hb) (hwf.ok h.n5)
 have HI:=ae h;have hxl:x<w.heap.size:=h.lt x (h.dv x (.inl rfl));have hx1:¬ x=w.heap.size:=by omega
 have hx2:¬ w.heap.size=x:=by omega
 clear h hat hwf kD hup e0;generalize c.bq d=r at *;go_enter func54,ntmps54;go_upto_region 1 with fail
 obtain⟨X,hX,hbX,hM⟩:=ch w #[.bool false,(),(),(),true,true] 46;rw[hX];clear hX;have c1:=aj (HI.out.below hbX).aE.blk 1;have HM:=ae hM;clear hM;go_wp2_with fail;refine (HP.out X hbX).mono ?_
 rintro e W ⟨rfl,rfl⟩;clear c1;go_wp2_with fail;refine (HS.out W hbX).mono ?_
 rintro e Y ⟨sa,sc,sa',BC,rfl,o1,o2,bt⟩;have mQ:=hbX.trans (bt.mono hbX.size);have ic:=ae ((bt.block _ (aQ HM.out)).trans HM.out);have HO:=ae (aP o1 o2);clear o1 o2;go_upto_region 5 with fail
 obtain⟨Z,hZ,cq,mj⟩:=ch Y #[.bool false,r.ah,r.lock,.int .i64 (r.aU:Int),.slice sa r.af.length sc,.slice sa' r.log.length BC] 46;rw[hZ];clear hZ;have pW:=mQ.trans (cq.mono mQ.size);have pE:=ae ((cq.block _ (aQ ic.out)).trans ic.out);have oh:Hid (Z.ownsRow W.heap.size 3 1 (.slice sa r.af.length sc) r.af.length (aJ r.af)/\Z.ownsRow W.heap.size 42 5 (.slice sa' r.log.length BC) r.log.length (aJ (bk r.log))):=ae ⟨aS HO.out.1 fun k _ hk=>cq.block k hk,aS HO.out.2 fun k _ hk=>cq.block k hk⟩;have hne1:¬ w.heap.size=Y.heap.size:=by have:=(aQ ic.out);omega
 have hne2:¬ Y.heap.size=w.heap.size:=fun e=>hne1 e.symm;have gZ:=fun j=>aj mj j;have fZ:=fun j=>aW mj j;have gW:=fun j=>aj pE.out j;have fW:=fun j=>aW pE.out j;have vG:=ae mj;clear mj;go_wp2_with fail;refine (HU.out Z pW).mono ?_
 rintro e V ⟨rfl,rfl⟩;go_wp2_with fail;have n1:=aY vG.out oh.out.1 (by decide)
 have n2:=aY pE.out oh.out.1 (by decide)
 have n3:=aY vG.out oh.out.2 (by decide)
 have n4:=aY pE.out oh.out.2 (by decide)
 refine dB (v:=.tuple #[.agg #[.bool r.up,r.ah,r.lock,.int .i64 (r.aU:Int),.slice sa r.af.length sc,.slice sa' r.log.length BC],()]) (by simp[results,results54,go_sem,gW]) rfl ?_
 refine⟨_,_,rfl,obs (bu (bu (bu (bu (bu (bu (bu oh.out.1 n1 _) n2 _) n2 _) n2 _) n2 _) n2 _) n2 _) hbX.size,obs (bu (bu (bu (bu (bu (bu (bu oh.out.2 n3 _) n4 _) n4 _) n4 _) n4 _) n4 _) n4 _) hbX.size, ?_⟩
 iterate 6 refine eE ?_ (by exact aG _) _
 exact eE pW (by have:=mQ.size;exact this) _
theorem Lp (d:Int)(h:dM w F x c)(hg:Good c E g)(hd:dC d) :
  Calls prog 20 #[x,.int .i64 d] w fun r w'=>∃ vm,r=.returned (.tuple #[.agg #[.bool (c.acc d).up,.int .i64 (c.acc d).ah,vm],()]) /\
   w'.ownsRow w.heap.size 3 1 vm (c.acc d).af.length (aJ (c.acc d).af)/\ai w w':=by
 obtain⟨gs,cap,b,Fn,vr,va,vm,vb,vt,h⟩:=h;obtain⟨ar,cr,dp⟩:=aM h.ra;subst dp;have hp:=JX h.n5 hd;have hj:=mW hp;have fs:=my hp;have kD:=JW hd h.n5 hp;have hup:c.cO d=some (c.acc d).up:=by rw[lQ,hp];simp[kD,bT.up]
 have e0:(if 100<=d/\d<100+((3:Nat):Int) then Value.tuple #[.pointer (some ⟨b (c.aD.length+(d-100).toNat),0,none⟩),.bool true] else .tuple #[.pointer none,.bool false])=.tuple #[.pointer (some ⟨b (c.aD.length+(d-100).toNat),0,none⟩),.bool true]:=if_pos (by have:=hd.1;have:=hd.2;omega)
 have HP:Hid (∀ W,ai w W->Calls prog 38 #[.slice ar 3 cr,.int .i64 100,.int .i64 d] W fun e w'=>e=.returned (.tuple #[.pointer (some ⟨b (c.aD.length+(d-100).toNat),0,none⟩),.bool true])/\w'=W):=ae fun W hb=>by
  have:=Gk _ b c.aD.length 3 100 d W (h.below hb).ra (by omega) (by omega)
  rw[e0] at this;exact this
 have HU:Hid (∀ W,ai w W->Calls prog 33 #[x,.int .i64 d] W fun e w'=>e=.returned (.bool (c.acc d).up)/\w'=W):=ae fun W hb=>by
  have:=AK W F x gs cap c b Fn vr _ vm vb vt d (h.below hb);rw[hup,show decide (some (c.acc d).up=some true)=(c.acc d).up by cases (c.acc d).up<;>rfl] at this
  exact this
 have hN:=h.bj _ hj;rw[kD,fs] at hN;have hat:=hN;have hwf:=hg.nodes.A d hd;have HS:Hid (∀ W,ai w W->Calls prog 39 #[.pointer (some ⟨b (c.aD.length+(d-100).toNat),0,none⟩)] W fun e w'=>∃ a c1,e=.returned (.agg #[.bool false,.int .i64 (c.acc d).ah,.slice a (c.acc d).af.length c1])/\w'.ownsRow W.heap.size 3 1 (.slice a (c.acc d).af.length c1) (c.acc d).af.length (aJ (c.acc d).af)/\ai W w'):=ae fun W hb=>JL _ _ d (c.acc d) W (by obtain⟨z1,z2,z3,z4⟩:=hat;exact⟨z1,z2,z3,z4.below hb⟩) (hwf.ok h.n5)
 have HI:=ae h;have hxl:x<w.heap.size:=h.lt x (h.dv x (.inl rfl));have hx1:¬ x=w.heap.size:=by omega
 have hx2:¬ w.heap.size=x:=by omega
 clear h hat hwf kD hup e0;generalize c.acc d=r at *;go_enter func20,ntmps20;go_upto_region 1 with fail
 obtain⟨X,hX,hbX,hM⟩:=ch w #[.bool false,(),true] 53;rw[hX];clear hX;have c1:=aj (HI.out.below hbX).aE.blk 2;have HM:=ae hM;clear hM;go_wp2_with fail;refine (HP.out X hbX).mono ?_
 rintro e W ⟨rfl,rfl⟩;clear c1;go_wp2_with fail;refine (HS.out W hbX).mono ?_
 rintro e Y ⟨sa,sc,rfl,o1,bt⟩;have mQ:=hbX.trans (bt.mono hbX.size);have ic:=ae ((bt.block _ (aQ HM.out)).trans HM.out);have HO:=ae o1;clear o1;go_upto_region 5 with fail
 obtain⟨Z,hZ,cq,mj⟩:=ch Y #[.bool false,r.ah,.slice sa r.af.length sc] 53;rw[hZ];clear hZ;have pW:=mQ.trans (cq.mono mQ.size);have pE:=ae ((cq.block _ (aQ ic.out)).trans ic.out);have oh:Hid (Z.ownsRow W.heap.size 3 1 (.slice sa r.af.length sc) r.af.length (aJ r.af)):=ae (aS HO.out fun k _ hk=>cq.block k hk);have hne1:¬ w.heap.size=Y.heap.size:=by have:=(aQ ic.out);omega
 have hne2:¬ Y.heap.size=w.heap.size:=fun e=>hne1 e.symm;have gZ:=fun j=>aj mj j;have fZ:=fun j=>aW mj j;have gW:=fun j=>aj pE.out j;have fW:=fun j=>aW pE.out j;have vG:=ae mj;clear mj;go_wp2_with fail;refine (HU.out Z pW).mono ?_
 rintro e V ⟨rfl,rfl⟩;go_wp2_with fail;have n1:=aY vG.out oh.out (by decide)
 have n2:=aY pE.out oh.out (by decide)
 refine dB (v:=.tuple #[.agg #[.bool r.up,r.ah,.slice sa r.af.length sc],()]) (by simp[results,results20,go_sem,gW]) rfl ?_
 refine⟨_,rfl,obs (bu (bu (bu (bu oh.out n1 _) n2 _) n2 _) n2 _) hbX.size, ?_⟩
 iterate 3 refine eE ?_ (by exact aG _) _
 exact eE pW (by have:=mQ.size;exact this) _
end Go.Proofs.YtgieeeeeiggoeaaGreat
