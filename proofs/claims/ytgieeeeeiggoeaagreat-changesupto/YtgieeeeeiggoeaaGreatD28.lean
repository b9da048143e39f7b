import Derived.Test.YtgieeeeeiggoeaaGreatD26
import Derived.Lib.MinMax
set_option maxRecDepth 100000
set_option maxHeartbeats 1000000
namespace Go.Proofs.YtgieeeeeiggoeaaGreat
open Go.RowKit Go.Shelf
open Tryz
variable {own:Int}{l:List (List UInt8 × Bool)}{xs:List Value}{b base bytes g n size x:Nat}{F:Nat->Prop}{p:bh}{T e t:TypeId}{a0 a1 a2 a3 a4 a5 a6 a7 a8 v va vb vl vm vo vr vs vt vw z:Value}{W w w':World}
theorem kI {ops:Array Oper}{rest:List Oper}{o:Oper}{a:Act}{W:World}{Q:Exit->Act->World->Prop}(hgd:o.guard=none)(s x:Operand)(t:TypeId)
  (hop:o.op=Op.call { callee:=Callee.builtin Builtin.append,args:=#[s,x],argTypes:=#[t,t] }) (v u v':Value) (W':World) (hs:a.eval s=v) (hx:a.eval x=u)
  (hrun:∀ ty,(Builtin.append_ #[t,t] ty #[v,u]).run prog W=.ok v' W') (h:wpList prog ops Q rest (a.put o.dst v') W'):wpList prog ops Q (o :: rest) a W:=by
 refine wpList_plain hgd fun K hK => ?_
 unfold Oper.wp execOp;simp only [hop,resolve,invoke,builtin,Sem.run_bind,Sem.run_pure,Result.andThen_ok,List.map_toArray,List.map_cons,List.map_nil,hs,hx,hrun];exact hK _ _ h
theorem mH.snoc {wr Y W':World}{ws:List gy}(t:gy)(o1 o2:Obj)(hrow:wr.ownsRow base 134 10 v n (ws.flatMap cd))(hls:mH wr ws)(hb:ai wr Y)(hI:bd Y t.2.1 t.1.af)(hL:bw Y t.2.2 t.1.log)(hg:((Y.alloc o1).alloc o2).grownBy W' v.ownBlock):mH W' (ws++[t]):=by
 have E7:Y.ownsRow base 134 10 v n (ws.flatMap cd):=aS hrow fun k _ hk=>hb.block k hk;have key:∀ k,k<Y.heap.size->v.ownBlock≠some k->W'.heap[k]?=Y.heap[k]?:=fun k hk hne=>(hg.block k (by simp;omega) (fun e=>hne e.symm)).trans (((ax Y.heap.size Y).alloc (aG _) o1).alloc (by simp) o2 |>.block k hk)
 have hint:∀ x l,bd Y x l->bd W' x l:=fun x l h=>cG h fun k e=>key k (dL.1 (bK h e).choose_spec.1).1 (fun e2=>bM E7 h (by decide) k e2 e)
 have dy:∀ x l,bw Y x l->bw W' x l:=fun x l h=>cG h fun k e=>key k (dL.1 (bK h e).choose_spec.1).1 (fun e2=>bM E7 h (by decide) k e2 e)
 intro u hu;rcases fE.1 hu with hu|hu
 ·exact⟨hint _ _ (aS (hls u hu).1 fun k _ hk=>hb.block k hk),dy _ _ (aS (hls u hu).2 fun k _ hk=>hb.block k hk)⟩
 ·rw[dg] at hu
  subst hu;exact⟨hint _ _ hI,dy _ _ hL⟩
theorem FP (F:Nat->Prop)(b:Nat)(own:Int)(p:bh)(vw vo vm vl:Value)(w:World)(h:iF w F b own p vw vo vm vl)(ok:l7 p own) :
  Calls prog 125 #[b] w fun e w'=>∃ v,e=.returned v/\a_ w' w.heap.size v (p.asks own)/\ai w w':=by
 have hbl:b<w.heap.size:=h.lt b h.fb;obtain⟨aw,cw,rfl⟩:=aM h.hw;have c3:=aj h.blk 3;have Iq:Hid (∀ W,ai w W->W.cell? (b,0)=some (.int .i64 own)):=ae fun W hb=>aj (h.below hb).blk 0;have HQ:Hid (∀ W,ai w W->Calls prog 159 #[b] W fun e w'=>∃ xm xl,e=.returned (bL (p.question own) xm xl)/\bd w' xm (p.question own).af/\bw w' xl (p.question own).log/\ai W w'):=ae fun W hb=>Sk F b own p _ _ _ _ W (h.below hb) ok;have hI:=bJ.cM h.hw;obtain⟨a',c',hv,hc⟩:=hI;cases hv;have Hc:=ae hc;have AG:=ok.w;have HA:Hid (∀ k,k<p.waits.length->(p.waits.take (k+1)).map (p.oY own)=(p.waits.take k).map (p.oY own)++[{ p.question own with src:=own,dst:=p.waits.getD k 0 }]):=ae fun k hk=>by
  rw[mD p.waits k hk,gw];rfl
 have HE:Hid (p.asks own=(p.waits.take p.waits.length).map (p.oY own)):=ae (by unfold bh.asks;rw[je])
 clear h ok hc;generalize p.asks own=asks at *;generalize p.oY own=yT at *;generalize p.question own=q at *;go_enter func125,ntmps125;go_wp2_with fail;go_loopw [3,13] (fun v i wr=>∃ k:Nat,k<=p.waits.length/\i=.int .i64 k/\a_ wr w.heap.size v ((p.waits.take k).map yT)/\ai w wr) (fun _ i _=>p.waits.length-(intOf i).toNat)
 case atStart=>exact⟨0,bl _,rfl,a_.nil _ _,ax _ _⟩
 case round =>
  obtain⟨k,hk,rfl,hms,hbr⟩:=hrel;obtain⟨a9,c9,hsh⟩:=hms.shape;have HM:=ae hms;have hlen:((p.waits.take k).map yT).length=k:=by rw[fF,dA];omega
  by_cases hlt:k<p.waits.length
  ·obtain⟨gb,off,rfl,ck⟩:=Hc.out k hlt
   have hk1:(k:Int)<(p.waits.length:Int):=by omega
   have zg:=aF hbr ck;have ht:=HA.out k hlt;have mE:=ae ht;generalize p.waits.getD k 0=dd at *;clear ht hms;rw[hlen] at hsh;subst hsh;go_wp2_with fail;refine (HQ.out _ hbr).mono ?_
   rintro e Y ⟨xm,xl,rfl,h1,h2,hl⟩;obtain⟨a1,d1,rfl⟩:=aM h1;obtain⟨a2,d2,rfl⟩:=aM h2;have bt:ai w Y:=hbr.trans (hl.mono hbr.size);have HO:=ae (aP h1 h2);have k0:=Iq.out _ (bt.alloc bt.size (.cells #[q.kind,q.src,q.dst,q.ah,q.ak,q.aO,q.pos,q.value,.slice a1 q.af.length d1,.slice a2 q.log.length d2] 134));clear h1 h2 ck zg;obtain⟨ws,e1,e2,e3⟩:=HM.out;rw[hlen] at e2;have DL:((Y.alloc (.cells #[q.kind,.int .i64 own,.int .i64 dd,q.ah,q.ak,q.aO,q.pos,q.value,.slice a1 q.af.length d1,.slice a2 q.log.length d2] 134)).alloc (.cells #[q.kind,.int .i64 own,.int .i64 dd,q.ah,q.ak,q.aO,q.pos,q.value,.slice a1 q.af.length d1,.slice a2 q.log.length d2] 134)).ownsRow w.heap.size 134 10 (.slice a9 k c9) k (ws.flatMap cd):=((aS e2 fun k _ hk=>hl.block k hk).alloc _).alloc _;obtain⟨g',cap,W',hrun,hown',hgrow⟩:=yS ((Y.alloc (.cells #[q.kind,.int .i64 own,.int .i64 dd,q.ah,q.ak,q.aO,q.pos,q.value,.slice a1 q.af.length d1,.slice a2 q.log.length d2] 134)).alloc (.cells #[q.kind,.int .i64 own,.int .i64 dd,q.ah,q.ak,q.aO,q.pos,q.value,.slice a1 q.af.length d1,.slice a2 q.log.length d2] 134)) w.heap.size (.slice a9 k c9) k ws ({ q with src:=own,dst:=dd },.slice a1 q.af.length d1,.slice a2 q.log.length d2) (Y.heap.size+1) DL (kX _ _ _) (by omega) (by have:=bt.size;simp;omega) ⟨_,_,_,rfl⟩ ⟨_,_,_,rfl⟩
   have IF:=ae (mH.snoc ({ q with src:=own,dst:=dd },.slice a1 q.af.length d1,.slice a2 q.log.length d2) _ _ e2 e3 hl HO.out.1 HO.out.2 hgrow)
   have CE:=ae (aP hown' e1);have hbW:ai w W':=((bt.alloc bt.size _).alloc (by have:=bt.size;simp;omega) _).grown hgrow (by have:=bt.size;simp;omega) (fun k hk=>by obtain⟨_,_,h3⟩:=bK e2 hk;exact h3)
   clear e1 e2 e3 DL hown' hgrow;have HR:=ae hrun;clear hrun;unfold bL;go_wp2_with (at_builtin;refine kI rfl (.tmp 26) (.tmp 28) 97 rfl _ _ _ _ (by simp[Act.eval]) (by simp[Act.eval]) HR.out ?_)
   go_wp2_with fail;go_roundw
   case rel =>
    refine⟨k+1,by omega,by go_num, ?_,hbW⟩
    rw[mE.out];refine⟨ws++[({ q with src:=own,dst:=dd },.slice a1 q.af.length d1,.slice a2 q.log.length d2)],by rw[gw,CE.out.2];rfl, ?_,IF.out⟩
    rw[bG,hlen];exact CE.out.1
   case measure=>simp[intOf];omega
  ·obtain rfl:k=p.waits.length:=by omega
   subst hsh;generalize hpl:((p.waits.take p.waits.length).map yT).length=pl at *;go_wp2_with fail;go_ret;rw[HE.out];exact⟨_,rfl,HM.out,hbr⟩
theorem iF.turn (h:iF w F b own p vw vo vm vl)(p':bh)(vu lr bN bD:Value)
  (hb:w'.heap[b]?=some (.cells #[.int .i64 own,.int .i64 (p'.begun:Int),p'.doing,vu,p'.ah,lr,p'.aO,bN,bD] 146)) (hs:w.heap.size<=w'.heap.size)
  (h1:bd w' vu p'.waits) (h2:bd w' lr p'.old) (h3:bd w' bN p'.af) (h4:bw w' bD p'.log) (f1:∀ k,vu.ownBlock=some k->F k\/w.heap.size<=k) (f2:∀ k,lr.ownBlock=some k->F k\/w.heap.size<=k)
  (f3:∀ k,bN.ownBlock=some k->F k\/w.heap.size<=k) (f4:∀ k,bD.ownBlock=some k->F k\/w.heap.size<=k) (ap:∀ k,vu.ownBlock=some k->lr.ownBlock≠some k/\bN.ownBlock≠some k) :
  iF w' (sS F w w') b own p' vu lr bN bD:=by
 have key:∀ {base size n:Nat} {e:TypeId} {v:Value} {xs:List Value},w'.ownsRow base e size v n xs->(∀ k,v.ownBlock=some k->F k\/w.heap.size<=k)->∀ k,v.ownBlock=some k->sS F w w' k:=by
  intro base size n e v xs hr hf k hk;rcases hf k hk with h5|h5
  ·exact .inl h5
  ·obtain⟨_,h6,_⟩:=bK hr hk
   exact .inr ⟨h5,(aQ h6)⟩
 refine⟨hb,h1,h2,h3,h4,.inl h.fb,key h1 f1,key h2 f2,key h3 f3,key h4 f4,ap,fun k hF => ?_⟩
 rcases hF with h5|h5
 ·have:=h.lt k h5
  omega
 ·exact h5.2
def gQ (w w':World)(F:Nat->Prop)(b:Nat)(own:Int)(e:Ending)(q:bh × List aK):Prop :=
 ∃ v F',e=.returned v/\fM w' F' b own q.1/\Moved w w' F/\(∀ k,F' k->F k\/w.heap.size<=k)/\a_ w' w.heap.size v q.2
theorem GZ (v:Value)(h:W.heap[g]?=some (.cells #[a0,a1,a2,a3,a4,a5,a6,a7,a8] T)):(W.setCell ⟨g,2,none⟩ v).heap[g]?=some (.cells #[a0,a1,v,a3,a4,a5,a6,a7,a8] T):=bV _ _ _ _ _ _ h
theorem BG (v:Value)(h:W.heap[g]?=some (.cells #[a0,a1,a2,a3,a4,a5,a6,a7,a8] T)):(W.setCell ⟨g,3,none⟩ v).heap[g]?=some (.cells #[a0,a1,a2,v,a4,a5,a6,a7,a8] T):=bV _ _ _ _ _ _ h
theorem TK (v:Value)(h:W.heap[g]?=some (.cells #[a0,a1,a2,a3,a4,a5,a6,a7,a8] T)):(W.setCell ⟨g,1,none⟩ v).heap[g]?=some (.cells #[a0,v,a2,a3,a4,a5,a6,a7,a8] T):=bV _ _ _ _ _ _ h
theorem iF.beside (h:iF w F b own p vw vo vm vl)(hm:Moved w w' (fun k=>k=b))(hv:w.ownsRow base e size v n xs)(he:e≠146):w'.ownsRow base e size v n xs :=
 hm.owns hv fun _ hk e1=>aY h.blk hv he (e1 ▸ hk)
theorem Hs (F:Nat->Prop)(b:Nat)(own:Int)(p:bh)(d:Int)(va:Value)(l:List Int)(w:World)(h:fM w F b own p)(ok:l7 p own)(ha:bd w va l)(hl5:l.length<=5)(hd:0<=d/\d<=6) :
  Calls prog 70 #[b,.int .i64 d,va] w fun e w'=>gQ w w' F b own e (p.dQ own d l):=by
 obtain⟨vw,vo,vm,vl,h⟩:=h;have hbl:b<w.heap.size:=h.lt b h.fb;have HI:=ae h;obtain⟨aa,ca,rfl⟩:=aM ha;have HC:Hid (∀ W,Moved w W (fun k=>k=b)->Calls prog 69 #[.slice aa l.length ca] W fun e w'=>∃ x c,e=.returned (.slice x l.length c)/\w'.ownsRow W.heap.size 3 1 (.slice x l.length c) l.length (aJ l)/\ai W w'):=ae fun W hM=>ma _ l W (h.beside hM ha (by decide)) (by omega)
 have ok':l7 { p with doing:=d,waits:=l } own:=⟨hl5,ok.o,ok.m,ok.l,ok.b,hd,ok.n⟩
 have HT:Hid (∀ W F' vw vo vm vl,iF W F' b own { p with doing:=d,waits:=l } vw vo vm vl->Calls prog 125 #[b] W fun e w'=>∃ v,e=.returned v/\a_ w' W.heap.size v ({ p with doing:=d,waits:=l }.asks own)/\ai W w'):=ae fun W F' _ _ _ _ hi=>FP F' b own _ _ _ _ _ W hi ok'
 have c2:=aj h.blk 2;have f2:=aW h.blk 2;clear h ok ok' ha;go_enter func70,ntmps70;go_wp2_with fail;have M1:Moved w (w.setCell ⟨b,2,none⟩ (.int .i64 d)) (fun k=>k=b):=(Moved.refl w (fun k=>k=b)).setCell ⟨b,2,none⟩ rfl _;have B1:=GZ (.int .i64 d) HI.out.blk;generalize w.setCell ⟨b,2,none⟩ (.int .i64 d)=W1 at *;clear c2 f2;refine (HC.out W1 M1).mono ?_
 rintro e Y ⟨x,c,rfl,o1,hl⟩;have M2:=M1.below hl;have B2:=(hl.block _ (aQ B1)).trans B1;have O1:=ae o1;have c3:=aj B2 3;have f3:=aW B2 3;have HB2:=ae B2;clear o1 B1 B2;go_wp2_with fail;have B3:=BG (.slice x l.length c) HB2.out;have M3:=M2.setCell ⟨b,3,none⟩ rfl (.slice x l.length c);have o3:(Y.setCell ⟨b,3,none⟩ (.slice x l.length c)).ownsRow W1.heap.size 3 1 (.slice x l.length c) l.length (aJ l):=bu O1.out (aY HB2.out O1.out (by decide)) _
 generalize Y.setCell ⟨b,3,none⟩ (.slice x l.length c)=W3 at *;have hs1:=M1.size;have hnew:∀ k,(Value.slice x l.length c).ownBlock=some k->w.heap.size<=k:=fun k e=>by obtain⟨_,_,h3⟩:=bK o3 e;omega
 have I3:=ae (HI.out.turn { p with doing:=d,waits:=l } _ _ _ _ B3 M3.size (obs o3 (bl _)) (HI.out.beside M3 HI.out.ho (by decide)) (HI.out.beside M3 HI.out.hm (by decide)) (HI.out.beside M3 HI.out.hl (by decide)) (fun k e=>.inr (hnew k e)) (fun k e=>.inl (HI.out.fo k e)) (fun k e=>.inl (HI.out.fm k e)) (fun k e=>.inl (HI.out.fl k e))
  (fun k e=>⟨fun e2=>by have:=HI.out.lt k (HI.out.fo k e2);have:=hnew k e;omega,fun e2=>by have:=HI.out.lt k (HI.out.fm k e2);have:=hnew k e;omega⟩))
 clear c3 f3;refine (HT.out _ _ _ _ _ _ I3.out).mono ?_
 rintro e Z ⟨v,rfl,hv,hl2⟩;have HV:=ae (hv.base M3.size);clear hv;go_wp2_with fail;go_ret;refine⟨v,_,rfl,⟨_,_,_,_,I3.out.below hl2⟩,(M3.below hl2).more HI.out.fb, ?_,HV.out⟩
 rintro k (h1|h1)
 ·exact .inl h1
 ·exact .inr h1.1
theorem CS (w:World):Calls prog 71 #[] w fun e w'=>∃ x c,e=.returned (.slice x 3 c)/\w'.ownsRow w.heap.size 3 1 (.slice x 3 c) 3 (aJ [100,101,102])/\ai w w':=by
 have hc:=xq 100 3 w (by omega) (by omega)
 go_enter func71,ntmps71;go_wp2_with fail;refine hc.mono ?_
 rintro e W ⟨c,rfl,ho,hb⟩;have HO:=ae ho;clear ho hc;go_wp2_with fail;go_ret;exact⟨_,c,rfl,HO.out,hb⟩
theorem QP (F:Nat->Prop)(b:Nat)(own:Int)(p:bh)(w:World)(h:fM w F b own p) :
  Calls prog 34 #[b] w fun e w'=>e=.returned (.bool (decide (p.begun<1000)))/\w'=w:=by
 obtain⟨vw,vo,vm,vl,h⟩:=h;have c1:=aj h.blk 1;have H:Hid (decide (p.begun<1000)=decide ((p.begun:Int)<1000)):=ae (by congr 1;simp;omega)
 clear h;rw[H.out];generalize (p.begun:Int)=B at *;go_enter func34,ntmps34;go_wp2_with fail;go_ret;exact⟨rfl,rfl⟩
theorem G0 (v:Value)(h:W.heap[g]?=some (.cells #[a0,a1,a2,a3,a4,a5,a6,a7,a8] T)):(W.setCell ⟨g,4,none⟩ v).heap[g]?=some (.cells #[a0,a1,a2,a3,v,a5,a6,a7,a8] T):=bV _ _ _ _ _ _ h
theorem BH (v:Value)(h:W.heap[g]?=some (.cells #[a0,a1,a2,a3,a4,a5,a6,a7,a8] T)):(W.setCell ⟨g,5,none⟩ v).heap[g]?=some (.cells #[a0,a1,a2,a3,a4,v,a6,a7,a8] T):=bV _ _ _ _ _ _ h
theorem G5 (v:Value)(h:W.heap[g]?=some (.cells #[a0,a1,a2,a3,a4,a5,a6,a7,a8] T)):(W.setCell ⟨g,6,none⟩ v).heap[g]?=some (.cells #[a0,a1,a2,a3,a4,a5,v,a7,a8] T):=bV _ _ _ _ _ _ h
theorem G6 (v:Value)(h:W.heap[g]?=some (.cells #[a0,a1,a2,a3,a4,a5,a6,a7,a8] T)):(W.setCell ⟨g,7,none⟩ v).heap[g]?=some (.cells #[a0,a1,a2,a3,a4,a5,a6,v,a8] T):=bV _ _ _ _ _ _ h
theorem BI (v:Value)(h:W.heap[g]?=some (.cells #[a0,a1,a2,a3,a4,a5,a6,a7,a8] T)):(W.setCell ⟨g,8,none⟩ v).heap[g]?=some (.cells #[a0,a1,a2,a3,a4,a5,a6,a7,v] T):=bV _ _ _ _ _ _ h
theorem G7 (v2 v3 v4 v5 v6 v7 v8:Value)(h:W.heap[g]?=some (.cells #[a0,a1,a2,a3,a4,a5,a6,a7,a8] T)) :
  (((((((W.setCell ⟨g,2,none⟩ v2).setCell ⟨g,3,none⟩ v3).setCell ⟨g,4,none⟩ v4).setCell ⟨g,5,none⟩ v5).setCell ⟨g,6,none⟩ v6).setCell ⟨g,7,none⟩ v7).setCell ⟨g,8,none⟩ v8).heap[g]?=some (.cells #[a0,a1,v2,v3,v4,v5,v6,v7,v8] T) :=
 BI _ (G6 _ (G5 _ (BH _ (G0 _ (BG _ (GZ _ h))))))
theorem FU (v2 v3 v4 v5 v6 v7 v8:Value)(h:Moved w W (fun k=>k=g)) :
  Moved w (((((((W.setCell ⟨g,2,none⟩ v2).setCell ⟨g,3,none⟩ v3).setCell ⟨g,4,none⟩ v4).setCell ⟨g,5,none⟩ v5).setCell ⟨g,6,none⟩ v6).setCell ⟨g,7,none⟩ v7).setCell ⟨g,8,none⟩ v8) (fun k=>k=g) :=
 ((((((h.setCell ⟨g,2,none⟩ rfl v2).setCell ⟨g,3,none⟩ rfl v3).setCell ⟨g,4,none⟩ rfl v4).setCell ⟨g,5,none⟩ rfl v5).setCell ⟨g,6,none⟩ rfl v6).setCell ⟨g,7,none⟩ rfl v7).setCell ⟨g,8,none⟩ rfl v8
theorem RT (v2 v3 v4 v5 v6 v7 v8:Value)(h:W.ownsRow base e size v n xs)(hv:v.ownBlock≠some g) :
  (((((((W.setCell ⟨g,2,none⟩ v2).setCell ⟨g,3,none⟩ v3).setCell ⟨g,4,none⟩ v4).setCell ⟨g,5,none⟩ v5).setCell ⟨g,6,none⟩ v6).setCell ⟨g,7,none⟩ v7).setCell ⟨g,8,none⟩ v8).ownsRow base e size v n xs :=
 bu (bu (bu (bu (bu (bu (bu h hv _) hv _) hv _) hv _) hv _) hv _) hv _
def jx (w w':World)(F:Nat->Prop)(b:Nat)(own:Int)(p':bh):Prop:=∃ F',fM w' F' b own p'/\Moved w w' F/\(∀ k,F' k->F k\/w.heap.size<=k)
theorem eQ {k:Nat}:(Value.slice none 0 0).ownBlock≠some k:=fun h=>nomatch h
theorem GN (F:Nat->Prop)(b:Nat)(own:Int)(p:bh)(w:World)(h:fM w F b own p) :
  Calls prog 240 #[b] w fun e w'=>(∃ v,e=.returned v)/\jx w w' F b own p.idle:=by
 obtain⟨vw,vo,vm,vl,h⟩:=h;obtain⟨aw,cw,rfl⟩:=aM h.hw;obtain⟨ao,co,rfl⟩:=aM h.ho;obtain⟨am,cm,rfl⟩:=aM h.hm;obtain⟨al,cl,rfl⟩:=aM h.hl;have HI:=ae h;have c:=fun j=>aj h.blk j;have f:=fun j=>aW h.blk j;clear h;go_enter func240,ntmps240;go_wp2_with fail;go_end0;have M:=FU (.int .i64 0) (.slice none 0 0) (.int .i64 0) (.slice none 0 0) (.int .i64 0) (.slice none 0 0) (.slice none 0 0) (Moved.refl w (fun k=>k=b));have B:=G7 (.int .i64 0) (.slice none 0 0) (.int .i64 0) (.slice none 0 0) (.int .i64 0) (.slice none 0 0) (.slice none 0 0) HI.out.blk;refine⟨⟨_,rfl⟩,_,⟨_,_,_,_,HI.out.turn p.idle (.slice none 0 0) (.slice none 0 0) (.slice none 0 0) (.slice none 0 0) B M.size (bE _ _ _ _) (bE _ _ _ _) (bE _ _ _ _) (bE _ _ _ _) (fun k e=>absurd e eQ) (fun k e=>absurd e eQ) (fun k e=>absurd e eQ) (fun k e=>absurd e eQ) (fun k e=>absurd e eQ)⟩,M.more HI.out.fb, ?_⟩
 rintro k (h1|h1)
 ·exact .inl h1
 ·exact .inr h1.1
theorem Qz (F:Nat->Prop)(b:Nat)(own:Int)(p:bh)(w:World)(h:fM w F b own p) :
  Calls prog 237 #[b] w fun e w'=>(∃ v,e=.returned v)/\jx w w' F b own p.idle:=by
 have hc:=GN F b own p w h;clear h;go_enter func237,ntmps237;go_wp2_with fail;refine hc.mono ?_
 rintro e W ⟨⟨v,rfl⟩,ht⟩;clear hc;go_wp2_with fail;go_end0;exact⟨⟨_,rfl⟩,ht⟩
theorem QB (b:Nat)(w:World):Calls prog 238 #[b] w fun e w'=>(∃ v,e=.returned v)/\w'=w:=by
 go_enter func238,ntmps238;go_wp2_with fail;go_end0;exact⟨⟨_,rfl⟩,rfl⟩
theorem QA (own:Int)(w:World) :
  Calls prog 110 #[.int .i64 own] w fun e w'=>∃ b F,e=.returned (.pointer (some ⟨b,0,none⟩))/\fM w' F b own { begun:=0,doing:=0,waits:=[],ah:=0,old:=[],aO:=0,af:=[],log:=[] }/\(∀ k,F k->w.heap.size<=k)/\ai w w':=by
 go_enter func110,ntmps110;go_wp2_with fail;go_ret;refine⟨_,fun k=>k=w.heap.size,rfl,⟨.slice none 0 0,.slice none 0 0,.slice none 0 0,.slice none 0 0,hnw _ _,bE _ _ _ _,bE _ _ _ _,bE _ _ _ _,bE _ _ _ _,rfl,fun k e=>absurd e eQ,fun k e=>absurd e eQ,fun k e=>absurd e eQ,fun k e=>absurd e eQ,fun k e=>absurd e eQ,fun k e=>by simp;omega⟩,fun k e=>by omega,(ax _ w).alloc (aG _) _⟩
theorem gQ.after {F1:Nat->Prop}{e:Ending}{q:bh × List aK}(hM:Moved w W F)(hF:∀ k,F1 k->F k\/w.heap.size<=k)(h:gQ W w' F1 b own e q):gQ w w' F b own e q:=by
 obtain⟨v,F',rfl,h1,h2,h3,h4⟩:=h;have hs:=hM.size;refine⟨v,F',rfl,h1,hM.trans h2 (fun k hk h5 => ?_),fun k hk => ?_,h4.base hM.size⟩
 ·rcases hF k h5 with h6|h6
  ·exact h6
  ·omega
 ·rcases h3 k hk with h6|h6
  ·exact hF k h6
  ·exact .inr (by omega)
theorem Moved.KY {S:Nat->Prop}{p:Addr}{u:Value}(h:Moved w w' S)(hc:w.cell? p=some u)(hp:¬ S p.block):w'.cell? p=some u:=by
 have hlt:p.block<w.heap.size:=by
  rcases Nat.lt_or_ge p.block w.heap.size with h1|h1
  ·exact h1
  ·exfalso
   unfold World.cell? at hc;rw[Array.getElem?_eq_none h1] at hc
   cases hc
 rw[iR (h.block p.block hlt hp)];exact hc
theorem bJ.moved {l:List Int}(h:bJ w v l)(hM:Moved w W (fun k=>k=b))(hne:∀ k,v.ownBlock=some k->k≠b):bJ W v l:=by
 obtain⟨a,c,rfl,h⟩:=h;refine⟨a,c,rfl,fun i hi => ?_⟩
 obtain⟨bb,off,rfl,h1⟩:=h i hi;exact⟨bb,off,rfl,hM.KY h1 (hne bb rfl)⟩
theorem Qy (F:Nat->Prop)(b:Nat)(own:Int)(p:bh)(va:Value)(l:List Int)(w:World)(h:fM w F b own p)(hb1:p.begun<1000)(hn:200<=own/\own<=201)(ha:bJ w va l)(hne:∀ k,va.ownBlock=some k->k≠b)(hl5:l.length<=5) :
  Calls prog 37 #[b,va] w fun e w'=>gQ w w' F b own e ((p.fresh l).dQ own 1 [100,101,102]):=by
 obtain⟨vw,vo,vm,vl,h⟩:=h;have hbl:b<w.heap.size:=h.lt b h.fb;obtain⟨aw,cw,rfl⟩:=aM h.hw;obtain⟨ao,co,rfl⟩:=aM h.ho;obtain⟨am,cm,rfl⟩:=aM h.hm;obtain⟨al,cl,rfl⟩:=aM h.hl;have HI:=ae h;have HC:Hid (∀ W,Moved w W (fun k=>k=b)->Calls prog 69 #[va] W fun e w'=>∃ v',e=.returned v'/\w'.ownsRow W.heap.size 3 1 v' l.length (aJ l)/\ai W w'):=ae fun W hM=>Dz _ l.length (aJ l) W (bJ.cells (ha.moved hM hne)) (by rw[fP,Nat.mul_one]) (kE _) (by omega)
 obtain⟨aa,ca,rfl, -⟩:=ha;have HT:Hid (∀ W F' va,fM W F' b own (p.fresh l)->bd W va [100,101,102]->Calls prog 70 #[b,.int .i64 1,va] W fun e w'=>gQ W w' F' b own e ((p.fresh l).dQ own 1 [100,101,102])):=ae fun W F' va hA hv=>Hs F' b own (p.fresh l) 1 va _ W hA ⟨by simp[bh.fresh],by simp[bh.fresh],hl5,by simp[bh.fresh],by simp[bh.fresh];omega,by simp[bh.fresh],hn⟩ hv (by simp) (by omega)
 have HA:=fun W=>ae (CS W);have c:=fun j=>aj h.blk j;have f:=fun j=>aW h.blk j;have hwr:IntKind.i64.wrap ((p.begun:Int)+1)=(p.begun:Int)+1:=by rw[dV];omega
 clear h;go_enter func37,ntmps37;go_wp2_with fail;have M1:Moved w (w.setCell ⟨b,1,none⟩ (.int .i64 ((p.begun:Int)+1))) (fun k=>k=b):=(Moved.refl w (fun k=>k=b)).setCell ⟨b,1,none⟩ rfl _;have B1:=TK (.int .i64 ((p.begun:Int)+1)) HI.out.blk;generalize w.setCell ⟨b,1,none⟩ (.int .i64 ((p.begun:Int)+1))=W1 at *;clear c f;refine (HC.out W1 M1).mono ?_
 rintro e Y ⟨v',rfl,o1,hl⟩;obtain⟨x,cx,rfl⟩:=aM o1;have M2:=M1.below hl;have B2:=(hl.block _ (aQ B1)).trans B1;have O1:=ae o1;have c:=fun j=>aj B2 j;have f:=fun j=>aW B2 j;have HB2:=ae B2;clear o1 B1 B2;go_wp2_with fail;have M3:=FU (.int .i64 0) (.slice none 0 0) (.int .i64 0) (.slice none 0 0) (.int .i64 (-1)) (.slice x l.length cx) (.slice none 0 0) M2;have B3:=G7 (.int .i64 0) (.slice none 0 0) (.int .i64 0) (.slice none 0 0) (.int .i64 (-1)) (.slice x l.length cx) (.slice none 0 0) HB2.out;have o3:=RT (.int .i64 0) (.slice none 0 0) (.int .i64 0) (.slice none 0 0) (.int .i64 (-1)) (.slice x l.length cx) (.slice none 0 0) O1.out (aY HB2.out O1.out (by decide))
 obtain⟨W3,hW3⟩:∃ W3,W3=(((((((Y.setCell ⟨b,2,none⟩ (.int .i64 0)).setCell ⟨b,3,none⟩ (.slice none 0 0)).setCell ⟨b,4,none⟩ (.int .i64 0)).setCell ⟨b,5,none⟩ (.slice none 0 0)).setCell ⟨b,6,none⟩ (.int .i64 (-1))).setCell ⟨b,7,none⟩ (.slice x l.length cx)).setCell ⟨b,8,none⟩ (.slice none 0 0)):=⟨_,rfl⟩;rw[<- hW3] at M3 B3 o3 |-;clear hW3 c f;have hs1:=M1.size;have I3:=ae (HI.out.turn (p.fresh l) (.slice none 0 0) (.slice none 0 0) (.slice x l.length cx) (.slice none 0 0) B3 M3.size (bE _ _ _ _) (bE _ _ _ _) (obs o3 (bl _)) (bE _ _ _ _) (fun k e=>absurd e eQ) (fun k e=>absurd e eQ) (fun k e=>by obtain⟨_,_,h3⟩:=bK o3 e;exact .inr (by omega)) (fun k e=>absurd e eQ) (fun k e=>absurd e eQ))
 refine ((HA W3).out).mono ?_
 rintro e A ⟨x2,c2,rfl,o4,fp⟩;have O4:=ae (aP o4 fp);clear o4 fp;go_wp2_with fail;refine (HT.out A _ _ ⟨_,_,_,_,I3.out.below O4.out.2⟩ (obs O4.out.1 (bl _))).mono ?_
 intro e Z hO;obtain⟨v,F',rfl,r1,r2,r3,r4⟩:=hO;obtain⟨a8,c8,rfl⟩:=r4.shape;have HR:=ae (aP r1 (aP r2 (aP r3 r4)));clear r1 r2 r3 r4;generalize hpl:((p.fresh l).dQ own 1 [100,101,102]).2.length=pl at *;go_wp2_with fail;go_ret;refine gQ.after ((M3.below O4.out.2).more HI.out.fb) ?_ ⟨_,F',rfl,HR.out.1,HR.out.2.1,HR.out.2.2.1,HR.out.2.2.2⟩
 rintro k (h1|h1)
 ·exact .inl h1
 ·exact .inr h1.1
theorem Nl (F:Nat->Prop)(b:Nat)(own:Int)(p:bh)(w:World)(h:fM w F b own p) :
  Calls prog 244 #[b] w fun e w'=>e=.returned (.bool p.enough)/\w'=w:=by
 obtain⟨vw,vo,vm,vl,h⟩:=h;obtain⟨aw,cw,rfl⟩:=aM h.hw;have c2:=aj h.blk 2;have c3:=aj h.blk 3;have HE:Hid (p.enough=if p.doing=2 then true else if p.doing=5 then decide ((p.waits.length:Int)=0) else decide ((p.waits.length:Int)<=1)):=ae rfl
 clear h;generalize p.doing=d at *;generalize p.enough=en at *;generalize p.waits.length=n at *;cases t2:(d == 2) with
 | true =>
  have P2:Hid (d=2):=ae (by simpa using t2)
  have H:Hid (en=true):=ae (by rw[HE.out,if_pos P2.out])
  go_enter func244,ntmps244;go_wp2_with fail;go_ret;exact⟨by rw[H.out];rfl,rfl⟩
 | false =>
  have N2:Hid (¬ d=2):=ae (by simpa using t2)
  cases t5:(d == 5) with
  | true =>
   have P5:Hid (d=5):=ae (by simpa using t5)
   have H:Hid (en=decide ((n:Int)=0)):=ae (by rw[HE.out,if_neg N2.out,if_pos P5.out])
   clear HE;go_enter func244,ntmps244;go_wp2_with fail;go_ret;refine⟨?_,rfl⟩
   rw[H.out];show Ending.returned (Value.bool ((n:Int) == 0))=_;rfl
  | false =>
   have N5:Hid (¬ d=5):=ae (by simpa using t5)
   have H:Hid (en=decide ((n:Int)<=1)):=ae (by rw[HE.out,if_neg N2.out,if_neg N5.out])
   clear HE;go_enter func244,ntmps244;go_wp2_with fail;go_ret;refine⟨?_,rfl⟩
   rw[H.out];simp
theorem vZ (hinfo:(prog.info? e).map (fun i=>(i.zero,i.size,i.bytes))=some (some z,size,bytes))(hu:prog.underlying t=some (.slice e))(hzs:z.cells.size=size)(hsz:0<size)
  (W:World) (base:Nat) (v:Value) (n:Nat) (xs news:List Value) (g:Nat) (hown:W.ownsRow base e size v n xs) (hg:W.heap[g]?=some (.cells news.toArray e)) (hnl:news.length=size) (h1:∀ u∈news,u.oneCell'=true) (hl:n<=3000000000000) (hbb:(n+1)*bytes<=140737488355328) (hb:base<=W.heap.size) :
  ∃ g' cap W',(∀ ty,(Builtin.append_ #[t,t] ty #[v,.slice (some g) 1 1]).run prog W=.ok (.slice (some ⟨g',0,none⟩) (n+1) cap) W') /\
   W'.ownsRow base e size (.slice (some ⟨g',0,none⟩) (n+1) cap) (n+1) (xs++news)/\W.grownBy W' v.ownBlock/\(v.ownBlock=some g'\/g'=W.heap.size):=by
 obtain⟨i0,hi,hz0,hz1,hz2⟩:=info_parts hinfo;have hA:∀ ty,∃ g' cap W',(Builtin.append_ #[t,t] ty #[v,.slice (some g) 1 1]).run prog W=.ok (.slice (some ⟨g',0,none⟩) (n+1) cap) W' /\
   W'.ownsRow base e size (.slice (some ⟨g',0,none⟩) (n+1) cap) (n+1) (xs++news)/\W.grownBy W' v.ownBlock/\(v.ownBlock=some g'\/g'=W.heap.size):=fun ty=>by
  obtain⟨g',cap,W',hr,h2,h3,h4, -⟩:=run_append_lies (P:=prog) W t ty base e i0 _ size bytes hu hi hz0 hz1 hz2 hzs hsz v n xs hown ⟨g,0,none⟩ 1 1 news (by rw[hnl,Nat.one_mul])
   (fun j u hj=>World.news_of_block hg j u (by simpa using hj)) h1 (by omega) (by unfold maxLen;omega) hbb hb _ rfl
  exact⟨g',cap,W',hr,h2,h3,h4⟩
 obtain⟨g',cap,W',hr,h2,h3⟩:=hA 0;refine⟨g',cap,W',fun ty => ?_,h2,h3⟩
 rw[<- hr];rfl
theorem oX (hinfo:(prog.info? e).map (fun i=>(i.zero,i.size,i.bytes))=some (some z,size,bytes))(hu:prog.underlying t=some (.slice e))(hzs:z.cells.size=size)(hsz:0<size)
  (W:World) (base:Nat) (v:Value) (n:Nat) (xs news:List Value) (g:Nat) (hown:W.ownsRow base e size v n xs) (hg:W.heap[g]?=some (.cells news.toArray e)) (hnl:news.length=size) (h1:∀ u∈news,u.oneCell'=true) (hl:n<=1000000000000) (hby:bytes<=100) (hb:base<=W.heap.size) :
  ∃ g' cap W',(∀ ty,(Builtin.append_ #[t,t] ty #[v,.slice (some g) 1 1]).run prog W=.ok (.slice (some ⟨g',0,none⟩) (n+1) cap) W') /\
   W'.ownsRow base e size (.slice (some ⟨g',0,none⟩) (n+1) cap) (n+1) (xs++news)/\W.grownBy W' v.ownBlock/\(v.ownBlock=some g'\/g'=W.heap.size) :=
 vZ hinfo hu hzs hsz W base v n xs news g hown hg hnl h1 (by omega) (bP (Nat.mul_le_mul (by omega:n+1<=1000000000001) hby) (by decide)) hb
theorem C3 (hinfo:(prog.info? e).map (fun i=>(i.zero,i.size,i.bytes))=some (some z,size,bytes))(hu:prog.underlying t=some (.slice e))(hzs:z.cells.size=size)(hsz:0<size)
  (W:World) (base:Nat) (v:Value) (n:Nat) (xs news:List Value) (g:Nat) (hown:W.ownsRow base e size v n xs) (hg:W.heap[g]?=some (.cells news.toArray e)) (hnl:news.length=size) (h1:∀ u∈news,u.oneCell'=true) (hl:n<=3000000000000) (hby:bytes<=40) (hb:base<=W.heap.size) :
  ∃ g' cap W',(∀ ty,(Builtin.append_ #[t,t] ty #[v,.slice (some g) 1 1]).run prog W=.ok (.slice (some ⟨g',0,none⟩) (n+1) cap) W') /\
   W'.ownsRow base e size (.slice (some ⟨g',0,none⟩) (n+1) cap) (n+1) (xs++news)/\W.grownBy W' v.ownBlock/\(v.ownBlock=some g'\/g'=W.heap.size) :=
 vZ hinfo hu hzs hsz W base v n xs news g hown hg hnl h1 hl (bP (Nat.mul_le_mul (by omega:n+1<=3000000000001) hby) (by decide)) hb
def nv (l:List (List UInt8 × Bool)):List Value:=l.map (fun f=>Value.string (bs f.1))
def dw (l:List (List UInt8 × Bool)):List Value:=l.flatMap (fun f=>[Value.string (bs f.1),.bool f.2])
theorem sn (l:List (List UInt8 × Bool))(i:Nat)(f:List UInt8 × Bool)(hf:l[i]?=some f):(dw l)[i*2]?=some (.string (bs f.1))/\(dw l)[i*2+1]?=some (.bool f.2):=by
 induction l generalizing i with
 | nil=>simp at hf
 | cons a t ih =>
  have e:dw (a :: t)=[Value.string (bs a.1),.bool a.2]++dw t:=by simp[dw]
  rw[e];cases i with
  | zero =>
   simp at hf;subst hf;exact⟨rfl,rfl⟩
  | succ i =>
   rw[kH (by simp;omega),kH (by simp;omega),show (i+1)*2 - [Value.string (bs a.1),Value.bool a.2].length=i*2 by simp;omega,show (i+1)*2+1 - [Value.string (bs a.1),Value.bool a.2].length=i*2+1 by simp;omega]
   exact ih i (by simpa using hf)
structure jL (w:World)(x:Nat)(vs vr va vm vb vt:Value)(l:List (List UInt8 × Bool)):Prop where
 blk:w.heap[x]?=some (.cells #[vs,vr,va,vm,vb,vt] 93)
 row:w.ownsRow 0 138 2 vb l.length (dw l)
def n_ (x:Nat)(vb:Value)(k:Nat):Prop:=k=x\/vb.ownBlock=some k
def gP (w w':World)(x:Nat)(vs vr va vm vb vt:Value)(l':List (List UInt8 × Bool)):Prop:=∃ iT,jL w' x vs vr va vm iT vt l'/\Moved w w' (n_ x vb)/\bO w vb iT
theorem jL.below (h:jL w x vs vr va vm vb vt l)(hb:ai w w'):jL w' x vs vr va vm vb vt l :=
 ⟨(hb.block x (aQ h.blk)).trans h.blk,aS h.row fun k _ hk=>hb.block k hk⟩
theorem gP.still (h:jL w x vs vr va vm vb vt l)(hb:ai w w'):gP w w' x vs vr va vm vb vt l :=
 ⟨vb,h.below hb,(Moved.refl w _).below hb,bO.refl _ _⟩
theorem gP.trans {w1 w2:World}{vb1:Value}{l':List (List UInt8 × Bool)}(hm:Moved w w1 (n_ x vb))(hg:bO w vb vb1)(h':gP w1 w2 x vs vr va vm vb1 vt l'):gP w w2 x vs vr va vm vb vt l':=by
 obtain⟨UJ,h1,h2,h3⟩:=h';refine⟨UJ,h1,hm.trans h2 (fun k hk hS => ?_),hg.trans h3 hm.size⟩
 rcases hS with e|e
 ·exact .inl e
 ·rcases hg k e with h4|h4
  ·exact .inr h4
  ·omega
theorem GW (v:Value)(h:W.heap[g]?=some (.cells #[a0,a1,a2,a3,a4,a5] T)):(W.setCell ⟨g,4,none⟩ v).heap[g]?=some (.cells #[a0,a1,a2,a3,v,a5] T):=bV _ _ _ _ _ _ h
theorem TE (v:Value)(h:W.heap[g]?=some (.cells #[a0,a1,a2,a3,a4,a5] T)):(W.setCell ⟨g,5,none⟩ v).heap[g]?=some (.cells #[a0,a1,a2,a3,a4,v] T):=bV _ _ _ _ _ _ h
theorem TA (v:Value)(h:W.heap[g]?=some (.cells #[a0,a1,a2,a3,a4,a5] T)):(W.setCell g v).heap[g]?=some (.cells #[v,a1,a2,a3,a4,a5] T):=bV _ _ _ _ _ _ h
theorem TB (v:Value)(h:W.heap[g]?=some (.cells #[a0,a1,a2,a3,a4,a5] T)):(W.setCell ⟨g,1,none⟩ v).heap[g]?=some (.cells #[a0,v,a2,a3,a4,a5] T):=bV _ _ _ _ _ _ h
theorem TC (v:Value)(h:W.heap[g]?=some (.cells #[a0,a1,a2,a3,a4,a5] T)):(W.setCell ⟨g,2,none⟩ v).heap[g]?=some (.cells #[a0,a1,v,a3,a4,a5] T):=bV _ _ _ _ _ _ h
theorem TD (v:Value)(h:W.heap[g]?=some (.cells #[a0,a1,a2,a3,a4,a5] T)):(W.setCell ⟨g,3,none⟩ v).heap[g]?=some (.cells #[a0,a1,a2,v,a4,a5] T):=bV _ _ _ _ _ _ h
def jE (l:List (List UInt8 × Bool))(f:List UInt8 × Bool):List (List UInt8 × Bool):=if l.length<200 then l++[f] else l
theorem Kx (l:List (List UInt8 × Bool)):(dw l).length=l.length*2:=by
 induction l with
 | nil=>rfl
 | cons a t ih =>
  have e:dw (a :: t)=[Value.string (bs a.1),.bool a.2]++dw t:=by simp[dw]
  rw[e,bG,ih,eu];simp;omega
theorem C5 (l:List (List UInt8 × Bool)):∀ u∈dw l,u.oneCell'=true:=by
 intro u hu;unfold dw at hu;rw[List.mem_flatMap] at hu;obtain⟨f,_,hf⟩:=hu;simp at hf;rcases hf with rfl|rfl<;>rfl
theorem yX (l m:List (List UInt8 × Bool)):dw (l++m)=dw l++dw m:=by unfold dw;rw[List.flatMap_append]
theorem Kk (W:World)(vb:Value)(l:List (List UInt8 × Bool))(f:List UInt8 × Bool)(g m:Nat)(hown:W.ownsRow 0 138 2 vb l.length (dw l))(hg:W.heap[g]?=some (.cells #[.string (bs f.1),.bool f.2] 138))(hl:l.length<=200)(hm:m<=1) :
  ∃ v' W',(∀ ty,(Builtin.append_ #[88,88] ty #[vb,.slice (some g) m 1]).run prog W=.ok v' W') /\
   W'.ownsRow 0 138 2 v' (l.length+m) (dw (l++[f].take m))/\W.grownBy W' vb.ownBlock/\(v'.ownBlock=vb.ownBlock\/v'.ownBlock=some W.heap.size):=by
 obtain⟨i0,hi,hz0,hz1,hz2⟩:=info_parts Fl;have hA:∀ ty,∃ v' W',(Builtin.append_ #[88,88] ty #[vb,.slice (some g) m 1]).run prog W=.ok v' W' /\
   W'.ownsRow 0 138 2 v' (l.length+m) (dw (l++[f].take m))/\W.grownBy W' vb.ownBlock/\(v'.ownBlock=vb.ownBlock\/v'.ownBlock=some W.heap.size):=fun ty=>by
  obtain⟨v',W',hr,h2,h3,_,h5⟩:=run_append_own_at (P:=prog) W 0 88 ty 138 i0 _ 2 24 underlying88 hi hz0 hz1 hz2 rfl (by decide) vb l.length (dw l) hown ⟨g,0,none⟩ m 1 (dw ([f].take m))
   (by rw[Kx,dA];simp;omega)
   (fun j u hj=>World.news_of_block hg j u (by
    have:m=0\/m=1:=by omega
    rcases this with rfl|rfl
    ·simp[dw] at hj
    ·simpa [dw] using hj))
   (C5 _) (by unfold maxLen;omega) (by omega) (bl _)
  rw[<- yX] at h2;exact⟨v',W',hr,h2,h3,h5⟩
 obtain⟨v',W',hr,h2⟩:=hA 0;refine⟨v',W',fun ty => ?_,h2⟩
 rw[<- hr];rfl
theorem C7 (x:Nat)(vs vr va vm vb vt:Value)(l:List (List UInt8 × Bool))(f:List UInt8 × Bool)(g:Nat)(w:World)(h:jL w x vs vr va vm vb vt l)(hl:l.length<=200)(hg:w.heap[g]?=some (.cells #[.string (bs f.1),.bool f.2] 138)) :
  Calls prog 68 #[.pointer (some ⟨x,4,none⟩),.slice (some g) 1 1] w fun e w'=>(∃ v,e=.returned v)/\gP w w' x vs vr va vm vb vt (jE l f):=by
 have HI:=ae h;obtain⟨ab,cb,rfl⟩:=aM h.row;have c4:=aj h.blk 4;obtain⟨m,hm⟩:∃ m:Nat,m=if l.length<200 then 1 else 0:=⟨_,rfl⟩
 have hm1:m<=1:=by rw[hm];split<;>omega
 have hput:jE l f=l++[f].take m:=by
  unfold jE;rw[hm];split<;>simp
 have hmin:min (1:Int) (200-(l.length:Int))=(m:Int):=by
  rw[hm];split<;>omega
 have hwr:IntKind.i64.wrap (200-(l.length:Int))=200-(l.length:Int):=by rw[dV];omega
 obtain⟨v',W',hrun,ho1,hg1,ek⟩:=Kk w.drew (.slice ab l.length cb) l f g m h.row hg hl hm1;obtain⟨a9,c9,rfl⟩:=aM ho1;have nb:(Value.slice ab l.length cb).ownBlock≠some x:=aY HI.out.blk HI.out.row (by decide)
 have hxl:x<w.heap.size:=(aQ h.blk);have jY:W'.heap[x]?=some (.cells #[vs,vr,va,vm,.slice ab l.length cb,vt] 93):=(hg1.block x hxl (fun e=>nb e.symm)).trans h.blk;have d4:=aj jY 4;have e4:=aW jY 4;have M1:Moved w W' (n_ x (.slice ab l.length cb)):=((Moved.refl w _).below (ax _ w).drew).grown hg1 (fun k _ e=>.inr e);have HF:Hid (gP w (W'.setCell ⟨x,4,none⟩ (.slice a9 (l.length+m) c9)) x vs vr va vm (.slice ab l.length cb) vt (jE l f)):=ae (by
  refine⟨_,⟨GW _ jY, ?_⟩,M1.setCell ⟨x,4,none⟩ (.inl rfl) _, ?_⟩
  ·have hr:=bu (a:=⟨x,4,none⟩) ho1 (aY jY ho1 (by decide)) (.slice a9 (l.length+m) c9)
   rw[hput,bG];have:([f].take m).length=m:=by rw[dA];simp;omega
   rw[this];exact hr
  ·intro k hk
   rcases ek with h5|h5
   ·exact .inl (h5 ▸ hk)
   ·rw[h5] at hk
    cases hk;exact .inr (aG _))
 have HR:=ae hrun;have hm0:(0:Int)<=(m:Int):=by omega
 have hm2:(m:Int)<=1:=by omega
 clear h hrun ho1 hg1 ek M1 hm hput hg jY;have mixed:prog.follows Departure.mixedOrders=true:=by kernel_rfl
 go_enter func68,ntmps68;go_upto_region 1 with fail
 go_region_law (first|(refine jq rfl (.tmp 15) (.tmp 21) 88 rfl _ _ _ _ (by simp[Act.eval,Act.put]) (by simp[Act.eval,Act.put]) HR.out ?_))
 all_goals (
  go_wp2_with fail;go_end0;exact⟨⟨_,rfl⟩,HF.out⟩)
end Go.Proofs.YtgieeeeeiggoeaaGreat
