import Derived.Test.YtgieeeeeiggoeaaGreatD11
import Derived.Test.YtgieeeeeiggoeaaGreatD10
set_option maxRecDepth 100000
set_option maxHeartbeats 4000000
namespace Go.Proofs.YtgieeeeeiggoeaaGreat
open Go.RowKit Go.Shelf
open Tryz
variable {w:World}
attribute [local go_sem] Oper.semAt_some
theorem RD (n l Bs:Nat)(a:Option Addr)(c:Nat)(J:List Int->World->Prop)(W:World)(eb:W.cell? (Bs,0)=some (.slice a 0 c))(h0:J [] W) :
  CallsIn Fence.wide n prog 181 #[.func (.yield l) #[] #[],Bs] W fun e W'=>(∃ v,e=.returned v)/\J [] W':=by
 refine callsIn_of_wp func181 rfl trivial ?_ rfl
 simp only [ntmps181,jr,eu,fG,Nat.reduceAdd,Nat.reduceSub,jG,jH,jJ,jI,fH,js];gi_wp2;gi_loopw [9] (fun i wr=>i=.int .i64 0/\J [] wr) (fun _ _=>0)
 case atStart=>exact⟨rfl,h0⟩
 case round =>
  obtain⟨rfl,hJs⟩:=hrel;gi_wp2;go_end0;exact⟨⟨_,rfl⟩,hJs⟩
theorem gR.cM {base g cap:Nat}{es:List aH}(h:w.ownsRow base 42 5 (.slice (some g) es.length cap) es.length (aJ (bk es))):gR w g es:=by
 have hL:=eM.cM h;rcases h.2 with ⟨h1,_⟩|⟨g',cap',cur,hv,_,hg,_⟩
 ·cases h1
 ·cases hv
  obtain⟨a,c,hv,hc⟩:=hL;cases hv;refine⟨cur,(0,0),hg,fun i hi => ?_⟩
  obtain⟨b,off,hb,c0,c1,c2,c3,c4⟩:=hc i hi;cases hb;rw[fh] at c0 c1 c2 c3 c4;exact⟨c0,c1,c2,c3,c4⟩
theorem F8 (n Bs base:Nat)(log:Value)(es:List aH)(w:World)(hl:es.length<=24)(eb:Bs<w.heap.size)(hc:w.cell? (Bs,0)=some log)
  (hown:w.ownsRow base 42 5 log es.length (aJ (bk es))) :
  SeqStopsK Fence.wide n prog 181 #[Bs] (fun x:Int=>#[Value.int .i64 x]) jQ (fun ys=>ys=bk es) (fun pre=>pre <+: bk es) (bk es).length w :=
 fun l J Jx W hW hJ _ hY h0=>by
  have hc':=(hW.cell (p:=⟨Bs,0,none⟩) eb).trans hc;have hown':=aS hown fun k _ hk=>hW.block k hk;rcases hown'.2 with ⟨rfl,h1⟩|⟨g,cap,cur,rfl,_⟩
  ·have:es=[]:=List.eq_nil_of_length_eq_zero h1
   subst this;exact (RD n l Bs none 0 J W hc' h0).mono fun e W' ⟨he,hj⟩=>⟨he,.inl ⟨_,rfl,hj⟩⟩
  ·exact RE n l Bs g cap es hl J Jx W hJ hY hc' (gR.cM hown') h0
theorem FG (n:Nat)(a:Option Addr)(len cap:Nat)(w:World) :
  CallsIn Fence.wide n prog 155 #[.slice a len cap] w fun e w'=>e=.returned (.func (.func 181) #[] #[w.heap.size])/\w'=w.alloc (.cells #[.slice a len cap] 44):=by
 refine callsIn_of_wp func155 rfl trivial ?_ rfl
 simp only [ntmps155,jr,eu,fG,Nat.reduceAdd,Nat.reduceSub,jG,jH,jJ,jI,fH,js];gi_wp2;go_ret;exact⟨rfl,rfl⟩
theorem Fv (W:World)(l:Nat)(o o':Obj)(hl:W.heap[l]?=some o)(hc:o.isCells=false):jQ W (W.putObj l o'):=by
 intro k cs T fz _ _ h;have hne:l≠k:=by
  intro e;subst e;rw[h] at hl;injection hl with hl
  subst hl;cases hc
 rw[World.putObj_heap_other (Ne.symm hne)];exact h
theorem EJ {B:Nat}{k f t ep ba vo po va:Int}{mem log:Value}(c:∀ j,w.cell? ⟨B,j,none⟩=#[.int .i64 k,.int .i64 f,.int .i64 t,.int .i64 ep,.int .i64 ba,.int .i64 vo,.int .i64 po,.int .i64 va,mem,log][j]?)(n:Nat)(hn:n<7) :
  w.cell? ⟨B,n+1,none⟩=some (.int .i64 (List.getD [f,t,ep,ba,vo,po,va] n 0)):=by
 rw[c];match n,hn with
 | 0,_=>rfl
 | 1,_=>rfl
 | 2,_=>rfl
 | 3,_=>rfl
 | 4,_=>rfl
 | 5,_=>rfl
 | 6,_=>rfl
theorem CW {l:List Int}{k:Nat}(hk:k<l.length)(h:db (l.getD k 0)=false):¬ l.all db=true:=by
 intro ha;rw[List.all_eq_true] at ha;have:=ha (l.getD k 0) (by simp[List.getD,List.getElem?_eq_getElem hk])
 rw[h] at this;cases this
theorem Nj (n:Nat)(hn:Hid (3<=n))(k f t ep ba vo po va:Int)(mem log:Value)(ms:List Int)(es:List aH)(base:Nat)(w:World)(hmem:bJ w mem ms)(dy:w.ownsRow base 42 5 log es.length (aJ (bk es)))
  (h1:1<=k) (h2:k<=16) (h3:ms.length<=5) (h4:es.length<=24) :
  CallsIn Fence.wide n prog 122 #[.agg #[.int .i64 k,.int .i64 f,.int .i64 t,.int .i64 ep,.int .i64 ba,.int .i64 vo,.int .i64 po,.int .i64 va,mem,log]] w fun e w'=>e=.returned (.bool (jD k [f,t,ep,ba,vo,po,va] ms es))/\ai w w':=by
 have ru:=hmem;obtain⟨am,cm,rfl, -⟩:=ru;obtain⟨al,cl,hvl⟩:=aM dy;subst hvl;have hk:Hid (j7 k=true):=ae (by unfold j7;simp[h1,h2])
 refine callsIn_of_wp_marks func122 rfl trivial ?_ rfl
 simp only [ntmps122,jr,eu,fG,Nat.reduceAdd,Nat.reduceSub,jG,jH,jJ,jI,fH,js];gi_wp2_with fail;obtain⟨W1,hW1,hbW1,uF,q, -⟩:=fI w #[.int .i64 k,.int .i64 f,.int .i64 t,.int .i64 ep,.int .i64 ba,.int .i64 vo,.int .i64 po,.int .i64 va,.slice am ms.length cm,.slice al es.length cl] 134;rw[hW1];obtain⟨W,hW,hbW,uE,q2,f2⟩:=fI W1 #[.bool false] 4;rw[hW];clear hW hW1;refine⟨trivial,by simp[Fence.wide],(ei.2 (sK _ _)).mono ?_⟩
 rintro e W' ⟨rfl,rfl⟩;rw[hk.out];have cB:∀ j,W'.cell? ⟨w.heap.size,j,none⟩=#[.int .i64 k,.int .i64 f,.int .i64 t,.int .i64 ep,.int .i64 ba,.int .i64 vo,.int .i64 po,.int .i64 va,.slice am ms.length cm,.slice al es.length cl][j]?:=fun j=>(hbW.cell (p:=⟨w.heap.size,j,none⟩) (by show w.heap.size<_;omega)).trans (q j)
 have cR:W'.cell? (w.heap.size+1,0)=some (.bool false):=by have:=q2 0;rw[uF] at this;exact this
 have fR:W'.frozen? (w.heap.size+1,0)=false:=by have:=f2 0;rw[uF] at this;exact this
 have hb0:ai w W':=hbW1.trans (hbW.mono hbW1.size);have hsz:W'.heap.size=w.heap.size+1+1:=by omega
 clear q q2 f2 hbW hbW1 uE uF;have CB:=ae cB;have c8:=CB.out 8;have c9:=CB.out 9;have Ay:w.heap.size+1<W'.heap.size:=by omega
 clear cB hsz;gi_wp2_with fail;refine⟨trivial,by simp[Fence.wide],(ei.2 (Ag w.heap.size _)).mono ?_⟩
 rintro e V ⟨bF,rfl⟩;have hb1:=hb0.trans (bF.mono hb0.size);have cV:∀ j,V.cell? ⟨w.heap.size,j,none⟩=#[.int .i64 k,.int .i64 f,.int .i64 t,.int .i64 ep,.int .i64 ba,.int .i64 vo,.int .i64 po,.int .i64 va,.slice am ms.length cm,.slice al es.length cl][j]?:=fun j=>(bF.cell (p:=⟨w.heap.size,j,none⟩) (by show w.heap.size<_;omega)).trans (CB.out j)
 have yG:=ae cV;have ze:V.cell? (w.heap.size+1,0)=some (.bool false):=(bF.cell (p:=⟨w.heap.size+1,0,none⟩) Ay).trans cR;have Md:V.frozen? (w.heap.size+1,0)=false:=(bF.frozen (p:=⟨w.heap.size+1,0,none⟩) Ay).trans fR;have wX:w.heap.size+1<V.heap.size:=by have:=bF.size;omega
 have Oq:=hmem.below hb1;have Ok:=aS dy fun k _ hk=>hb1.block k hk;clear cV cR fR c8 c9 CB bF hb0 Ay;gi_wp2_with fail;gi_loopw [25] (fun i wr=>∃ j:Nat,j<=7/\i=.int .i64 j/\wr=V/\(List.take j [f,t,ep,ba,vo,po,va]).all db=true) (fun i _=>7-(intOf i).toNat)
 case atStart=>exact⟨0,bl _,rfl,rfl,rfl⟩
 case round =>
  obtain⟨j,hj,rfl,rfl,hall⟩:=hrel;by_cases hlt:j<7
  ·have hix:=Af w.heap.size j hlt
   have hcj:=EJ yG.out j hlt;have ht:Hid (List.take (j+1) [f,t,ep,ba,vo,po,va]=List.take j [f,t,ep,ba,vo,po,va]++[List.getD [f,t,ep,ba,vo,po,va] j 0]):=mD _ _ hlt;have hno:Hid (db (List.getD [f,t,ep,ba,vo,po,va] j 0)=false->jD k [f,t,ep,ba,vo,po,va] ms es=false):=fun h=>qn fun h'=>CW (l:=[f,t,ep,ba,vo,po,va]) hlt h h'.2.1;generalize List.getD [f,t,ep,ba,vo,po,va] j 0=x at *;gi_wp2_with fail;refine⟨trivial,by simp[Fence.wide],(ei.2 (zn x _)).mono ?_⟩
   rintro e W2 ⟨rfl,rfl⟩;cases hx:db x with
   | true =>
    clear hix;gi_wp2_with fail;exact⟨⟨j+1,by omega,by go_num,by trivial,by rw[ht.out,List.all_append,hall];simp[hx]⟩,by simp[intOf];omega⟩
   | false =>
    have hm:=hno.out hx;clear hix;gi_wp2_with fail;refine⟨.bool false,by simp[results,f122,go_sem,ze],by rw[hm],hb1.setCell (p:=⟨w.heap.size+1,0,none⟩) (by simp) _⟩
  ·have uq:Hid (j=7):=ae (by omega)
   have hhd:Hid ((List.all [f,t,ep,ba,vo,po,va] db)=true):=ae (by rw[uq.out] at hall;exact hall)
   have Oa:(7:Int)<=(j:Int):=by have:=uq.out;omega
   have c8:wr.cell? (w.heap.size,8)=some (.slice am ms.length cm):=yG.out 8;clear hall hlt hj;gi_wp2_with fail;gi_loopw [37] (fun i wr'=>∃ j:Nat,j<=ms.length/\i=.int .i64 j/\wr'=wr/\(ms.take j).all db=true) (fun i _=>ms.length-(intOf i).toNat)
   case atStart=>exact⟨0,bl _,rfl,rfl,rfl⟩
   case round =>
    obtain⟨j,hj,rfl,rfl,hall⟩:=hrel;by_cases hlt:j<ms.length
    ·obtain⟨a',c',hv',hcells⟩:=Oq
     obtain⟨b1,o1,ha1,hcj⟩:=hcells j hlt;injection hv' with e1 _ e3
     subst e1 e3 ha1;have ht:Hid (ms.take (j+1)=ms.take j++[ms.getD j 0]):=mD _ _ hlt;have hno:Hid (db (ms.getD j 0)=false->jD k [f,t,ep,ba,vo,po,va] ms es=false):=fun h=>qn fun h'=>CW (l:=ms) hlt h h'.2.2.1;clear hcells;generalize ms.getD j 0=x at *;gi_wp2_with fail;refine⟨trivial,by simp[Fence.wide],(ei.2 (zn x _)).mono ?_⟩
     rintro e W2 ⟨rfl,rfl⟩;cases hx:db x with
     | true =>
      gi_wp2_with fail;exact⟨⟨j+1,by omega,by go_num,by trivial,by rw[ht.out,List.all_append,hall];simp[hx]⟩,by simp[intOf];omega⟩
     | false =>
      have hm:=hno.out hx;gi_wp2_with fail;refine⟨.bool false,by simp[results,f122,go_sem,ze],by rw[hm],hb1.setCell (p:=⟨w.heap.size+1,0,none⟩) (by simp) _⟩
    ·obtain rfl:j=ms.length:=by omega
     rw[je] at hall;have hms:Hid (ms.all db=true):=hall;have c9:wr.cell? (w.heap.size,9)=some (.slice al es.length cl):=yG.out 9;clear hall hlt hj;gi_wp2_with fail;refine⟨trivial,by simp[Fence.wide],(FG _ al es.length cl _).mono ?_⟩
     rintro e W2 ⟨rfl,rfl⟩;gi_wp2_with fail;obtain⟨X,hX,hbX,gJ,qX, -⟩:=fI wr #[.slice al es.length cl] 44;rw[hX];clear hX;have hb2:=hb1.trans (hbX.mono hb1.size);have An:=aS Ok fun k _ hk=>hbX.block k hk;have KX:X.cell? (w.heap.size+1,0)=some (.bool false):=(hbX.cell (p:=⟨w.heap.size+1,0,none⟩) wX).trans ze;have Me:X.frozen? (w.heap.size+1,0)=false:=(hbX.frozen (p:=⟨w.heap.size+1,0,none⟩) wX).trans Md;have V_:w.heap.size+1<X.heap.size:=by omega
     have Ax:wr.heap.size<X.heap.size:=by omega
     have Br:=qX 0;clear gJ qX c9;refine wpIn_rangeFunc_ownF rfl (by have:=hn.out;omega) (gf:=181) (lb:=#[.pointer (some wr.heap.size)]) rfl trivial (enters_of func181 (by kernel_rfl) rfl)
      (F8 (n-1) wr.heap.size base _ es X h4 Ax Br An) jQ.trans (fun W l o o' _ hl hc _=>Fv W l o o' hl hc) (ax _ _) (fun _=>rfl)
      (fun pre W=>(pre.all db=true/\W.cell? (w.heap.size+1,0)=some (.bool false)/\W.frozen? (w.heap.size+1,0)=false)/\ai w W)
      (fun c pre W=>(c=.ret/\pre.all db=false/\W.cell? (w.heap.size+1,0)=some (.bool false))/\ai w W)
      (OwnFrom.and (Own.from (fun s A B row hs hg hr=>⟨hs.1,cell_kept hs.2.1 hg hr,(frozen_kept hs.2.1 hg hr).trans hs.2.2⟩) _) (ownFrom_below (aG _) (by omega)))
      (fun c=>OwnFrom.and (Own.from (fun s A B row hs hg hr=>⟨hs.1,hs.2.1,cell_kept hs.2.2 hg hr⟩) _) (ownFrom_below (aG _) (by omega)))
      ⟨⟨rfl,KX,Me⟩,hb2⟩
      (fun x=>{ tmps:=#[Value.agg #[Value.int IntKind.i64 k,Value.int IntKind.i64 f,Value.int IntKind.i64 t,Value.int IntKind.i64 ep,Value.int IntKind.i64 ba,Value.int IntKind.i64 vo,Value.int IntKind.i64 po,Value.int IntKind.i64 va,Value.slice am ms.length cm,Value.slice al es.length cl],Value.pointer (some { block:=w.heap.size,off:=0 }),Value.pointer (some { block:=w.heap.size+1,off:=0 }),undef,u4,undef,u6,.int .i64 x,Value.pointer (some { block:=w.heap.size,off:=0 }),Value.int IntKind.i64 k,Value.bool true,Value.bool false,Value.bool false,Value.pointer (some { block:=w.heap.size,off:=8 }),Value.slice am ms.length cm,Value.int IntKind.i64 (ms.length:Int),Value.bool (decide (5<(ms.length:Int))),Value.bool (decide (5<(ms.length:Int))),Value.bool (decide (5<(ms.length:Int))),Value.pointer (some { block:=w.heap.size,off:=9 }),Value.slice al es.length cl,Value.int IntKind.i64 (es.length:Int),Value.bool (decide (24<(es.length:Int))),Value.bool (decide (5<(ms.length:Int)) || decide (24<(es.length:Int))),Value.agg #[Value.pointer (some { block:=w.heap.size,off:=1 }),Value.pointer (some { block:=w.heap.size,off:=2 }),Value.pointer (some { block:=w.heap.size,off:=3 }),Value.pointer (some { block:=w.heap.size,off:=4 }),Value.pointer (some { block:=w.heap.size,off:=5 }),Value.pointer (some { block:=w.heap.size,off:=6 }),Value.pointer (some { block:=w.heap.size,off:=7 })],Value.int IntKind.i64 (j:Int),Value.bool (decide ((j:Int)<7)),u27,u28,u29,u30,u31,u32,u33,Value.pointer (some { block:=w.heap.size,off:=8 }),Value.slice am ms.length cm,Value.int IntKind.i64 (ms.length:Int),Value.int IntKind.i64 (ms.length:Int),Value.bool false,u39,u40,u41,u42,u43,u44,Value.pointer (some { block:=w.heap.size,off:=9 }),Value.slice al es.length cl,Value.func (Fn.func 181) #[] #[Value.pointer (some { block:=wr.heap.size,off:=0 })],.int .i64 x,undef,undef,undef],defers:=[] }) ?assign ?bX ?done ?stop
     case assign =>
      intro l x W K hK;gi_wp2;exact hK
     case bX =>
      rintro l pre x W ⟨⟨hp,hcr,hfr⟩,hB⟩ _;gi_wp2_with fail;refine⟨trivial,by simp[Fence.wide],(CallsIn.inRound l (ei.2 (zn x _))).mono ?_⟩
      rintro e W2 ⟨rfl,rfl⟩;cases hx:db x with
      | true =>
       gi_wp2;exact⟨KeepsOthers.refl _,jQ.refl _,⟨by rw[List.all_append,hp];simp[hx],hcr,hfr⟩,hB⟩
      | false =>
       gi_wp2;exact⟨KeepsOthers.setCell _ _ _,⟨rfl,by rw[List.all_append];simp[hx],World.cell?_setCell_same' _ _ _ (by rw[hcr];rfl)⟩,hB.setCell (p:=⟨w.heap.size+1,0,none⟩) (by simp) _⟩
     case done =>
      rintro D ys W hD rfl ⟨⟨hp,hcr,hfr⟩,hB⟩ hK;have hm:Hid (jD k [f,t,ep,ba,vo,po,va] ms es=true):=(qp _ _ _ _).2 ⟨⟨h1,h2,h3,h4⟩,hhd.out,hms.out,hp⟩;gi_wp2;have hK':=(KeepsOthers.setCell W ⟨w.heap.size+1,0,none⟩ (.bool true)).same D _ hK rfl;refine⟨by simp,.inl ⟨_,_,rfl,run_takeDeferred hK', ?_⟩⟩
      have kW:=cell_kept (World.cell?_setCell_same' W ⟨w.heap.size+1,0,none⟩ (.bool true) (by rw[hcr];rfl)) (grownBy_putObj' _ D (.deferred none)) (fun r e=>by cases e;exact⟨_,hK',rfl⟩)
      refine⟨.bool true, ?_,by rw[hm.out],(hB.setCell (p:=⟨w.heap.size+1,0,none⟩) (by simp) _).trans (belowK_b (w:=w) (aG _) _ D _ _ (by omega) hK' rfl rfl)⟩
      simp[results,f122,go_sem,kW]
     case stop =>
      rintro D c pre W hD hpre ⟨⟨rfl,hin,hcr⟩,hB⟩ hK;have hm:Hid (jD k [f,t,ep,ba,vo,po,va] ms es=false):=qn fun h'=>by
       have h5:=h'.2.2.2;obtain⟨rest,hr⟩:=hpre;rw[<- hr,List.all_append,hin] at h5;cases h5
      gi_wp2;refine⟨by simp,.inl ⟨_,_,rfl,run_takeDeferred hK, ?_⟩⟩
      have kW:=cell_kept hcr (grownBy_putObj' _ D (.deferred none)) (fun r e=>by cases e;exact⟨_,hK,rfl⟩)
      refine⟨.bool false, ?_,by rw[hm.out],hB.trans (belowK_b (w:=w) (aG _) W D _ _ (by omega) hK rfl rfl)⟩
      simp[results,f122,go_sem,kW]
end Go.Proofs.YtgieeeeeiggoeaaGreat
namespace Go.Proofs.YtgieeeeeiggoeaaGreat
open Go.RowKit Go.Shelf
open Tryz
variable {S:TypeId->Bool}{v:Value}{A B:World}
attribute [local go_sem] Oper.semAt_some
def fL (S:TypeId->Bool)(A B:World):Prop:=∀ (k:Nat) (cs:Array Value) (T:TypeId) (fz:Nat × Nat),S T=true->A.heap[k]?=some (Obj.cells cs T fz)->B.heap[k]?=some (Obj.cells cs T fz)
theorem fL.refl (S:TypeId->Bool)(W:World):fL S W W:=fun _ _ _ _ _ h=>h
theorem fL.trans {C:World}(h:fL S A B)(k:fL S B C):fL S A C:=fun i cs T fz h1 h3=>k i cs T fz h1 (h i cs T fz h1 h3)
theorem fL.below (h:ai A B):fL S A B:=fun i _ _ _ _ h3=>(h.block i (aQ h3)).trans h3
theorem AL (S:TypeId->Bool)(W:World)(l:Nat)(o o':Obj)(hl:W.heap[l]?=some o)(hc:o.isCells=false):fL S W (W.putObj l o'):=by
 intro k cs T fz _ h;have hne:l≠k:=by
  intro e;subst e;rw[h] at hl;injection hl with hl
  subst hl;cases hc
 rw[World.putObj_heap_other (Ne.symm hne)];exact h
def pq : TypeId->Bool:=fun _=>true
theorem fL.cell (h:fL pq A B){p:Addr}(hc:A.cell? p=some v):B.cell? p=some v:=by
 cases hb:A.heap[p.block]? with
 | none=>simp[World.cell?,hb] at hc
 | some o =>
  cases o with
  | cells cs T fz =>
   have:=h p.block cs T fz rfl hb;rw[iR (this.trans hb.symm)];exact hc
  | _=>simp[World.cell?,hb] at hc
theorem bJ.nM {l:List Int}(h:bJ A v l)(k:fL pq A B):bJ B v l:=by
 obtain⟨a,c,rfl,h⟩:=h;refine⟨a,c,rfl,fun i hi => ?_⟩
 obtain⟨b,off,ha,hc⟩:=h i hi;exact⟨b,off,ha,k.cell hc⟩
def l_ (l:List Int)(x:Int):List Int:=if x∈l then l.drop (l.idxOf x+1) else []
def l9 (l:List Int)(x:Int):List Int:=if x∈l then (l.take (l.idxOf x)).reverse else []
theorem LX (l:List Int)(i k:Nat):(l.drop i).getD k 0=l.getD (i+k) 0:=by
 simp[List.getD,List.getElem?_drop]
theorem Sm {w:World}{a:Option Addr}{c:Nat}{L:List Int}(h:bJ w (.slice a L.length c) L)(hcap:L.length<=c)(i:Nat)(hi:i<L.length) :
  ∃ b off A,a=some ⟨b,off,none⟩/\(if c=i+1 then some (⟨b,off,none⟩:Addr) else some ⟨b,off+(i+1),none⟩)=some A/\bJ w (.slice (some A) (L.length-(i+1)) (c-(i+1))) (L.drop (i+1)):=by
 obtain⟨a',c',e,hc⟩:=h;cases e;obtain⟨b,off,rfl, -⟩:=hc i hi;by_cases hci:c=i+1
 ·refine⟨b,off,⟨b,off,none⟩,rfl,by rw[if_pos hci], ?_⟩
  refine⟨_,_,by rw[iQ],fun k hk => ?_⟩
  rw[iQ] at hk;omega
 ·refine⟨b,off,⟨b,off+(i+1),none⟩,rfl,by rw[if_neg hci], ?_⟩
  refine⟨_,_,by rw[iQ],fun k hk => ?_⟩
  rw[iQ] at hk;obtain⟨b',off',e,hb⟩:=hc (i+1+k) (by omega)
  cases e;exact⟨b,off+(i+1),rfl,by rw[LX,Nat.add_assoc];exact hb⟩
theorem KD (n l B0 B1:Nat)(a:Option Addr)(c:Nat)(L:List Int)(x:Int)(hL:L.length<=1000)(hcap:L.length<=c)(J Jx:List Int->World->Prop)(W:World)
  (hY:∀ pre y W1,J pre W1->pre.length<(l_ L x).length->YieldAt Fence.wide (n-1) prog l #[.int .i64 y] W1 fun e W' =>
   (e=.returned (.bool true)/\J (pre++[y]) W'/\fL pq W1 W')\/(e=.returned (.bool false)/\Jx (pre++[y]) W'))
  (h0:W.cell? (B0,0)=some (.slice a L.length c)) (h1:W.cell? (B1,0)=some (.int .i64 x)) (hv:bJ W (.slice a L.length c) L) (hJ:J [] W) :
  CallsIn Fence.wide n prog 294 #[.func (.yield l) #[] #[],B0,B1] W fun e W'=>(∃ v,e=.returned v) /\
   ((∃ ys,ys=l_ L x/\J ys W')\/(∃ pre,pre <+: l_ L x/\Jx pre W')):=by
 have HI:=ae (w_ _ L x W hv (by omega))
 have Ht:=ae (Sm hv hcap);clear hv;by_cases hx:x∈L
 ·have hix:Hid (gU L x=(L.idxOf x:Int)):=ae (by unfold gU;rw[if_pos hx])
  have hil:L.idxOf x<L.length:=List.idxOf_lt_length_of_mem hx;have Hb:Hid (l_ L x=L.drop (L.idxOf x+1)):=ae (by unfold l_;rw[if_pos hx])
  rw[hix.out] at HI;generalize L.idxOf x=i at *;obtain⟨b,off,A,rfl,hA,hT⟩:=Ht.out i hil;clear Ht;have hle:(i:Int)+1<=(L.length:Int):=by omega
  have hle0:(0:Int)<=(i:Int)+1:=by omega
  have Hl:Hid ((L.drop (i+1)).length=L.length-(i+1)):=ae (by simp)
  have HY:=ae hY;rw[Hb.out];rw[Hb.out] at HY;have hln:(L.drop (i+1)).length<=1000:=by rw[iQ];omega
  rw[<- Hl.out] at hT;generalize L.drop (i+1)=M at *;refine callsIn_of_wp func294 rfl trivial ?_ rfl
  simp only [ntmps294,jr,eu,fG,Nat.reduceAdd,Nat.reduceSub,jG,jH,jJ,jI,fH,js];gi_wp2_with fail;refine⟨trivial,by simp[Fence.wide],(ei.2 HI.out).mono ?_⟩
  rintro e W1 ⟨rfl,rfl⟩;gi_wp2_with fail;rw[<- Hl.out];gi_loopw [17] (fun j wr=>∃ k:Nat,k<=M.length/\j=.int .i64 k/\J (M.take k) wr/\bJ wr (.slice (some A) M.length (c-(i+1))) M) (fun j _=>M.length-(intOf j).toNat)
  case atStart=>exact⟨0,bl _,rfl,hJ,hT⟩
  case round =>
   obtain⟨k,hk,rfl,ku,hM⟩:=hrel;by_cases hlt:k<M.length
   ·have hM1:=ae hM
    obtain⟨a',c',e',hcc⟩:=hM;obtain⟨b1,o1,ha1,hck⟩:=hcc k hlt;cases e';cases ha1;have ht:Hid (M.take (k+1)=M.take k++[M.getD k 0]):=mD M k hlt;obtain⟨fn,tmps,assign,bX,hy,hR⟩:=HY.out (M.take k) (M.getD k 0) _ ku (by rw[dA];omega)
    clear hcc hA;have hk1:(k:Int)<(M.length:Int):=by omega
    generalize M.getD k 0=z at *;gi_wp2;refine⟨by simp[Fence.wide],hR.mono ?_⟩
    rintro e W3 (⟨rfl,hJ3,hk3⟩|⟨rfl,hJx3⟩)
    ·gi_wp2
     go_roundw
     case rel=>exact⟨k+1,by omega,by go_num,by rw[ht.out];exact hJ3,hM1.out.nM hk3⟩
     case measure=>simp[intOf];omega
    ·gi_wp2
     refine dB (results_none rfl _ _ _) rfl ?_
     exact⟨⟨_,rfl⟩,.inr ⟨_,by rw[<- ht.out];exact List.take_prefix _ _,hJx3⟩⟩
   ·obtain rfl:k=M.length:=by omega
    rw[je] at ku;gi_wp2;go_end0;exact⟨⟨_,rfl⟩,.inl ⟨_,rfl,ku⟩⟩
 ·have hix:Hid (gU L x = -1):=ae (AH L x hx)
  have Hb:Hid (l_ L x=[]):=ae (by unfold l_;rw[if_neg hx])
  rw[hix.out] at HI;refine callsIn_of_wp func294 rfl trivial ?_ rfl
  simp only [ntmps294,jr,eu,fG,Nat.reduceAdd,Nat.reduceSub,jG,jH,jJ,jI,fH,js];gi_wp2_with fail;refine⟨trivial,by simp[Fence.wide],(ei.2 HI.out).mono ?_⟩
  rintro e W1 ⟨rfl,rfl⟩;gi_wp2_with fail;refine dB (results_none rfl _ _ _) rfl ?_
  exact⟨⟨_,rfl⟩,.inl ⟨_,Hb.out.symm,hJ⟩⟩
theorem KE (n B0 B1:Nat)(a:Option Addr)(c:Nat)(L:List Int)(x:Int)(w:World)(hL:L.length<=1000)(hcap:L.length<=c)
  (h0:w.cell? (B0,0)=some (.slice a L.length c)) (h1:w.cell? (B1,0)=some (.int .i64 x)) (hv:bJ w (.slice a L.length c) L) :
  SeqStopsK Fence.wide n prog 294 #[B0,B1] (fun y:Int=>#[Value.int .i64 y]) (fL pq) (fun ys=>ys=l_ L x) (fun pre=>pre <+: l_ L x) (l_ L x).length w :=
 fun l J Jx W hW _ _ hY hJ=>KD n l B0 B1 a c L x hL hcap J Jx W hY (aF hW h0) (aF hW h1) (hv.below hW) hJ
theorem Un (L:List Int)(i k:Nat)(hi:i<=L.length)(hk:k<i):(L.take i).reverse.getD k 0=L.getD (i-1-k) 0:=by
 simp[List.getD];rw[List.getElem?_reverse (by simp;omega)]
 simp[Nat.min_eq_left hi];rw[List.getElem?_take_of_lt (by omega)]
theorem J7 (n l B0 B1:Nat)(a:Option Addr)(c:Nat)(L:List Int)(x:Int)(hL:L.length<=1000)(J Jx:List Int->World->Prop)(W:World)
  (hY:∀ pre y W1,J pre W1->pre.length<(l9 L x).length->YieldAt Fence.wide (n-1) prog l #[.int .i64 y] W1 fun e W' =>
   (e=.returned (.bool true)/\J (pre++[y]) W'/\fL pq W1 W')\/(e=.returned (.bool false)/\Jx (pre++[y]) W'))
  (h0:W.cell? (B0,0)=some (.slice a L.length c)) (h1:W.cell? (B1,0)=some (.int .i64 x)) (hv:bJ W (.slice a L.length c) L) (hJ:J [] W) :
  CallsIn Fence.wide n prog 297 #[.func (.yield l) #[] #[],B0,B1] W fun e W'=>(∃ v,e=.returned v) /\
   ((∃ ys,ys=l9 L x/\J ys W')\/(∃ pre,pre <+: l9 L x/\Jx pre W')):=by
 have HI:=ae (w_ _ L x W hv (by omega))
 have Hv:=ae hv;clear hv;by_cases hx:x∈L
 ·have hix:Hid (gU L x=(L.idxOf x:Int)):=ae (by unfold gU;rw[if_pos hx])
  have hil:L.idxOf x<L.length:=List.idxOf_lt_length_of_mem hx;have Hb:Hid (l9 L x=(L.take (L.idxOf x)).reverse):=ae (by unfold l9;rw[if_pos hx])
  rw[hix.out] at HI;generalize L.idxOf x=i at *;have HY:=ae hY;rw[Hb.out];rw[Hb.out] at HY;have Hg:=ae (Un L i);have Hl:Hid ((L.take i).reverse.length=i):=ae (by simp;omega)
  generalize (L.take i).reverse=M at *;refine callsIn_of_wp func297 rfl trivial ?_ rfl
  simp only [ntmps297,jr,eu,fG,Nat.reduceAdd,Nat.reduceSub,jG,jH,jJ,jI,fH,js];gi_wp2_with fail;refine⟨trivial,by simp[Fence.wide],(ei.2 HI.out).mono ?_⟩
  rintro e W1 ⟨rfl,rfl⟩;gi_wp2_with fail;gi_loopw [4] (fun j wr=>∃ k:Nat,k<=i/\j=.int .i64 ((i:Int)-1-k)/\J (M.take k) wr/\Hid (bJ wr (.slice a L.length c) L)/\wr.cell? (B0,0)=some (.slice a L.length c)) (fun j _=>(intOf j+1).toNat)
  case atStart=>exact⟨0,bl _,by simp,hJ,Hv,h0⟩
  case round =>
   obtain⟨k,hk,rfl,ku,hM,hB0⟩:=hrel;by_cases hlt:k<i
   ·have hM1:=hM
    obtain⟨a',c',e',hcc⟩:=hM.out;obtain⟨b1,o1,ha1,hck⟩:=hcc (i-1-k) (by omega)
    cases e';cases ha1;have VV:wr.cell? ⟨b1,o1+(i-1-k),none⟩=some (.int .i64 (M.getD k 0)):=by rw[Hg.out k (by omega) hlt];exact hck
    have ht:Hid (M.take (k+1)=M.take k++[M.getD k 0]):=mD M k (by rw[Hl.out];exact hlt)
    obtain⟨fn,tmps,assign,bX,hy,hR⟩:=HY.out (M.take k) (M.getD k 0) _ ku (by rw[dA,Hl.out];omega)
    clear hcc hck;have hk1:(0:Int)<=(i:Int)-1-(k:Int):=by omega
    have hk2:(i:Int)-1-(k:Int)<(L.length:Int):=by omega
    have hk3:((i:Int)-1-(k:Int)).toNat=i-1-k:=by omega
    generalize M.getD k 0=z at *;gi_wp2;refine⟨by simp[Fence.wide],hR.mono ?_⟩
    rintro e W3 (⟨rfl,hJ3,hk3⟩|⟨rfl,hJx3⟩)
    ·gi_wp2
     go_roundw
     case rel=>exact⟨k+1,by omega,by go_num,by rw[ht.out];exact hJ3,hM1.out.nM hk3,hk3.cell hB0⟩
     case measure=>simp[intOf];omega
    ·gi_wp2
     refine dB (results_none rfl _ _ _) rfl ?_
     exact⟨⟨_,rfl⟩,.inr ⟨_,by rw[<- ht.out];exact List.take_prefix _ _,hJx3⟩⟩
   ·obtain rfl:k=i:=by omega
    rw[jF (by rw[Hl.out];exact aG _)] at ku
    gi_wp2;go_end0;exact⟨⟨_,rfl⟩,.inl ⟨_,rfl,ku⟩⟩
 ·have hix:Hid (gU L x = -1):=ae (AH L x hx)
  have Hb:Hid (l9 L x=[]):=ae (by unfold l9;rw[if_neg hx])
  rw[hix.out] at HI;refine callsIn_of_wp func297 rfl trivial ?_ rfl
  simp only [ntmps297,jr,eu,fG,Nat.reduceAdd,Nat.reduceSub,jG,jH,jJ,jI,fH,js];gi_wp2_with fail;refine⟨trivial,by simp[Fence.wide],(ei.2 HI.out).mono ?_⟩
  rintro e W1 ⟨rfl,rfl⟩;gi_wp2_with fail;gi_loopw [4] (fun j wr=>j=.int .i64 (-2)/\J [] wr) (fun _ _=>0)
  case atStart=>exact⟨rfl,hJ⟩
  case round =>
   obtain⟨rfl,ku⟩:=hrel;gi_wp2;go_end0;exact⟨⟨_,rfl⟩,.inl ⟨_,Hb.out.symm,ku⟩⟩
theorem J8 (n B0 B1:Nat)(a:Option Addr)(c:Nat)(L:List Int)(x:Int)(w:World)(hL:L.length<=1000)
  (h0:w.cell? (B0,0)=some (.slice a L.length c)) (h1:w.cell? (B1,0)=some (.int .i64 x)) (hv:bJ w (.slice a L.length c) L) :
  SeqStopsK Fence.wide n prog 297 #[B0,B1] (fun y:Int=>#[Value.int .i64 y]) (fL pq) (fun ys=>ys=l9 L x) (fun pre=>pre <+: l9 L x) (l9 L x).length w :=
 fun l J Jx W hW _ _ hY hJ=>J7 n l B0 B1 a c L x hL J Jx W hY (aF hW h0) (aF hW h1) (hv.below hW) hJ
end Go.Proofs.YtgieeeeeiggoeaaGreat
namespace Go.Proofs.YtgieeeeeiggoeaaGreat
open Go.RowKit Go.Shelf
open Tryz
variable {ps:List (Addr × Value)}{es:List aH}{g:Nat}{v:Value}{A B w:World}
attribute [local go_sem] Oper.semAt_some
def eP (e:aH):Value:=.agg #[e.client,e.seq,e.kind,e.key,e.value]
def iv (w:World)(v:Value)(es:List aH):Prop:=(es=[]/\∃ a c,v=.slice a 0 c)\/(∃ g c,v=.slice (some ⟨g,0,none⟩) es.length c/\gR w g es)
def qO : TypeId->Bool:=fun T=>T == 42
theorem gR.nM (h:gR A g es)(k:fL qO A B):gR B g es:=by
 obtain⟨cur,fz,h1,h2⟩:=h;have h3:=k g cur 42 fz rfl h1;have e:B.heap[g]?=A.heap[g]?:=h3.trans h1.symm;refine⟨cur,fz,h3,fun i hi => ?_⟩
 rw[mI e,mI e,mI e,mI e,mI e];exact h2 i hi
theorem iv.nM (h:iv A v es)(k:fL qO A B):iv B v es:=by
 rcases h with h|⟨g,c,rfl,h⟩
 ·exact .inl h
 ·exact .inr ⟨g,c,rfl,h.nM k⟩
theorem iv.below (h:iv A v es)(k:ai A B):iv B v es:=h.nM (fL.below k)
theorem iv.cM {base:Nat}(h:w.ownsRow base 42 5 v es.length (aJ (bk es))):iv w v es:=by
 rcases h.2 with ⟨rfl,h0⟩|⟨g,cap,cur,rfl,_⟩
 ·exact .inl ⟨List.eq_nil_of_length_eq_zero h0,_,_,rfl⟩
 ·exact .inr ⟨g,cap,rfl,gR.cM h⟩
theorem iv.shape (h:iv w v es):∃ a c,v=.slice a es.length c:=by
 rcases h with ⟨rfl,a,c,rfl⟩|⟨g,c,rfl,_⟩
 ·exact⟨a,c,rfl⟩
 ·exact⟨_,c,rfl⟩
theorem gR.take (h:gR w g es)(k:Nat):gR w g (es.take k):=by
 obtain⟨cur,fz,h1,h2⟩:=h;refine⟨cur,fz,h1,fun i hi => ?_⟩
 rw[dA] at hi;have e:(es.take k).getD i aH.zero=es.getD i aH.zero:=by simp[List.getD,List.getElem?_take_of_lt (show i<k by omega)]
 rw[e];exact h2 i (by omega)
def qQ (P:aH->Bool)(es:List aH)(i:Nat):Option (Nat × aH):=if P (es.getD i aH.zero) then some (i,es.getD i aH.zero) else none
def lD (P:aH->Bool)(es:List aH)(k:Nat):List (Nat × aH):=(List.range k).filterMap (qQ P es)
def kS (P:aH->Bool)(es:List aH):List (Nat × aH):=lD P es es.length
theorem DZ (P:aH->Bool)(es:List aH)(k:Nat):lD P es (k+1)=lD P es k++(if P (es.getD k aH.zero) then [(k,es.getD k aH.zero)] else []):=by
 unfold lD;rw[List.range_succ,List.filterMap_append];congr 1;rw[List.filterMap_cons,List.filterMap_nil];unfold qQ;split<;>rename_i h<;>split at h<;>simp_all
theorem Mv (P:aH->Bool)(es:List aH)(k:Nat)(hk:k<=es.length):lD P es k <+: kS P es:=by
 unfold kS lD;obtain⟨d,hd⟩:∃ d,es.length=k+d:=⟨es.length-k,by omega⟩
 rw[hd,List.range_add,List.filterMap_append];exact List.prefix_append _ _
def ki (ps:List (Addr × Value))(W:World):Prop:=∀ q∈ps,W.cell? q.1=some q.2
theorem ki.below (h:ki ps A)(hb:ai A B):ki ps B:=fun q hq=>aF hb (h q hq)
def iW (ps:List (Addr × Value))(A B:World):Prop:=fL qO A B/\(ki ps A->ki ps B)
theorem iW.trans {C:World}(h:iW ps A B)(k:iW ps B C):iW ps A C:=⟨h.1.trans k.1,fun x=>k.2 (h.2 x)⟩
theorem iW.below (h:ai A B):iW ps A B:=⟨fL.below h,fun x=>x.below h⟩
theorem uM (ps:List (Addr × Value))(W:World)(l:Nat)(o o':Obj)(hl:W.heap[l]?=some o)(hc:o.isCells=false):iW ps W (W.putObj l o') :=
 ⟨AL qO W l o o' hl hc,fun h q hq=>(AL pq W l o o' hl hc).cell (h q hq)⟩
theorem Mw (n l B0 B1:Nat)(v:Value)(es:List aH)(gf:Nat)(gb:Array Value)(P:aH->Bool)(ps:List (Addr × Value))(hl:es.length<=1000)
  (J Jx:List (Nat × aH)->World->Prop) (W:World) (hJ:AbidesFrom W.heap.size J)
  (eg:∀ args w,(callFunc gf args).run prog w=.ok (.enter gf args) w)
  (hF:∀ W1 e,ki ps W1->CallsIn Fence.wide (n-1) prog gf (#[eP e]++gb) W1 fun r W'=>r=.returned (.bool (P e))/\ai W1 W')
  (hY:∀ pre (y:Nat × aH) W1,J pre W1->pre.length<(kS P es).length->YieldAt Fence.wide (n-1) prog l #[.int .i64 y.1,eP y.2] W1 fun e W' =>
   (e=.returned (.bool true)/\J (pre++[y]) W'/\iW ((⟨B1,0,none⟩,.func (.func gf) #[] gb) :: ps) W1 W')\/(e=.returned (.bool false)/\Jx (pre++[y]) W'))
  (h0:W.cell? ⟨B0,0,none⟩=some v) (hps:ki ((⟨B1,0,none⟩,.func (.func gf) #[] gb) :: ps) W) (hv:iv W v es) (hJ0:J [] W) :
  CallsIn Fence.wide n prog 295 #[.func (.yield l) #[] #[],.pointer (some ⟨B0,0,none⟩),.pointer (some ⟨B1,0,none⟩)] W fun e W'=>(∃ v,e=.returned v) /\
   ((∃ ys,ys=kS P es/\J ys W')\/(∃ pre,pre <+: kS P es/\Jx pre W')):=by
 rcases hv with ⟨rfl,a,c,rfl⟩|⟨g,c,rfl,hv⟩
 ·refine callsIn_of_wp func295 rfl trivial ?_ rfl
  simp only [ntmps295,jr,eu,fG,Nat.reduceAdd,Nat.reduceSub,jG,jH,jJ,jI,fH,js];gi_wp2_with fail;gi_loopw [8] (fun i wr=>i=.int .i64 0/\J [] wr) (fun _ _=>0)
  case atStart=>exact⟨rfl,hJ0⟩
  case round =>
   obtain⟨rfl,hJs⟩:=hrel;gi_wp2;go_end0;exact⟨⟨_,rfl⟩,.inl ⟨_,rfl,hJs⟩⟩
 ·have HV:=ae hv
  have HP:=ae hps;have HF:=ae hF;have HY:=ae hY;clear hv hF hY hps;refine callsIn_of_wp func295 rfl trivial ?_ rfl
  simp only [ntmps295,jr,eu,fG,Nat.reduceAdd,Nat.reduceSub,jG,jH,jJ,jI,fH,js];gi_wp2_with fail;gi_loopw [8] (fun i wr=>∃ k:Nat,k<=es.length/\i=.int .i64 k/\J (lD P es k) wr/\Hid (gR wr g es)/\Hid (ki ((⟨B1,0,none⟩,.func (.func gf) #[] gb) :: ps) wr)) (fun i _=>es.length-(intOf i).toNat)
  case atStart=>exact⟨0,bl _,rfl,hJ0,HV,HP⟩
  case round =>
   obtain⟨k,hk,rfl,ku,hR,hP⟩:=hrel;by_cases hlt:k<es.length
   ·obtain⟨cur,fz,hg,hc⟩:=hR.out
    obtain⟨c0,c1,c2,c3,c4⟩:=hc k hlt;have hfn:wr.cell? ⟨B1,0,none⟩=some (.func (.func gf) #[] gb):=hP.out _ fS;have hlB:B1<wr.heap.size:=by
     rcases Nat.lt_or_ge B1 wr.heap.size with h|h
     ·exact h
     ·simp[World.cell?,Array.getElem?_eq_none h] at hfn
    have hs:=ae (DZ P es k);have vR:=ae (Mv P es (k+1) (by omega))
    generalize es.getD k aH.zero=x at *;clear hc hg;gi_wp2_with fail;obtain⟨A,hA,fp,hszA,qA, -⟩:=fI wr #[.int .i64 x.client,.int .i64 x.seq,.int .i64 x.kind,.int .i64 x.key,.int .i64 x.value] 42;rw[hA];clear hA;have Nc:=hP.out.below fp;refine⟨trivial,by simp[Fence.wide],(HF.out A x (fun q hq=>Nc q (List.mem_cons_of_mem _ hq))).mono ?_⟩
    rintro e A2 ⟨rfl,sD⟩;have hb2:ai wr A2:=fp.trans (sD.mono fp.size);have hJ2:=hJ _ _ _ none ku (Eb hb2) (fun r e=>by cases e)
    have hR2:=ae (hR.out.nM (fL.below hb2));have hP2:=ae (hP.out.below hb2);cases hpx:P x with
    | false =>
     have ht:Hid (lD P es (k+1)=lD P es k):=ae (by rw[hs.out,hpx];simp)
     gi_wp2;refine⟨fun f h=>(by cases h), ?_⟩
     gi_wp2;go_roundw
     case rel=>exact⟨k+1,by omega,by go_num,by rw[ht.out];exact hJ2,hR2,hP2⟩
     case measure=>simp[intOf];omega
    | true =>
     have ht:Hid (lD P es (k+1)=lD P es k++[(k,x)]):=ae (by rw[hs.out,hpx];simp)
     have d0:=aF sD (qA 0);have d1:=aF sD (qA 1);have d2:=aF sD (qA 2);have d3:=aF sD (qA 3);have d4:=aF sD (qA 4);obtain⟨fn,tmps,assign,bX,hy,zM⟩:=HY.out (lD P es k) (k,x) _ hJ2 (by
      have:=vR.out.length_le;rw[ht.out,bG] at this;simp at this;omega)
     clear qA;dsimp only [eP] at hy;gi_wp2;refine⟨by simp[Fence.wide],zM.mono ?_⟩
     rintro e W3 (⟨rfl,hJ3,hk3⟩|⟨rfl,hJx3⟩)
     ·gi_wp2
      go_roundw
      case rel=>exact⟨k+1,by omega,by go_num,by rw[ht.out];exact hJ3,ae (hR2.out.nM hk3.1),ae (hk3.2 hP2.out)⟩
      case measure=>simp[intOf];omega
     ·gi_wp2
      refine dB (results_none rfl _ _ _) rfl ?_
      exact⟨⟨_,rfl⟩,.inr ⟨_,by rw[<- ht.out];exact vR.out,hJx3⟩⟩
   ·obtain rfl:k=es.length:=by omega
    gi_wp2;go_end0;exact⟨⟨_,rfl⟩,.inl ⟨_,rfl,ku⟩⟩
theorem zp (n B0 B1:Nat)(v:Value)(es:List aH)(gf:Nat)(gb:Array Value)(P:aH->Bool)(ps:List (Addr × Value))(w:World)(hl:es.length<=1000)
  (eg:∀ args w,(callFunc gf args).run prog w=.ok (.enter gf args) w)
  (hF:∀ W1 e,ki ps W1->CallsIn Fence.wide (n-1) prog gf (#[eP e]++gb) W1 fun r W'=>r=.returned (.bool (P e))/\ai W1 W')
  (h0:w.cell? ⟨B0,0,none⟩=some v) (hps:ki ((⟨B1,0,none⟩,.func (.func gf) #[] gb) :: ps) w) (hv:iv w v es) :
  SeqStopsK Fence.wide n prog 295 #[.pointer (some ⟨B0,0,none⟩),.pointer (some ⟨B1,0,none⟩)] (fun y:Nat × aH=>#[Value.int .i64 (y.1:Int),eP y.2]) (iW ((⟨B1,0,none⟩,.func (.func gf) #[] gb) :: ps)) (fun ys=>ys=kS P es) (fun pre=>pre <+: kS P es) (kS P es).length w :=
 fun l J Jx W hW hJ _ hY hJ0=>Mw n l B0 B1 v es gf gb P ps hl J Jx W hJ eg hF hY (aF hW h0) (hps.below hW) (hv.below hW) hJ0
end Go.Proofs.YtgieeeeeiggoeaaGreat
namespace Go.Proofs.YtgieeeeeiggoeaaGreat
open Go.RowKit Go.Shelf
open Tryz
attribute [local go_sem] Oper.semAt_some
theorem xP {W:World}{A B:Nat}{u0 v0:Value}(u v:Value)(hne:A≠B)(ha:W.cell? (A,0)=some u0)(hb:W.cell? (B,0)=some v0) :
  ((W.setCell A u).setCell B v).cell? (A,0)=some u/\((W.setCell A u).setCell B v).cell? (B,0)=some v:=by
 constructor
 ·rw[oK _ _ _ _ (by intro e;injection e with e;exact hne e.symm)]
  exact World.cell?_setCell_same' _ _ _ (by rw[ha];rfl)
 ·refine World.cell?_setCell_same' _ _ _ ?_
  rw[oK _ _ _ _ (by intro e;injection e with e;exact hne e),hb]
  rfl
theorem DX (n:Nat)(hn:Hid (3<=n))(gf:Nat)(lb:Array Value)(L:List Int)(w:World)(eg:∀ args w,(callFunc gf args).run prog w=.ok (.enter gf args) w)
  (hseq:∀ W,ai w W->SeqStopsK Fence.wide (n-1) prog gf lb (fun y:Int=>#[Value.int .i64 y]) (fL pq) (fun ys=>ys=L) (fun pre=>pre <+: L) L.length W) :
  CallsIn Fence.wide n prog 287 #[.func (.func gf) #[] lb] w fun e w'=>e=.returned (.tuple #[.int .i64 (L.headD 0),.bool (!L.isEmpty)])/\ai w w':=by
 refine callsIn_of_wp_marks func287 rfl trivial ?_ rfl
 simp only [ntmps287,jr,eu,fG,Nat.reduceAdd,Nat.reduceSub,jG,jH,jJ,jI,fH,js];gi_wp2_with fail;obtain⟨X1,hX1,kA,ry,q1,f1⟩:=fI w #[()] 3;rw[hX1];obtain⟨X,hX,hbX,gJ,q2,f2⟩:=fI X1 #[.bool false] 4;rw[hX];clear hX hX1;have hb:ai w X:=kA.trans (hbX.mono kA.size);have cA:X.cell? (w.heap.size,0)=some (.int .i64 0):=(hbX.cell (p:=⟨w.heap.size,0,none⟩) (by show w.heap.size<_;omega)).trans (q1 0)
 have fA:X.frozen? (w.heap.size,0)=false:=(hbX.frozen (p:=⟨w.heap.size,0,none⟩) (by show w.heap.size<_;omega)).trans (f1 0)
 have cB:X.cell? (w.heap.size+1,0)=some (.bool false):=by have:=q2 0;rw[ry] at this;exact this
 have fB:X.frozen? (w.heap.size+1,0)=false:=by have:=f2 0;rw[ry] at this;exact this
 have hsz:X.heap.size=w.heap.size+1+1:=by omega
 clear q1 q2 f1 f2 hbX kA gJ ry;have hs:=hseq X hb;refine wpIn_rangeFunc_ownF rfl (by have:=hn.out;omega) (gf:=gf) (lb:=lb) rfl trivial eg
  hs fL.trans (fun W l o o' _ hl hc _=>AL pq W l o o' hl hc) (ax _ _) (fun _=>rfl)
  (fun pre W=>(pre=[]/\W.cell? (w.heap.size,0)=some (.int .i64 0)/\W.frozen? (w.heap.size,0)=false/\W.cell? (w.heap.size+1,0)=some (.bool false)/\W.frozen? (w.heap.size+1,0)=false)/\ai w W)
  (fun c pre W=>(c=.ret/\∃ y,pre=[y]/\W.cell? (w.heap.size,0)=some (.int .i64 y)/\W.cell? (w.heap.size+1,0)=some (.bool true))/\ai w W)
  (OwnFrom.and (Own.from (fun s A B row hs hg hr=>⟨hs.1,cell_kept hs.2.1 hg hr,(frozen_kept hs.2.1 hg hr).trans hs.2.2.1,cell_kept hs.2.2.2.1 hg hr,(frozen_kept hs.2.2.2.1 hg hr).trans hs.2.2.2.2⟩) _) (ownFrom_below (aG _) (by omega)))
  (fun c=>OwnFrom.and (Own.from (fun s A B row hs hg hr=>by obtain⟨h1,y,h2,h3,h4⟩:=hs;exact⟨h1,y,h2,cell_kept h3 hg hr,cell_kept h4 hg hr⟩) _) (ownFrom_below (aG _) (by omega)))
  ⟨⟨rfl,cA,fA,cB,fB⟩,hb⟩
  (fun x=>{ tmps:=#[Value.func (Fn.func gf) #[] lb,undef,Value.pointer (some { block:=w.heap.size,off:=0 }),Value.pointer (some { block:=w.heap.size+1,off:=0 }),.int .i64 x,Value.func (Fn.func gf) #[] lb,.int .i64 x,undef],defers:=[] }) ?assign ?bX ?done ?stop
 case assign =>
  intro l x W K hK;gi_wp2;exact hK
 case bX =>
  rintro l pre x W ⟨⟨rfl,hca,hfa,hcb,uk⟩,hB⟩ _;gi_wp2_with fail;have h2:=xP (.int .i64 x) (.bool true) (by omega) hca hcb
  exact⟨(KeepsOthers.setCell _ _ _).trans (KeepsOthers.setCell _ _ _),⟨rfl,x,rfl,h2.1,h2.2⟩,(hB.setCell (p:=⟨w.heap.size,0,none⟩) (by simp) _).setCell (p:=⟨w.heap.size+1,0,none⟩) (by simp) _⟩
 case done =>
  rintro D ys W hD rfl ⟨⟨rfl,hca,hfa,hcb,uk⟩,hB⟩ hK;gi_wp2;have hK':=((KeepsOthers.setCell W ⟨w.heap.size,0,none⟩ (.int .i64 0)).trans (KeepsOthers.setCell _ ⟨w.heap.size+1,0,none⟩ (.bool false))).same D _ hK rfl;have h2:=xP (.int .i64 0) (.bool false) (by omega) hca hcb
  refine⟨by simp,.inl ⟨_,_,rfl,run_takeDeferred hK', ?_⟩⟩
  have kW:=cell_kept h2.1 (grownBy_putObj' _ D (.deferred none)) (fun r e=>by cases e;exact⟨_,hK',rfl⟩)
  have hc6:=cell_kept h2.2 (grownBy_putObj' _ D (.deferred none)) (fun r e=>by cases e;exact⟨_,hK',rfl⟩)
  refine⟨.tuple #[(),.bool false], ?_,rfl,((hB.setCell (p:=⟨w.heap.size,0,none⟩) (by simp) _).setCell (p:=⟨w.heap.size+1,0,none⟩) (by simp) _).trans (belowK_b (w:=w) (aG _) _ D _ _ (by omega) hK' rfl rfl)⟩
  simp[results,f287,go_sem,kW,hc6]
 case stop =>
  rintro D c pre W hD hpre ⟨⟨rfl,y,rfl,hca,hcb⟩,hB⟩ hK;have HL:Hid (L.headD 0=y/\L.isEmpty=false):=ae (by
   obtain⟨t,rfl⟩:=hpre;exact⟨rfl,rfl⟩)
  gi_wp2;refine⟨by simp,.inl ⟨_,_,rfl,run_takeDeferred hK, ?_⟩⟩
  have kW:=cell_kept hca (grownBy_putObj' _ D (.deferred none)) (fun r e=>by cases e;exact⟨_,hK,rfl⟩)
  have hc6:=cell_kept hcb (grownBy_putObj' _ D (.deferred none)) (fun r e=>by cases e;exact⟨_,hK,rfl⟩)
  refine⟨.tuple #[.int .i64 y,.bool true], ?_,by rw[HL.out.1,HL.out.2];rfl,hB.trans (belowK_b (w:=w) (aG _) W D _ _ (by omega) hK rfl rfl)⟩
  simp[results,f287,go_sem,kW,hc6]
end Go.Proofs.YtgieeeeeiggoeaaGreat
namespace Go.Proofs.YtgieeeeeiggoeaaGreat
open Go.RowKit Go.Shelf
open Tryz
theorem NN (l:List Int)(x:Int):(l_ l x).head?=bS l x:=by
 unfold l_ bS;split
 ·rw[List.head?_drop]
 ·rename_i h
  rw[List.idxOf_eq_length h];simp
theorem NK (l:List Int)(x:Int):(l9 l x).head?=dY l x:=by
 unfold l9 dY;split
 ·rename_i h
  have hi:=List.idxOf_lt_length_of_mem h;rw[List.head?_reverse]
  by_cases h0:l.idxOf x=0
  ·rw[if_pos h0,h0];simp
  ·rw[if_neg h0,if_pos hi,List.getLast?_eq_getElem?,dA,Nat.min_eq_left (by omega),List.getElem?_take_of_lt (by omega)]
 ·rename_i h
  rw[List.idxOf_eq_length h];split
  ·rfl
  ·simp
theorem Gx {L:List Int}{o:Option Int}(h:L.head?=o):L.headD 0=o.getD 0/\(!L.isEmpty)=o.isSome:=by
 subst h;cases L<;>simp
theorem Rl (a:Option Addr)(c:Nat)(L:List Int)(x:Int)(w:World)(hL:L.length<=1000)(hcap:L.length<=c)(hv:bJ w (.slice a L.length c) L) :
  Calls prog 280 #[.slice a L.length c,.int .i64 x] w fun e w'=>e=.returned (.tuple #[.int .i64 ((bS L x).getD 0),.bool (bS L x).isSome])/\ai w w':=by
 obtain⟨H1,H2⟩:=Gx (NN L x);rw[<- H1, <- H2];clear H1 H2;have ug:Calls prog 288 #[.slice a L.length c,.int .i64 x] w fun e w'=>e=.returned (.func (.func 294) #[] #[w.heap.size,.pointer (some ⟨w.heap.size+1,0,none⟩)])/\w'=(w.alloc (.cells #[.slice a L.length c] 29)).alloc (.cells #[.int .i64 x] 3):=by
  go_enter func288,ntmps288;go_wp2_with fail;go_ret;exact⟨rfl,rfl⟩
 go_enter func280,ntmps280;go_wp2_with fail;refine ug.mono ?_
 rintro e w1 ⟨rfl,rfl⟩;clear ug;obtain⟨X1,hX1,kA,ry,q1, -⟩:=fI w #[.slice a L.length c] 29;rw[hX1];obtain⟨X,hX,hbX,gJ,q2, -⟩:=fI X1 #[.int .i64 x] 3;rw[hX];clear hX hX1;have hb:ai w X:=kA.trans (hbX.mono kA.size);have cA:X.cell? (w.heap.size,0)=some (.slice a L.length c):=(hbX.cell (p:=⟨w.heap.size,0,none⟩) (by show w.heap.size<_;omega)).trans (q1 0)
 have cB:X.cell? (w.heap.size+1,0)=some (.int .i64 x):=by have:=q2 0;rw[ry] at this;exact this
 have hf:=ei.1 (DX 3 (ae (by omega)) 294 #[w.heap.size,.pointer (some ⟨w.heap.size+1,0,none⟩)] (l_ L x) X (enters_of func294 (by kernel_rfl) rfl)
  (fun W hW=>KE _ w.heap.size (w.heap.size+1) a c L x W hL hcap (aF hW cA) (aF hW cB) ((hv.below hb).below hW)))
 clear q1 q2 cA cB hv;go_wp2_with fail;refine hf.mono ?_
 rintro e w2 ⟨rfl,hb2⟩;go_wp2_with fail;go_ret2;exact⟨by simp,hb.trans (hb2.mono hb.size)⟩
theorem Si (a:Option Addr)(c:Nat)(L:List Int)(x:Int)(w:World)(hL:L.length<=1000)(hv:bJ w (.slice a L.length c) L) :
  Calls prog 285 #[.slice a L.length c,.int .i64 x] w fun e w'=>e=.returned (.tuple #[.int .i64 ((dY L x).getD 0),.bool (dY L x).isSome])/\ai w w':=by
 obtain⟨H1,H2⟩:=Gx (NK L x);rw[<- H1, <- H2];clear H1 H2;have ug:Calls prog 293 #[.slice a L.length c,.int .i64 x] w fun e w'=>e=.returned (.func (.func 297) #[] #[w.heap.size,.pointer (some ⟨w.heap.size+1,0,none⟩)])/\w'=(w.alloc (.cells #[.slice a L.length c] 29)).alloc (.cells #[.int .i64 x] 3):=by
  go_enter func293,ntmps293;go_wp2_with fail;go_ret;exact⟨rfl,rfl⟩
 go_enter func285,ntmps285;go_wp2_with fail;refine ug.mono ?_
 rintro e w1 ⟨rfl,rfl⟩;clear ug;obtain⟨X1,hX1,kA,ry,q1, -⟩:=fI w #[.slice a L.length c] 29;rw[hX1];obtain⟨X,hX,hbX,gJ,q2, -⟩:=fI X1 #[.int .i64 x] 3;rw[hX];clear hX hX1;have hb:ai w X:=kA.trans (hbX.mono kA.size);have cA:X.cell? (w.heap.size,0)=some (.slice a L.length c):=(hbX.cell (p:=⟨w.heap.size,0,none⟩) (by show w.heap.size<_;omega)).trans (q1 0)
 have cB:X.cell? (w.heap.size+1,0)=some (.int .i64 x):=by have:=q2 0;rw[ry] at this;exact this
 have hf:=ei.1 (DX 3 (ae (by omega)) 297 #[w.heap.size,.pointer (some ⟨w.heap.size+1,0,none⟩)] (l9 L x) X (enters_of func297 (by kernel_rfl) rfl)
  (fun W hW=>J8 _ w.heap.size (w.heap.size+1) a c L x W hL (aF hW cA) (aF hW cB) ((hv.below hb).below hW)))
 clear q1 q2 cA cB hv;go_wp2_with fail;refine hf.mono ?_
 rintro e w2 ⟨rfl,hb2⟩;go_wp2_with fail;go_ret2;exact⟨by simp,hb.trans (hb2.mono hb.size)⟩
end Go.Proofs.YtgieeeeeiggoeaaGreat
