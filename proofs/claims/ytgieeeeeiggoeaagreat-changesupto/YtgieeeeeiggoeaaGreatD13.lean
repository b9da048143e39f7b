import Derived.Test.YtgieeeeeiggoeaaGreatD10
set_option maxRecDepth 100000
set_option maxHeartbeats 2000000
namespace Go.Proofs.YtgieeeeeiggoeaaGreat
open Go.RowKit
open Tryz
variable {a:Act}{ops:Array Oper}{Q:Exit->Act->World->Prop}{rest:List Oper}{o:Oper}{w:World}
def iN (mk:Int):aH:=⟨mk,0,0,0,0⟩
theorem FI (k:Int)(w:World)(h0:0<=k)(h1:k<=2000000000):Calls prog 50 #[.int .i64 k] w fun e w'=>e=.returned (.agg #[.int .i64 (-1000-k),(),(),(),()])/\ai w w':=by
 obtain⟨W,hW,hb0,hsz,q,fz⟩:=fI w #[(),(),(),(),()] 42;go_enter func50,ntmps50;go_wp2_with fail;clear hW;refine (xn _ _ h0 h1).mono ?_
 rintro e W1 ⟨rfl,rfl⟩;go_wp2_with fail;refine dB (v:=.agg #[.int .i64 (-1000-k),(),(),(),()]) (by simp[results,results50,go_sem,q]) rfl ⟨rfl, ?_⟩
 iterate 5 refine eE ?_ (by exact aG _) _
 exact hb0
theorem B8 {w:World}{ops:Array Oper}{rest:List Oper}{a:Act}{Q:Exit->Act->World->Prop}(hgd:o.guard=none)(s x:Operand)
  (ho:o.op=.call { callee:=.builtin .append,args:=#[s,x],argTypes:=#[44,44] })
  (base:Nat) (v:Value) (n:Nat) (mk:Int) (hs:a.eval s=v) (hown:w.ownsRow base 42 5 v n (aJ (bk (List.replicate n (iN mk)))))
  (g c:Nat) (hx:a.eval x=.slice (some g) 1 c) (hnew:w.heap[g]?=some (.cells #[.int .i64 mk,(),(),(),()] 42))
  (h63:n<=2000000000) (hbase:base<=w.heap.size)
  (h:∀ g' cap w',w'.ownsRow base 42 5 (.slice (some ⟨g',0,none⟩) (n+1) cap) (n+1) (aJ (bk (List.replicate (n+1) (iN mk))))->w.grownBy w' v.ownBlock->w'.ownsRow base 42 5 v n (aJ (bk (List.replicate n (iN mk))))->(v.ownBlock=some g'\/g'=w.heap.size)->wpList prog ops Q rest (a.put o.dst (.slice (some ⟨g',0,none⟩) (n+1) cap)) w') :
  wpList prog ops Q (o :: rest) a w:=by
 obtain⟨i0,hi,hz0,hz1,hz2⟩:=info_parts uL;refine vx w hgd s x 44 ho base 42 i0 _ 5 40 underlying44 hi hz0 hz1 hz2 rfl (by decide) v n _ hs hown ⟨g,0,none⟩ 1 c (aJ (iN mk).nums) hx rfl ?_ (kE _) (by omega) (by unfold maxLen;omega) (by omega) hbase ?_
 ·exact World.news_of_block hnew
 ·intro g' cap w' h1 h2 h3 h4
  rw[<- pk, <- qP, <- ou, <- List.replicate_succ'] at h1;exact h g' cap w' h1 h2 h3 h4
theorem Pf : (prog.info? 111).map (fun i=>(i.zero,i.size,i.bytes))=some (some (.slice none 0 0),1,24):=by kernel_rfl
theorem OW : (prog.info? 91).map (fun i=>(i.zero,i.size,i.bytes))=some (some (.slice none 0 0),1,24):=by kernel_rfl
def pn (acc:List UInt8)(k:Nat):List UInt8 :=
 if h:k=0 then acc else pn (acc++[UInt8.ofNat (65+k % 26)]) (k / 26)
termination_by k
decreasing_by omega
def pt (k:Nat):List UInt8:=pn [116,104,101,32,99,97,108,108,101,114,39,115,32] k
theorem Qr (acc:List UInt8):pn acc 0=acc:=by unfold pn;simp
theorem Qq (acc:List UInt8)(k:Nat)(h:0<k):pn acc k=pn (acc++[UInt8.ofNat (65+k % 26)]) (k / 26):=by rw[pn];simp[Nat.ne_of_gt h]
theorem Qs (k:Nat)(w:World)(hk:k<=1000000000):Calls prog 51 #[.int .i64 (k:Int)] w fun e w'=>e=.returned (.string (bs (pt k)))/\ai w w':=by
 go_enter func51,ntmps51;go_wp2_with fail;go_loopw [0,3] (fun n s wr=>∃ (j:Nat) (acc:List UInt8),j<=1000000000/\n=.int .i64 (j:Int)/\s=.string (bs acc)/\pn acc j=pt k/\acc.length+j<=2000000000/\ai w wr) (fun n _ _=>(intOf n).toNat)
 case atStart=>exact⟨k,[116,104,101,32,99,97,108,108,101,114,39,115,32],hk,rfl,rfl,rfl,by simp;omega,ax _ _⟩
 case round =>
  obtain⟨j,acc,hj,rfl,rfl,hm,hacc,hb⟩:=hrel;by_cases h0:0<j
  ·have hj1:(0:Int)<(j:Int):=by omega
   have hc:=DB;have ha:∀ w,(Op.stringOp .add (bs acc) { data:=#[65+UInt8.ofNat (j % 26)] }).run prog w=.ok (.string (bs (acc++[65+UInt8.ofNat (j % 26)]))) w:=ji acc [65+UInt8.ofNat (j % 26)] (by simp;omega)
   have hstep:Hid (pn (acc++[65+UInt8.ofNat (j % 26)]) (j / 26)=pt k):=ae (by rw[<- hm,Qq acc j h0];congr 3;simp)
   have Hb:=ae hb;clear hb hm;go_wp2_with fail;refine⟨⟨j / 26,_,by omega,by simp,rfl,hstep.out,by simp;omega,Hb.out.alloc Hb.out.size _⟩, ?_⟩
   simp[intOf];omega
  ·obtain rfl:j=0:=by omega
   rw[Qr] at hm;go_wp2_with fail;go_ret;exact⟨by rw[hm];rfl,hb⟩
theorem FJ (z:Int)(w:World)(k:Nat)(hz:z=(k:Int))(hk:k<=1000000000):Calls prog 51 #[.int .i64 z] w fun e w'=>e=.returned (.string (bs (pt k)))/\ai w w':=by
 subst hz;exact Qs k w hk
def eF (l:List (List UInt8)):List Value:=l.map (fun x=>Value.string (bs x))
theorem T4 (l:List (List UInt8)):(eF l).length=l.length:=fF _
theorem Hj (l m:List (List UInt8)):eF (l++m)=eF l++eF m:=gw
theorem UH (l:List (List UInt8))(k:Nat)(mk:List UInt8)(hk:k<=l.length):(List.replicate k mk++l.drop k).length=l.length:=by
 rw[bG,List.length_replicate,iQ];omega
theorem T6 (l:List (List UInt8))(k:Nat)(mk:List UInt8)(hk:k<l.length):(eF (List.replicate k mk++l.drop k)).set k (.string (bs mk))=eF (List.replicate (k+1) mk++l.drop (k+1)):=by
 unfold eF;rw[<- List.map_set (f:=fun x=>Value.string (bs x)) (a:=mk)];congr 1;rw[lP _ _ (by simp),List.length_replicate,Nat.sub_self,List.drop_eq_getElem_cons hk,fT,List.replicate_succ',eH]
 rfl
theorem Pd : (prog.info? 9).map (fun i=>(i.zero,i.size,i.bytes))=some (some (.string ⟨#[]⟩),1,16):=by kernel_rfl
theorem B_ {w:World}{ops:Array Oper}{rest:List Oper}{a:Act}{Q:Exit->Act->World->Prop}(hgd:o.guard=none)(s x:Operand)
  (ho:o.op=.call { callee:=.builtin .append,args:=#[s,x],argTypes:=#[111,111] })
  (base:Nat) (v:Value) (n:Nat) (mk:List UInt8) (hs:a.eval s=v) (hown:w.ownsRow base 9 1 v n (eF (List.replicate n mk)))
  (g c:Nat) (hx:a.eval x=.slice (some g) 1 c) (hnew:w.cell? (g,0)=some (.string (bs mk)))
  (h63:n<=2000000000) (hbase:base<=w.heap.size)
  (h:∀ g' cap w',w'.ownsRow base 9 1 (.slice (some ⟨g',0,none⟩) (n+1) cap) (n+1) (eF (List.replicate (n+1) mk))->w.grownBy w' v.ownBlock->w'.ownsRow base 9 1 v n (eF (List.replicate n mk))->(v.ownBlock=some g'\/g'=w.heap.size)->wpList prog ops Q rest (a.put o.dst (.slice (some ⟨g',0,none⟩) (n+1) cap)) w') :
  wpList prog ops Q (o :: rest) a w:=by
 obtain⟨i0,hi,hz0,hz1,hz2⟩:=info_parts Pd;refine vx w hgd s x 111 ho base 9 i0 _ 1 16 underlying111 hi hz0 hz1 hz2 rfl (by decide) v n _ hs hown ⟨g,0,none⟩ 1 c [.string (bs mk)] hx rfl ?_ (by intro u hu;simp at hu;subst hu;rfl) (by omega) (by unfold maxLen;omega) (by omega) hbase ?_
 ·intro j u hj
  have hj0:j=0:=by
   have:=(dI.1 hj).1;simp at this;exact this
  subst hj0;have e:(⟨g,0,none⟩:Addr).add 0=⟨g,0,none⟩:=by unfold Addr.add;simp
  rw[e,hnew];simpa using hj
 ·intro g' cap w' h1 h2 h3 h4
  refine h g' cap w' ?_ h2 h3 h4
  have:eF (List.replicate (n+1) mk)=eF (List.replicate n mk)++[.string (bs mk)]:=by rw[List.replicate_succ',Hj];rfl
  rw[this];exact h1
def jo (mk:Int):fY:=⟨mk,0,0⟩
theorem yQ (l m:List fY):dj (l++m)=dj l++dj m:=by simp[dj]
theorem Kc (e:fY):dj [e]=e.nums:=by simp[dj]
theorem Kd (A:List fY)(x y:fY)(C:List fY)(n:Nat)(hn:n=A.length) :
  (((aJ (dj (A++x :: C))).set (n*3) (.int .i64 y.client)).set (n*3+1) (.int .i64 y.seq)).set (n*3+2) (.int .i64 y.value)=aJ (dj (A++y :: C)):=by
 subst hn;rw[nV,nV,nV];congr 1;rw[yQ,yQ];have hl:(dj A).length=A.length*3:=CY A;rw[<- hl];have e1:dj (x :: C)=x.client :: x.seq :: x.value :: dj C:=rfl;have e2:dj (y :: C)=y.client :: y.seq :: y.value :: dj C:=rfl;rw[e1,e2];rw[lP _ _ (aG _),lP _ _ (by omega),lP _ _ (by omega)]
 rw[Nat.sub_self,Nat.add_sub_cancel_left,Nat.add_sub_cancel_left];rfl
theorem FH (k:Int)(w:World)(h0:0<=k)(h1:k<=2000000000):Calls prog 52 #[.int .i64 k] w fun e w'=>e=.returned (.agg #[.int .i64 (-1000-k),(),()])/\ai w w':=by
 obtain⟨W,hW,hb0,hsz,q,fz⟩:=fI w #[(),(),()] 113;go_enter func52,ntmps52;go_wp2_with fail;clear hW;refine (xn _ _ h0 h1).mono ?_
 rintro e W1 ⟨rfl,rfl⟩;go_wp2_with fail;refine dB (v:=.agg #[.int .i64 (-1000-k),(),()]) (by simp[results,results52,go_sem,q]) rfl ⟨rfl, ?_⟩
 iterate 3 refine eE ?_ (by exact aG _) _
 exact hb0
theorem B7 {w:World}{ops:Array Oper}{rest:List Oper}{a:Act}{Q:Exit->Act->World->Prop}(hgd:o.guard=none)(s x:Operand)
  (ho:o.op=.call { callee:=.builtin .append,args:=#[s,x],argTypes:=#[91,91] })
  (base:Nat) (v:Value) (n:Nat) (mk:Int) (hs:a.eval s=v) (hown:w.ownsRow base 113 3 v n (aJ (dj (List.replicate n (jo mk)))))
  (g c:Nat) (hx:a.eval x=.slice (some g) 1 c) (hnew:w.heap[g]?=some (.cells #[.int .i64 mk,(),()] 113))
  (h63:n<=2000000000) (hbase:base<=w.heap.size)
  (h:∀ g' cap w',w'.ownsRow base 113 3 (.slice (some ⟨g',0,none⟩) (n+1) cap) (n+1) (aJ (dj (List.replicate (n+1) (jo mk))))->w.grownBy w' v.ownBlock->w'.ownsRow base 113 3 v n (aJ (dj (List.replicate n (jo mk))))->(v.ownBlock=some g'\/g'=w.heap.size)->wpList prog ops Q rest (a.put o.dst (.slice (some ⟨g',0,none⟩) (n+1) cap)) w') :
  wpList prog ops Q (o :: rest) a w:=by
 obtain⟨i0,hi,hz0,hz1,hz2⟩:=info_parts xb;refine vx w hgd s x 91 ho base 113 i0 _ 3 24 underlying91 hi hz0 hz1 hz2 rfl (by decide) v n _ hs hown ⟨g,0,none⟩ 1 c (aJ (jo mk).nums) hx rfl ?_ (kE _) (by omega) (by unfold maxLen;omega) (by omega) hbase ?_
 ·exact World.news_of_block hnew
 ·intro g' cap w' h1 h2 h3 h4
  rw[<- pk, <- Kc, <- yQ, <- List.replicate_succ'] at h1;exact h g' cap w' h1 h2 h3 h4
def Ce (w w':World)(B base bv N n:Nat)(x0 x5 v vB c0 c1 c2:Value)(xs:List Value)(mk:Int):Prop :=
 ∃ v1 v2 v3 lq,w'.heap[B]?=some (.cells #[x0,c0,c1,c2,lq,x5] 67)/\w'.ownsRow base 91 1 lq (N+4) (xs++[v,v1,v2,v3]) /\
  w'.ownsRow bv 113 3 v n (aJ (dj (List.replicate n (jo mk))))/\w'.ownsRow bv 113 3 v1 (n+1) (aJ (dj (List.replicate (n+1) (jo mk)))) /\
  w'.ownsRow bv 113 3 v2 (n+2) (aJ (dj (List.replicate (n+2) (jo mk))))/\w'.ownsRow bv 113 3 v3 (n+3) (aJ (dj (List.replicate (n+3) (jo mk)))) /\
  Moved w w' (fun k=>k=B\/v.ownBlock=some k\/vB.ownBlock=some k)/\∀ k,lq.ownBlock=some k->vB.ownBlock=some k\/w.heap.size<=k
theorem KH (B base bv N:Nat)(x0 x5 v vB c0 c1 c2:Value)(xs:List Value)(l:List fY)(w:World)(hB:w.heap[B]?=some (.cells #[x0,c0,c1,c2,vB,x5] 67))(hBb:B<base)(jl:B<bv)(hbs:base<=w.heap.size)(hbv:bv<=w.heap.size)
  (hv:w.ownsRow bv 113 3 v l.length (aJ (dj l))) (hbk:w.ownsRow base 91 1 vB N xs) (hN:N<=1000000000) (hl:l.length<=1000000000) :
  Calls prog 105 #[.pointer (some ⟨B,1,none⟩),v] w fun e w'=>e=.returned (.tuple #[])/\Ce w w' B base bv N l.length x0 x5 v vB c0 c1 c2 xs (-1000-(N:Int) / 4):=by
 obtain⟨aB,cB,rfl⟩:=aM hbk;obtain⟨av,cv,rfl⟩:=aM hv;have q0:w.cell? (B,4)=some (.slice aB N cB):=Joins.cell_of_block hB 4;have HB:=ae hB;clear hB;go_enter func105,ntmps105;go_wp2_with fail;refine (FH _ _ (by omega) (by omega)).mono ?_
 rintro e W0 ⟨rfl,hbW⟩;generalize hmk:(-1000-(N:Int) / 4)=mk;have qE:=ae hmk;clear hmk q0;go_wp2_with fail;obtain⟨W,hW,hb0,hsz,qm,fm⟩:=fI W0 #[.int .i64 mk,(),()] 113;rw[hW];clear hW;have M0:Moved w W (fun _=>False):=⟨hb0.os.trans hbW.os,hb0.tape.trans hbW.tape,hb0.output.trans hbW.output,by have:=hbW.size;have:=hb0.size;omega,fun k hk _=>(hb0.block k (by have:=hbW.size;omega)).trans (hbW.block k hk)⟩
 have rz:=M0.owns hv (fun _ _ h=>h);have hbkW:=M0.owns hbk (fun _ _ h=>h);have hBW:W.heap[B]?=_:=(M0.block B (by omega) (fun h=>h)).trans HB.out
 have oP:=ae hBW;clear hBW;have Ac:base<=W.heap.size:=bP hbs M0.size;have Ad:bv<=W.heap.size:=bP hbv M0.size;have tZ:W0.heap.size<W.heap.size:=by omega
 have bI:∀ k,(Value.slice av l.length cv).ownBlock=some k->k<W0.heap.size:=fun k hk=>by have:=(hv.lt k hk).2;have:=hbW.size;omega
 have hM0:base<=W0.heap.size:=bP hbs hbW.size;have Nb:bv<=W0.heap.size:=bP hbv hbW.size;go_loopw [5] (fun i wr=>∃ (n:Nat),n<=l.length/\i=.int .i64 (n:Int)/\wr.ownsRow bv 113 3 (.slice av l.length cv) l.length (aJ (dj (List.replicate n (jo mk)++l.drop n)))/\Moved W wr (fun k=>(Value.slice av l.length cv).ownBlock=some k))
  (fun i _=>l.length-(intOf i).toNat)
 case atStart=>exact⟨0,bl _,rfl,by simpa using rz,Moved.refl _ _⟩
 case round =>
  obtain⟨n,hn,rfl,hown,hmv⟩:=hrel;have wY:wr.heap[W0.heap.size]?=W.heap[W0.heap.size]?:=hmv.block _ tZ (fun h=>by have:=bI _ h;omega)
  have mA:∀ j,wr.cell? ⟨W0.heap.size,j,none⟩=#[.int .i64 mk,.int .i64 0,.int .i64 0][j]?:=fun j=>(iR (a:=⟨W0.heap.size,j,none⟩) wY).trans (qm j);have m0:wr.cell? (W0.heap.size,0)=some (.int .i64 mk):=mA 0;have m1:wr.cell? (W0.heap.size,1)=some (.int .i64 0):=mA 1;have m2:wr.cell? (W0.heap.size,2)=some (.int .i64 0):=mA 2;by_cases hlt:n<l.length
  ·obtain⟨g,cap,hvv,hg1,hg2⟩:=hown.form (by omega)
   cases hvv;have hlen:(aJ (dj (List.replicate n (jo mk)++l.drop n))).length=l.length*3:=hown.1;have cc:∀ j,j<l.length*3->∃ u,wr.cell? ⟨g,j,none⟩=some u:=fun j hj=>by
    rw[hown.cellAt j hj];exact⟨_,bU (by rw[hlen];exact hj)⟩
   obtain⟨u0,c0'⟩:=cc (n*3) (by omega)
   obtain⟨u1,c1'⟩:=cc (n*3+1) (by omega)
   obtain⟨u2,c2'⟩:=cc (n*3+2) (by omega)
   have f0:=hown.frozenAt (n*3);have f1:=hown.frozenAt (n*3+1);have f2:=hown.frozenAt (n*3+2);have HC:=ae cc;clear cc mA hlen;have st0:=hown.stored (n*3) (.int .i64 mk);have st1:=st0.1.stored (n*3+1) (.int .i64 0);have st2:=st1.1.stored (n*3+2) (.int .i64 0);have hfin:=st2.1;have hd:l.drop n=l[n] :: l.drop (n+1):=List.drop_eq_getElem_cons hlt;have hw:=Kd (List.replicate n (jo mk)) l[n] (jo mk) (l.drop (n+1)) n (by simp)
   change (((aJ (dj (List.replicate n (jo mk)++l[n] :: l.drop (n+1)))).set (n*3) (.int .i64 mk)).set (n*3+1) (.int .i64 0)).set (n*3+2) (.int .i64 0)=_ at hw
   rw[hd,hw,show List.replicate n (jo mk)++jo mk :: l.drop (n+1)=List.replicate (n+1) (jo mk)++l.drop (n+1) by rw[List.replicate_succ',eH];rfl] at hfin
   have uA:=((hmv.grown st0.2 (fun k _ h=>h)).grown st1.2 (fun k _ h=>h)).grown st2.2 (fun k _ h=>h);have HF:=ae hfin;have HM:=ae uA;clear hfin uA st0 st1 st2 hd hw;go_wp2_with fail;exact⟨⟨n+1,by omega,by go_num,HF.out,HM.out⟩,by simp[intOf];omega⟩
  ·obtain rfl:n=l.length:=by omega
   rw[List.drop_length,List.append_nil] at hown;have Aa:bv<=wr.heap.size:=bP Ad hmv.size;have Ab:base<=wr.heap.size:=bP Ac hmv.size;have zL:W0.heap.size<wr.heap.size:=j5 tZ hmv.size;clear mA;go_wp2_with (at_builtin;refine B7 rfl _ _ rfl bv _ l.length mk rfl (hown.alloc _) wr.heap.size 1 rfl (by exact hnw _ _) (by omega) (by simp;omega) ?_)
   intro g1 k1 w1 o1 jS nP mu;have hs1:=(mO jS).size;have rv:=jS.size;rw[eJ] at rv;have hw1:w1.heap[W0.heap.size]?=wr.heap[W0.heap.size]?:=(mO jS).block _ zL (fun h=>by have:=bI _ h.symm;omega)
   have x0:=(iR (a:=⟨W0.heap.size,0,none⟩) hw1).trans m0;have x1:=(iR (a:=⟨W0.heap.size,1,none⟩) hw1).trans m1;have x2:=(iR (a:=⟨W0.heap.size,2,none⟩) hw1).trans m2;have zA:g1≠W0.heap.size:=by
    rcases mu with h1|h1
    ·have:=bI g1 h1;omega
    ·omega
   clear m0 m1 m2;go_wp2_with (at_builtin;refine B7 rfl _ _ rfl bv _ (l.length+1) mk rfl (o1.alloc _) w1.heap.size 1 rfl (by exact hnw _ _) (by omega) (by simp;omega) ?_)
   intro g2 k2 w2 o2 jT lh rE;have hs2:=jT.size;rw[eJ] at hs2;have nQ:=nc (nP.alloc _) (o1.alloc _) jT lh (by omega) (by omega)
   have hw2:w2.heap[W0.heap.size]?=w1.heap[W0.heap.size]?:=(mO jT).block _ (by omega) (fun h=>zA (by simpa [Value.ownBlock] using h.symm))
   have y0:=(iR (a:=⟨W0.heap.size,0,none⟩) hw2).trans x0;have y1:=(iR (a:=⟨W0.heap.size,1,none⟩) hw2).trans x1;have y2:=(iR (a:=⟨W0.heap.size,2,none⟩) hw2).trans x2;have g12:g2=g1\/wr.heap.size<g2:=by
    rcases rE with h2|h2
    ·exact .inl (by simpa [Value.ownBlock] using h2.symm)
    ·right;omega
   clear x0 x1 x2;go_wp2_with (at_builtin;refine B7 rfl _ _ rfl bv _ (l.length+1+1) mk rfl (o2.alloc _) w2.heap.size 1 rfl (by exact hnw _ _) (by omega) (by simp;omega) ?_)
   intro g3 k3 w3 o3 jk iq AS;have hs3:=jk.size;rw[eJ] at hs3;have ln:=nc (nQ.alloc _) (o2.alloc _) jk iq (by omega) (by omega)
   have lj:=nc (lh.alloc _) (o2.alloc _) jk iq (by omega) (by omega)
   clear nP nQ o1 lh o2 y0 y1 y2;have M3:Moved W w3 (fun k=>(Value.slice av l.length cv).ownBlock=some k):=by
    refine (((hmv.alloc _).grown jS (fun k _ h=>h)).alloc _).grown jT (fun k hk h => ?_) |>.alloc _ |>.grown jk (fun k hk h => ?_)
    ·have hg:g1=k:=by simpa [Value.ownBlock] using h
     have:=hmv.size;rcases mu with h1|h1
     ·rw[h1,hg]
     ·omega
    ·have hg:g2=k:=by simpa [Value.ownBlock] using h
     have:=hmv.size;rcases g12 with h2|h2
     ·rcases mu with h1|h1
      ·rw[h1, <- h2,hg]
      ·omega
     ·omega
   have jn:w3.ownsRow base 91 1 (.slice aB N cB) N xs:=M3.owns hbkW (fun k hk h=>bM hbkW rz (by decide) k hk h)
   have hB3:w3.heap[B]?=some (.cells #[x0,c0,c1,c2,.slice aB N cB,x5] 67):=(M3.block B (by omega) (fun h=>by have:=(rz.lt B h).1;omega)).trans oP.out
   have q0:w3.cell? (B,4)=some (.slice aB N cB):=Joins.cell_of_block hB3 4;have qT:=ae hB3;clear hB3;have hs4:base<=w3.heap.size:=by omega
   go_wp2_with (at_builtin;refine x6 rfl _ _ 63 91 underlying63 OW rfl base _ N xs rfl (jn.alloc _) w3.heap.size 4 4 [.slice av l.length cv,.slice (some g1) (l.length+1) k1,.slice (some g2) (l.length+1+1) k2,.slice (some g3) (l.length+1+1+1) k3] rfl (by omega) (by omega) rfl (by exact hnw _ _) (by simp[Value.oneCell']) (by omega) (by simp;omega) ?_)
   intro g4 k4 w4 o4 ny rF;have hB4:w4.heap[B]?=some (.cells #[x0,c0,c1,c2,.slice aB N cB,x5] 67) :=
    ((mO ny).block B (by omega) (fun h=>by have:=(jn.lt B h.symm).1;omega)).trans qT.out
   have q4:w4.cell? (B,4)=some (.slice aB N cB):=Joins.cell_of_block hB4 4;have f4:w4.frozen? (B,4)=false:=Joins.unfrozen_of_block hB4 4;have nz:=Joins.block_setCell (i:=4) hB4 (.slice (some g4) (N+4) k4);have ne1:=fun {v:Value} {n:Nat} {ys:List Value} (h:w3.ownsRow bv 113 3 v n ys)=>fun k hk h'=>bM h jn (by decide) k hk h'
   have M4:Moved w3 w4 (fun k=>(Value.slice aB N cB).ownBlock=some k):=((Moved.refl w3 _).alloc _).grown ny (fun k _ h=>h);have M5:Moved w (w4.setCell ⟨B,4,none⟩ (.slice (some g4) (N+4) k4)) (fun k=>k=B\/(Value.slice av l.length cv).ownBlock=some k\/(Value.slice aB N cB).ownBlock=some k) :=
    ((((Moved.refl w _).trans M0 (fun k _ h=>h.elim)).trans M3 (fun k _ h=>.inr (.inl h))).trans M4 (fun k _ h=>.inr (.inr h))).setCell _ (.inl rfl) _
   have HF:Hid (Ce w (w4.setCell ⟨B,4,none⟩ (.slice (some g4) (N+4) k4)) B base bv N l.length x0 x5 (.slice av l.length cv) (.slice aB N cB) c0 c1 c2 xs mk):=by
    refine ae ⟨.slice (some g1) (l.length+1) k1,.slice (some g2) (l.length+1+1) k2,.slice (some g3) (l.length+1+1+1) k3,.slice (some g4) (N+4) k4,nz, ?_, ?_, ?_, ?_, ?_,M5,fun k hk=>by
     have hg:g4=k:=by simpa [Value.ownBlock] using hk
     subst hg;rcases rF with h|h
     ·exact .inl h
     ·right
      have:=M3.size
      (try have:=M0.size)
      rw[h];omega⟩
    ·exact bC o4 hBb _
    ·exact bC (M4.owns ln (ne1 ln)) jl _
    ·exact bC (M4.owns lj (ne1 lj)) jl _
    ·exact bC (M4.owns iq (ne1 iq)) jl _
    ·exact bC (M4.owns o3 (ne1 o3)) jl _
   clear hB4 nz ne1 M4 M5 o4 ln lj iq o3 jn;go_wp2_with fail;go_end0;exact⟨rfl,by rw[qE.out];exact HF.out⟩
def Cg (w w':World)(B base bv N n:Nat)(x0 x5 v vB c0 c2 c3:Value)(xs:List Value)(mk:Int):Prop :=
 ∃ v1 v2 v3 lq,w'.heap[B]?=some (.cells #[x0,c0,lq,c2,c3,x5] 67)/\w'.ownsRow base 44 1 lq (N+4) (xs++[v,v1,v2,v3]) /\
  w'.ownsRow bv 42 5 v n (aJ (bk (List.replicate n (iN mk))))/\w'.ownsRow bv 42 5 v1 (n+1) (aJ (bk (List.replicate (n+1) (iN mk)))) /\
  w'.ownsRow bv 42 5 v2 (n+2) (aJ (bk (List.replicate (n+2) (iN mk))))/\w'.ownsRow bv 42 5 v3 (n+3) (aJ (bk (List.replicate (n+3) (iN mk)))) /\
  Moved w w' (fun k=>k=B\/v.ownBlock=some k\/vB.ownBlock=some k)/\∀ k,lq.ownBlock=some k->vB.ownBlock=some k\/w.heap.size<=k
theorem KJ (B base bv N:Nat)(x0 x5 v vB c0 c2 c3:Value)(xs:List Value)(l:List aH)(w:World)(hB:w.heap[B]?=some (.cells #[x0,c0,vB,c2,c3,x5] 67))(hBb:B<base)(jl:B<bv)(hbs:base<=w.heap.size)(hbv:bv<=w.heap.size)
  (hv:w.ownsRow bv 42 5 v l.length (aJ (bk l))) (hbk:w.ownsRow base 44 1 vB N xs) (hN:N<=1000000000) (hl:l.length<=1000000000) :
  Calls prog 101 #[.pointer (some ⟨B,1,none⟩),v] w fun e w'=>e=.returned (.tuple #[])/\Cg w w' B base bv N l.length x0 x5 v vB c0 c2 c3 xs (-1000-(N:Int) / 4):=by
 obtain⟨aB,cB,rfl⟩:=aM hbk;obtain⟨av,cv,rfl⟩:=aM hv;have q0:w.cell? (B,2)=some (.slice aB N cB):=Joins.cell_of_block hB 2;have HB:=ae hB;clear hB;go_enter func101,ntmps101;go_wp2_with fail;refine (FI _ _ (by omega) (by omega)).mono ?_
 rintro e W0 ⟨rfl,hbW⟩;generalize hmk:(-1000-(N:Int) / 4)=mk;have qE:=ae hmk;clear hmk q0;go_wp2_with fail;obtain⟨W,hW,hb0,hsz,qm,fm⟩:=fI W0 #[.int .i64 mk,(),(),(),()] 42;rw[hW];clear hW;have M0:Moved w W (fun _=>False):=⟨hb0.os.trans hbW.os,hb0.tape.trans hbW.tape,hb0.output.trans hbW.output,by have:=hbW.size;have:=hb0.size;omega,fun k hk _=>(hb0.block k (by have:=hbW.size;omega)).trans (hbW.block k hk)⟩
 have rz:=M0.owns hv (fun _ _ h=>h);have hbkW:=M0.owns hbk (fun _ _ h=>h);have hBW:W.heap[B]?=_:=(M0.block B (by omega) (fun h=>h)).trans HB.out
 have oP:=ae hBW;clear hBW;have Ac:base<=W.heap.size:=bP hbs M0.size;have Ad:bv<=W.heap.size:=bP hbv M0.size;have tZ:W0.heap.size<W.heap.size:=by omega
 have bI:∀ k,(Value.slice av l.length cv).ownBlock=some k->k<W0.heap.size:=fun k hk=>by have:=(hv.lt k hk).2;have:=hbW.size;omega
 have hM0:base<=W0.heap.size:=bP hbs hbW.size;have Nb:bv<=W0.heap.size:=bP hbv hbW.size;go_loopw [5] (fun i wr=>∃ (n:Nat),n<=l.length/\i=.int .i64 (n:Int)/\wr.ownsRow bv 42 5 (.slice av l.length cv) l.length (aJ (bk (List.replicate n (iN mk)++l.drop n)))/\Moved W wr (fun k=>(Value.slice av l.length cv).ownBlock=some k))
  (fun i _=>l.length-(intOf i).toNat)
 case atStart=>exact⟨0,bl _,rfl,by simpa using rz,Moved.refl _ _⟩
 case round =>
  obtain⟨n,hn,rfl,hown,hmv⟩:=hrel;have wY:wr.heap[W0.heap.size]?=W.heap[W0.heap.size]?:=hmv.block _ tZ (fun h=>by have:=bI _ h;omega)
  have mA:∀ j,wr.cell? ⟨W0.heap.size,j,none⟩=#[.int .i64 mk,.int .i64 0,.int .i64 0,.int .i64 0,.int .i64 0][j]?:=fun j=>(iR (a:=⟨W0.heap.size,j,none⟩) wY).trans (qm j);have m0:wr.cell? (W0.heap.size,0)=some (.int .i64 mk):=mA 0;have m1:wr.cell? (W0.heap.size,1)=some (.int .i64 0):=mA 1;have m2:wr.cell? (W0.heap.size,2)=some (.int .i64 0):=mA 2;have m3:wr.cell? (W0.heap.size,3)=some (.int .i64 0):=mA 3;have m4:wr.cell? (W0.heap.size,4)=some (.int .i64 0):=mA 4;by_cases hlt:n<l.length
  ·obtain⟨g,cap,hvv,hg1,hg2⟩:=hown.form (by omega)
   cases hvv;have hlen:(aJ (bk (List.replicate n (iN mk)++l.drop n))).length=l.length*5:=hown.1;have cc:∀ j,j<l.length*5->∃ u,wr.cell? ⟨g,j,none⟩=some u:=fun j hj=>by
    rw[hown.cellAt j hj];exact⟨_,bU (by rw[hlen];exact hj)⟩
   obtain⟨u0,c0'⟩:=cc (n*5) (by omega)
   obtain⟨u1,c1'⟩:=cc (n*5+1) (by omega)
   obtain⟨u2,c2'⟩:=cc (n*5+2) (by omega)
   obtain⟨u3,c3'⟩:=cc (n*5+3) (by omega)
   obtain⟨u4,Dq⟩:=cc (n*5+4) (by omega)
   have f0:=hown.frozenAt (n*5);have f1:=hown.frozenAt (n*5+1);have f2:=hown.frozenAt (n*5+2);have f3:=hown.frozenAt (n*5+3);have f4:=hown.frozenAt (n*5+4);have HC:=ae cc;clear cc mA hlen;have st0:=hown.stored (n*5) (.int .i64 mk);have st1:=st0.1.stored (n*5+1) (.int .i64 0);have st2:=st1.1.stored (n*5+2) (.int .i64 0);have BM:=st2.1.stored (n*5+3) (.int .i64 0);have BN:=BM.1.stored (n*5+4) (.int .i64 0);have hfin:=BN.1;have hd:l.drop n=l[n] :: l.drop (n+1):=List.drop_eq_getElem_cons hlt;have hw:=L9 (List.replicate n (iN mk)) l[n] (iN mk) (l.drop (n+1)) n (by simp)
   change (((((aJ (bk (List.replicate n (iN mk)++l[n] :: l.drop (n+1)))).set (n*5) (.int .i64 mk)).set (n*5+1) (.int .i64 0)).set (n*5+2) (.int .i64 0)).set (n*5+3) (.int .i64 0)).set (n*5+4) (.int .i64 0)=_ at hw
   rw[hd,hw,show List.replicate n (iN mk)++iN mk :: l.drop (n+1)=List.replicate (n+1) (iN mk)++l.drop (n+1) by rw[List.replicate_succ',eH];rfl] at hfin
   have uA:=((((hmv.grown st0.2 (fun k _ h=>h)).grown st1.2 (fun k _ h=>h)).grown st2.2 (fun k _ h=>h)).grown BM.2 (fun k _ h=>h)).grown BN.2 (fun k _ h=>h);have HF:=ae hfin;have HM:=ae uA;clear hfin uA st0 st1 st2 BM BN hd hw;go_wp2_with fail;exact⟨⟨n+1,by omega,by go_num,HF.out,HM.out⟩,by simp[intOf];omega⟩
  ·obtain rfl:n=l.length:=by omega
   rw[List.drop_length,List.append_nil] at hown;have Aa:bv<=wr.heap.size:=bP Ad hmv.size;have Ab:base<=wr.heap.size:=bP Ac hmv.size;have zL:W0.heap.size<wr.heap.size:=j5 tZ hmv.size;clear mA;go_wp2_with (at_builtin;refine B8 rfl _ _ rfl bv _ l.length mk rfl (hown.alloc _) wr.heap.size 1 rfl (by exact hnw _ _) (by omega) (by simp;omega) ?_)
   intro g1 k1 w1 o1 jS nP mu;have hs1:=(mO jS).size;have rv:=jS.size;rw[eJ] at rv;have hw1:w1.heap[W0.heap.size]?=wr.heap[W0.heap.size]?:=(mO jS).block _ zL (fun h=>by have:=bI _ h.symm;omega)
   have x0:=(iR (a:=⟨W0.heap.size,0,none⟩) hw1).trans m0;have x1:=(iR (a:=⟨W0.heap.size,1,none⟩) hw1).trans m1;have x2:=(iR (a:=⟨W0.heap.size,2,none⟩) hw1).trans m2;have x3:=(iR (a:=⟨W0.heap.size,3,none⟩) hw1).trans m3;have x4:=(iR (a:=⟨W0.heap.size,4,none⟩) hw1).trans m4;have zA:g1≠W0.heap.size:=by
    rcases mu with h1|h1
    ·have:=bI g1 h1;omega
    ·omega
   clear m0 m1 m2 m3 m4;go_wp2_with (at_builtin;refine B8 rfl _ _ rfl bv _ (l.length+1) mk rfl (o1.alloc _) w1.heap.size 1 rfl (by exact hnw _ _) (by omega) (by simp;omega) ?_)
   intro g2 k2 w2 o2 jT lh rE;have hs2:=jT.size;rw[eJ] at hs2;have nQ:=nc (nP.alloc _) (o1.alloc _) jT lh (by omega) (by omega)
   have hw2:w2.heap[W0.heap.size]?=w1.heap[W0.heap.size]?:=(mO jT).block _ (by omega) (fun h=>zA (by simpa [Value.ownBlock] using h.symm))
   have y0:=(iR (a:=⟨W0.heap.size,0,none⟩) hw2).trans x0;have y1:=(iR (a:=⟨W0.heap.size,1,none⟩) hw2).trans x1;have y2:=(iR (a:=⟨W0.heap.size,2,none⟩) hw2).trans x2;have y3:=(iR (a:=⟨W0.heap.size,3,none⟩) hw2).trans x3;have y4:=(iR (a:=⟨W0.heap.size,4,none⟩) hw2).trans x4;have g12:g2=g1\/wr.heap.size<g2:=by
    rcases rE with h2|h2
    ·exact .inl (by simpa [Value.ownBlock] using h2.symm)
    ·right;omega
   clear x0 x1 x2 x3 x4;go_wp2_with (at_builtin;refine B8 rfl _ _ rfl bv _ (l.length+1+1) mk rfl (o2.alloc _) w2.heap.size 1 rfl (by exact hnw _ _) (by omega) (by simp;omega) ?_)
   intro g3 k3 w3 o3 jk iq AS;have hs3:=jk.size;rw[eJ] at hs3;have ln:=nc (nQ.alloc _) (o2.alloc _) jk iq (by omega) (by omega)
   have lj:=nc (lh.alloc _) (o2.alloc _) jk iq (by omega) (by omega)
   clear nP nQ o1 lh o2 y0 y1 y2 y3 y4;have M3:Moved W w3 (fun k=>(Value.slice av l.length cv).ownBlock=some k):=by
    refine (((hmv.alloc _).grown jS (fun k _ h=>h)).alloc _).grown jT (fun k hk h => ?_) |>.alloc _ |>.grown jk (fun k hk h => ?_)
    ·have hg:g1=k:=by simpa [Value.ownBlock] using h
     have:=hmv.size;rcases mu with h1|h1
     ·rw[h1,hg]
     ·omega
    ·have hg:g2=k:=by simpa [Value.ownBlock] using h
     have:=hmv.size;rcases g12 with h2|h2
     ·rcases mu with h1|h1
      ·rw[h1, <- h2,hg]
      ·omega
     ·omega
   have jn:w3.ownsRow base 44 1 (.slice aB N cB) N xs:=M3.owns hbkW (fun k hk h=>bM hbkW rz (by decide) k hk h)
   have hB3:w3.heap[B]?=some (.cells #[x0,c0,.slice aB N cB,c2,c3,x5] 67):=(M3.block B (by omega) (fun h=>by have:=(rz.lt B h).1;omega)).trans oP.out
   have q0:w3.cell? (B,2)=some (.slice aB N cB):=Joins.cell_of_block hB3 2;have qT:=ae hB3;clear hB3;have hs4:base<=w3.heap.size:=by omega
   go_wp2_with (at_builtin;refine x6 rfl _ _ 61 44 underlying61 OY rfl base _ N xs rfl (jn.alloc _) w3.heap.size 4 4 [.slice av l.length cv,.slice (some g1) (l.length+1) k1,.slice (some g2) (l.length+1+1) k2,.slice (some g3) (l.length+1+1+1) k3] rfl (by omega) (by omega) rfl (by exact hnw _ _) (by simp[Value.oneCell']) (by omega) (by simp;omega) ?_)
   intro g4 k4 w4 o4 ny rF;have hB4:w4.heap[B]?=some (.cells #[x0,c0,.slice aB N cB,c2,c3,x5] 67) :=
    ((mO ny).block B (by omega) (fun h=>by have:=(jn.lt B h.symm).1;omega)).trans qT.out
   have q4:w4.cell? (B,2)=some (.slice aB N cB):=Joins.cell_of_block hB4 2;have f4:w4.frozen? (B,2)=false:=Joins.unfrozen_of_block hB4 2;have nz:=Joins.block_setCell (i:=2) hB4 (.slice (some g4) (N+4) k4);have ne1:=fun {v:Value} {n:Nat} {ys:List Value} (h:w3.ownsRow bv 42 5 v n ys)=>fun k hk h'=>bM h jn (by decide) k hk h'
   have M4:Moved w3 w4 (fun k=>(Value.slice aB N cB).ownBlock=some k):=((Moved.refl w3 _).alloc _).grown ny (fun k _ h=>h);have M5:Moved w (w4.setCell ⟨B,2,none⟩ (.slice (some g4) (N+4) k4)) (fun k=>k=B\/(Value.slice av l.length cv).ownBlock=some k\/(Value.slice aB N cB).ownBlock=some k) :=
    ((((Moved.refl w _).trans M0 (fun k _ h=>h.elim)).trans M3 (fun k _ h=>.inr (.inl h))).trans M4 (fun k _ h=>.inr (.inr h))).setCell _ (.inl rfl) _
   have HF:Hid (Cg w (w4.setCell ⟨B,2,none⟩ (.slice (some g4) (N+4) k4)) B base bv N l.length x0 x5 (.slice av l.length cv) (.slice aB N cB) c0 c2 c3 xs mk):=by
    refine ae ⟨.slice (some g1) (l.length+1) k1,.slice (some g2) (l.length+1+1) k2,.slice (some g3) (l.length+1+1+1) k3,.slice (some g4) (N+4) k4,nz, ?_, ?_, ?_, ?_, ?_,M5,fun k hk=>by
     have hg:g4=k:=by simpa [Value.ownBlock] using hk
     subst hg;rcases rF with h|h
     ·exact .inl h
     ·right
      have:=M3.size
      (try have:=M0.size)
      rw[h];omega⟩
    ·exact bC o4 hBb _
    ·exact bC (M4.owns ln (ne1 ln)) jl _
    ·exact bC (M4.owns lj (ne1 lj)) jl _
    ·exact bC (M4.owns iq (ne1 iq)) jl _
    ·exact bC (M4.owns o3 (ne1 o3)) jl _
   clear hB4 nz ne1 M4 M5 o4 ln lj iq o3 jn;go_wp2_with fail;go_end0;exact⟨rfl,by rw[qE.out];exact HF.out⟩
def Ch (w w':World)(B base bv N n:Nat)(x0 x5 v vB c0 c1 c3:Value)(xs:List Value)(mk:List UInt8):Prop :=
 ∃ v1 v2 v3 lq,w'.heap[B]?=some (.cells #[x0,c0,c1,lq,c3,x5] 67)/\w'.ownsRow base 111 1 lq (N+4) (xs++[v,v1,v2,v3]) /\
  w'.ownsRow bv 9 1 v n (eF (List.replicate n mk))/\w'.ownsRow bv 9 1 v1 (n+1) (eF (List.replicate (n+1) mk)) /\
  w'.ownsRow bv 9 1 v2 (n+2) (eF (List.replicate (n+2) mk))/\w'.ownsRow bv 9 1 v3 (n+3) (eF (List.replicate (n+3) mk)) /\
  Moved w w' (fun k=>k=B\/v.ownBlock=some k\/vB.ownBlock=some k)/\∀ k,lq.ownBlock=some k->vB.ownBlock=some k\/w.heap.size<=k
theorem KK (B base bv N:Nat)(x0 x5 v vB c0 c1 c3:Value)(xs:List Value)(l:List (List UInt8))(w:World)(hB:w.heap[B]?=some (.cells #[x0,c0,c1,vB,c3,x5] 67))(hBb:B<base)(jl:B<bv)(hbs:base<=w.heap.size)(hbv:bv<=w.heap.size)
  (hv:w.ownsRow bv 9 1 v l.length (eF l)) (hbk:w.ownsRow base 111 1 vB N xs) (hN:N<=1000000000) (hl:l.length<=1000000000) :
  Calls prog 92 #[.pointer (some ⟨B,1,none⟩),v] w fun e w'=>e=.returned (.tuple #[])/\Ch w w' B base bv N l.length x0 x5 v vB c0 c1 c3 xs (pt (N / 4)):=by
 obtain⟨aB,cB,rfl⟩:=aM hbk;obtain⟨av,cv,rfl⟩:=aM hv;have q0:w.cell? (B,3)=some (.slice aB N cB):=Joins.cell_of_block hB 3;have HB:=ae hB;clear hB;go_enter func92,ntmps92;go_wp2_with fail;refine (FJ _ _ (N / 4) (by omega) (by omega)).mono ?_
 rintro e W ⟨rfl,hbW⟩;generalize hmk:pt (N / 4)=mk;have qE:=ae hmk;clear hmk;clear q0;have M0:Moved w W (fun _=>False):=⟨hbW.os,hbW.tape,hbW.output,hbW.size,fun k hk _=>hbW.block k hk⟩;have hv0:=hv
 replace hv:=M0.owns hv (fun _ _ h=>h)
 replace hbk:=M0.owns hbk (fun _ _ h=>h)
 have hBW:W.heap[B]?=_:=(M0.block B (by omega) (fun h=>h)).trans HB.out
 have oP:=ae hBW;clear hBW;replace hbs:base<=W.heap.size:=bP hbs M0.size
 replace hbv:bv<=W.heap.size:=bP hbv M0.size
 go_wp2_with fail;go_loopw [5] (fun i wr=>∃ (n:Nat),n<=l.length/\i=.int .i64 (n:Int)/\wr.ownsRow bv 9 1 (.slice av l.length cv) l.length (eF (List.replicate n mk++l.drop n))/\Moved W wr (fun k=>(Value.slice av l.length cv).ownBlock=some k))
  (fun i _=>l.length-(intOf i).toNat)
 case atStart=>exact⟨0,bl _,rfl,by simpa using hv,Moved.refl _ _⟩
 case round =>
  obtain⟨n,hn,rfl,hown,hmv⟩:=hrel;by_cases hlt:n<l.length
  ·obtain⟨g,cap,hvv,hg1,hg2⟩:=hown.form (by omega)
   cases hvv;have c1:=hown.cellAt n (by omega)
   have f1:=hown.frozenAt n;have c1':∃ u,wr.cell? ⟨g,n,none⟩=some u:=by
    rw[c1];exact⟨_,bU (by rw[T4,UH _ _ _ hn];exact hlt)⟩
   obtain⟨u,c1'⟩:=c1';clear c1;have hst:=hown.stored n (.string (bs mk));rw[T6 l n mk hlt] at hst;have HS:=ae hst;clear hst;go_wp2_with fail;exact⟨⟨n+1,by omega,by go_num,HS.out.1,hmv.grown HS.out.2 (fun k _ h=>h)⟩,by simp[intOf];omega⟩
  ·obtain rfl:n=l.length:=by omega
   rw[List.drop_length,List.append_nil] at hown;have Aa:bv<=wr.heap.size:=bP hbv hmv.size;have Ab:base<=wr.heap.size:=bP hbs hmv.size;go_wp2_with (at_builtin;refine B_ rfl _ _ rfl bv _ l.length mk rfl (hown.alloc _) wr.heap.size 1 rfl (by simp) (by omega) (by simp;omega) ?_)
   intro g1 k1 w1 o1 jS nP mu;have hs1:=(mO jS).size;have rv:=jS.size;rw[eJ] at rv;go_wp2_with (at_builtin;refine B_ rfl _ _ rfl bv _ (l.length+1) mk rfl (o1.alloc _) w1.heap.size 1 rfl (by simp) (by omega) (by simp;omega) ?_)
   intro g2 k2 w2 o2 jT lh rE;have hs2:=jT.size;rw[eJ] at hs2;have nQ:=nc (nP.alloc _) (o1.alloc _) jT lh (by omega) (by omega)
   go_wp2_with (at_builtin;refine B_ rfl _ _ rfl bv _ (l.length+1+1) mk rfl (o2.alloc _) w2.heap.size 1 rfl (by simp) (by omega) (by simp;omega) ?_)
   intro g3 k3 w3 o3 jk iq AS;have hs3:=jk.size;rw[eJ] at hs3;have ln:=nc (nQ.alloc _) (o2.alloc _) jk iq (by omega) (by omega)
   have lj:=nc (lh.alloc _) (o2.alloc _) jk iq (by omega) (by omega)
   clear nP nQ o1 lh o2;have M3:Moved W w3 (fun k=>(Value.slice av l.length cv).ownBlock=some k):=by
    refine (((hmv.alloc _).grown jS (fun k _ h=>h)).alloc _).grown jT (fun k hk h => ?_) |>.alloc _ |>.grown jk (fun k hk h => ?_)
    ·have hg:g1=k:=by simpa [Value.ownBlock] using h
     have:=hmv.size;rcases mu with h1|h1
     ·rw[h1,hg]
     ·omega
    ·have hg:g2=k:=by simpa [Value.ownBlock] using h
     have:=hmv.size;rcases rE with h2|h2
     ·have hg2:g1=g2:=by simpa [Value.ownBlock] using h2
      rcases mu with h1|h1
      ·rw[h1,hg2,hg]
      ·omega
     ·omega
   have jn:w3.ownsRow base 111 1 (.slice aB N cB) N xs:=M3.owns hbk (fun k hk h=>bM hbk hv (by decide) k hk h)
   have hB3:w3.heap[B]?=some (.cells #[x0,c0,c1,.slice aB N cB,c3,x5] 67):=(M3.block B (by omega) (fun h=>by have:=(hv.lt B h).1;omega)).trans oP.out
   have q0:w3.cell? (B,3)=some (.slice aB N cB):=Joins.cell_of_block hB3 3;have qT:=ae hB3;clear hB3;have hs4:base<=w3.heap.size:=by omega
   go_wp2_with (at_builtin;refine x6 rfl _ _ 62 111 underlying62 Pf rfl base _ N xs rfl (jn.alloc _) w3.heap.size 4 4 [.slice av l.length cv,.slice (some g1) (l.length+1) k1,.slice (some g2) (l.length+1+1) k2,.slice (some g3) (l.length+1+1+1) k3] rfl (by omega) (by omega) rfl (by exact hnw _ _) (by simp[Value.oneCell']) (by omega) (by simp;omega) ?_)
   intro g4 k4 w4 o4 ny rF;have hB4:w4.heap[B]?=some (.cells #[x0,c0,c1,.slice aB N cB,c3,x5] 67) :=
    ((mO ny).block B (by omega) (fun h=>by have:=(jn.lt B h.symm).1;omega)).trans qT.out
   have q4:w4.cell? (B,3)=some (.slice aB N cB):=Joins.cell_of_block hB4 3;have f4:w4.frozen? (B,3)=false:=Joins.unfrozen_of_block hB4 3;have nz:=Joins.block_setCell (i:=3) hB4 (.slice (some g4) (N+4) k4);have ne1:=fun {v:Value} {n:Nat} {ys:List Value} (h:w3.ownsRow bv 9 1 v n ys)=>fun k hk h'=>bM h jn (by decide) k hk h'
   have M4:Moved w3 w4 (fun k=>(Value.slice aB N cB).ownBlock=some k):=((Moved.refl w3 _).alloc _).grown ny (fun k _ h=>h);have M5:Moved w (w4.setCell ⟨B,3,none⟩ (.slice (some g4) (N+4) k4)) (fun k=>k=B\/(Value.slice av l.length cv).ownBlock=some k\/(Value.slice aB N cB).ownBlock=some k) :=
    ((((Moved.refl w _).trans M0 (fun _ _ h=>h.elim)).trans M3 (fun k _ h=>.inr (.inl h))).trans M4 (fun k _ h=>.inr (.inr h))).setCell _ (.inl rfl) _
   have HF:Hid (Ch w (w4.setCell ⟨B,3,none⟩ (.slice (some g4) (N+4) k4)) B base bv N l.length x0 x5 (.slice av l.length cv) (.slice aB N cB) c0 c1 c3 xs mk):=by
    refine ae ⟨.slice (some g1) (l.length+1) k1,.slice (some g2) (l.length+1+1) k2,.slice (some g3) (l.length+1+1+1) k3,.slice (some g4) (N+4) k4,nz, ?_, ?_, ?_, ?_, ?_,M5,fun k hk=>by
     have hg:g4=k:=by simpa [Value.ownBlock] using hk
     subst hg;rcases rF with h|h
     ·exact .inl h
     ·right
      have:=M3.size
      (try have:=M0.size)
      rw[h];omega⟩
    ·exact bC o4 hBb _
    ·exact bC (M4.owns ln (ne1 ln)) jl _
    ·exact bC (M4.owns lj (ne1 lj)) jl _
    ·exact bC (M4.owns iq (ne1 iq)) jl _
    ·exact bC (M4.owns o3 (ne1 o3)) jl _
   clear hB4 nz ne1 M4 M5 o4 ln lj iq o3 jn;go_wp2_with fail;go_end0;exact⟨rfl,by rw[qE.out];exact HF.out⟩
def Cf (w w':World)(B base bv N n:Nat)(x0 x5 v vB c1 c2 c3:Value)(xs:List Value)(mk:Int):Prop :=
 ∃ v1 v2 v3 lq,w'.heap[B]?=some (.cells #[x0,lq,c1,c2,c3,x5] 67)/\w'.ownsRow base 29 1 lq (N+4) (xs++[v,v1,v2,v3]) /\
  w'.ownsRow bv 3 1 v n (aJ (List.replicate n mk))/\w'.ownsRow bv 3 1 v1 (n+1) (aJ (List.replicate (n+1) mk)) /\
  w'.ownsRow bv 3 1 v2 (n+2) (aJ (List.replicate (n+2) mk))/\w'.ownsRow bv 3 1 v3 (n+3) (aJ (List.replicate (n+3) mk)) /\
  Moved w w' (fun k=>k=B\/v.ownBlock=some k\/vB.ownBlock=some k)/\∀ k,lq.ownBlock=some k->vB.ownBlock=some k\/w.heap.size<=k
theorem KI (B base bv N:Nat)(x0 x5 v vB c1 c2 c3:Value)(xs:List Value)(l:List Int)(w:World)(hB:w.heap[B]?=some (.cells #[x0,vB,c1,c2,c3,x5] 67))(hBb:B<base)(jl:B<bv)(hbs:base<=w.heap.size)(hbv:bv<=w.heap.size)
  (hv:w.ownsRow bv 3 1 v l.length (aJ l)) (hbk:w.ownsRow base 29 1 vB N xs) (hN:N<=1000000000) (hl:l.length<=1000000000) :
  Calls prog 100 #[.pointer (some ⟨B,1,none⟩),v] w fun e w'=>e=.returned (.tuple #[])/\Cf w w' B base bv N l.length x0 x5 v vB c1 c2 c3 xs (-1000-(N:Int) / 4):=by
 obtain⟨aB,cB,rfl⟩:=aM hbk;obtain⟨av,cv,rfl⟩:=aM hv;have q0:w.cell? (B,1)=some (.slice aB N cB):=Joins.cell_of_block hB 1;have HB:=ae hB;clear hB;go_enter func100,ntmps100;go_wp2_with fail;refine (xn _ _ (by omega) (by omega)).mono ?_
 rintro e W ⟨rfl,rfl⟩;generalize hmk:(-1000-(N:Int) / 4)=mk;have qE:=ae hmk;clear hmk;clear q0;go_wp2_with fail;go_loopw [5] (fun i wr=>∃ (n:Nat),n<=l.length/\i=.int .i64 (n:Int)/\wr.ownsRow bv 3 1 (.slice av l.length cv) l.length (aJ (List.replicate n mk++l.drop n))/\Moved W wr (fun k=>(Value.slice av l.length cv).ownBlock=some k))
  (fun i _=>l.length-(intOf i).toNat)
 case atStart=>exact⟨0,bl _,rfl,by simpa using hv,Moved.refl _ _⟩
 case round =>
  obtain⟨n,hn,rfl,hown,hmv⟩:=hrel;by_cases hlt:n<l.length
  ·obtain⟨g,cap,hvv,hg1,hg2⟩:=hown.form (by omega)
   cases hvv;have c1:=hown.cellAt n (by omega)
   have f1:=hown.frozenAt n;have c1':∃ u,wr.cell? ⟨g,n,none⟩=some u:=by
    rw[c1];exact⟨_,bU (by rw[fP,Qu _ _ _ hn];exact hlt)⟩
   obtain⟨u,c1'⟩:=c1';clear c1;have hst:=hown.stored n (.int .i64 mk);rw[Qw l n mk hlt] at hst;have HS:=ae hst;clear hst;go_wp2_with fail;exact⟨⟨n+1,by omega,by go_num,HS.out.1,hmv.grown HS.out.2 (fun k _ h=>h)⟩,by simp[intOf];omega⟩
  ·obtain rfl:n=l.length:=by omega
   rw[List.drop_length,List.append_nil] at hown;have Aa:bv<=wr.heap.size:=bP hbv hmv.size;have Ab:base<=wr.heap.size:=bP hbs hmv.size;go_wp2_with (at_builtin;refine B9 rfl _ _ rfl bv _ l.length mk rfl (hown.alloc _) wr.heap.size 1 rfl (by simp) (by omega) (by simp;omega) ?_)
   intro g1 k1 w1 o1 jS nP mu;have hs1:=(mO jS).size;have rv:=jS.size;rw[eJ] at rv;go_wp2_with (at_builtin;refine B9 rfl _ _ rfl bv _ (l.length+1) mk rfl (o1.alloc _) w1.heap.size 1 rfl (by simp) (by omega) (by simp;omega) ?_)
   intro g2 k2 w2 o2 jT lh rE;have hs2:=jT.size;rw[eJ] at hs2;have nQ:=nc (nP.alloc _) (o1.alloc _) jT lh (by omega) (by omega)
   go_wp2_with (at_builtin;refine B9 rfl _ _ rfl bv _ (l.length+1+1) mk rfl (o2.alloc _) w2.heap.size 1 rfl (by simp) (by omega) (by simp;omega) ?_)
   intro g3 k3 w3 o3 jk iq AS;have hs3:=jk.size;rw[eJ] at hs3;have ln:=nc (nQ.alloc _) (o2.alloc _) jk iq (by omega) (by omega)
   have lj:=nc (lh.alloc _) (o2.alloc _) jk iq (by omega) (by omega)
   clear nP nQ o1 lh o2;have M3:Moved W w3 (fun k=>(Value.slice av l.length cv).ownBlock=some k):=by
    refine (((hmv.alloc _).grown jS (fun k _ h=>h)).alloc _).grown jT (fun k hk h => ?_) |>.alloc _ |>.grown jk (fun k hk h => ?_)
    ·have hg:g1=k:=by simpa [Value.ownBlock] using h
     have:=hmv.size;rcases mu with h1|h1
     ·rw[h1,hg]
     ·omega
    ·have hg:g2=k:=by simpa [Value.ownBlock] using h
     have:=hmv.size;rcases rE with h2|h2
     ·have hg2:g1=g2:=by simpa [Value.ownBlock] using h2
      rcases mu with h1|h1
      ·rw[h1,hg2,hg]
      ·omega
     ·omega
   have jn:w3.ownsRow base 29 1 (.slice aB N cB) N xs:=M3.owns hbk (fun k hk h=>bM hbk hv (by decide) k hk h)
   have hB3:w3.heap[B]?=some (.cells #[x0,.slice aB N cB,c1,c2,c3,x5] 67):=(M3.block B (by omega) (fun h=>by have:=(hv.lt B h).1;omega)).trans HB.out
   have q0:w3.cell? (B,1)=some (.slice aB N cB):=Joins.cell_of_block hB3 1;have qT:=ae hB3;clear hB3;have hs4:base<=w3.heap.size:=by omega
   go_wp2_with (at_builtin;refine x6 rfl _ _ 60 29 underlying60 Pa rfl base _ N xs rfl (jn.alloc _) w3.heap.size 4 4 [.slice av l.length cv,.slice (some g1) (l.length+1) k1,.slice (some g2) (l.length+1+1) k2,.slice (some g3) (l.length+1+1+1) k3] rfl (by omega) (by omega) rfl (by exact hnw _ _) (by simp[Value.oneCell']) (by omega) (by simp;omega) ?_)
   intro g4 k4 w4 o4 ny rF;have hB4:w4.heap[B]?=some (.cells #[x0,.slice aB N cB,c1,c2,c3,x5] 67) :=
    ((mO ny).block B (by omega) (fun h=>by have:=(jn.lt B h.symm).1;omega)).trans qT.out
   have q4:w4.cell? (B,1)=some (.slice aB N cB):=Joins.cell_of_block hB4 1;have f4:w4.frozen? (B,1)=false:=Joins.unfrozen_of_block hB4 1;have nz:=Joins.block_setCell (i:=1) hB4 (.slice (some g4) (N+4) k4);have ne1:=fun {v:Value} {n:Nat} {ys:List Value} (h:w3.ownsRow bv 3 1 v n ys)=>fun k hk h'=>bM h jn (by decide) k hk h'
   have M4:Moved w3 w4 (fun k=>(Value.slice aB N cB).ownBlock=some k):=((Moved.refl w3 _).alloc _).grown ny (fun k _ h=>h);have M5:Moved W (w4.setCell ⟨B,1,none⟩ (.slice (some g4) (N+4) k4)) (fun k=>k=B\/(Value.slice av l.length cv).ownBlock=some k\/(Value.slice aB N cB).ownBlock=some k) :=
    ((((Moved.refl W _).trans M3 (fun k _ h=>.inr (.inl h))).trans M4 (fun k _ h=>.inr (.inr h)))).setCell _ (.inl rfl) _
   have HF:Hid (Cf W (w4.setCell ⟨B,1,none⟩ (.slice (some g4) (N+4) k4)) B base bv N l.length x0 x5 (.slice av l.length cv) (.slice aB N cB) c1 c2 c3 xs mk):=by
    refine ae ⟨.slice (some g1) (l.length+1) k1,.slice (some g2) (l.length+1+1) k2,.slice (some g3) (l.length+1+1+1) k3,.slice (some g4) (N+4) k4,nz, ?_, ?_, ?_, ?_, ?_,M5,fun k hk=>by
     have hg:g4=k:=by simpa [Value.ownBlock] using hk
     subst hg;rcases rF with h|h
     ·exact .inl h
     ·right
      have:=M3.size
      (try have:=M0.size)
      rw[h];omega⟩
    ·exact bC o4 hBb _
    ·exact bC (M4.owns ln (ne1 ln)) jl _
    ·exact bC (M4.owns lj (ne1 lj)) jl _
    ·exact bC (M4.owns iq (ne1 iq)) jl _
    ·exact bC (M4.owns o3 (ne1 o3)) jl _
   clear hB4 nz ne1 M4 M5 o4 ln lj iq o3 jn;go_wp2_with fail;go_end0;exact⟨rfl,by rw[qE.out];exact HF.out⟩
end Go.Proofs.YtgieeeeeiggoeaaGreat
