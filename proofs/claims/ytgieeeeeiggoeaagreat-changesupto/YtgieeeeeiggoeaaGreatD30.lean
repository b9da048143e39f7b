import Derived.Test.YtgieeeeeiggoeaaGreatD28
import Derived.Test.YtgieeeeeiggoeaaGreatD23
set_option maxRecDepth 100000
set_option maxHeartbeats 1000000
namespace Go.Proofs.YtgieeeeeiggoeaaGreat
open Go.RowKit Go.Shelf
open Tryz
variable {ms:List aK}{base:Nat}{v:Value}{w:World}
theorem a_.beside {wr:World}{x:Nat}{vs vr va vm vb vt:Value}{l:List (List UInt8 × Bool)}(h:a_ w base v ms)(hB:jL w x vs vr va vm vb vt l)(hM:Moved w wr (n_ x vb)):a_ wr base v ms:=by
 have hrow:∀ {base size n:Nat} {e:TypeId} {v:Value} {xs:List Value},w.ownsRow base e size v n xs->e≠138->e≠93->wr.ownsRow base e size v n xs:=by
  intro base size n e v xs hv h1 h2;refine hM.owns hv fun k hk hS => ?_
  rcases hS with e1|e1
  ·exact aY hB.blk hv h2 (e1 ▸ hk)
  ·exact bM hv hB.row h1 k hk e1
 obtain⟨ws,h1,h2,h3⟩:=h;exact⟨ws,h1,hrow h2 (by decide) (by decide),fun t ht=>⟨hrow (h3 t ht).1 (by decide) (by decide),hrow (h3 t ht).2 (by decide) (by decide)⟩⟩
theorem a_.at (h:a_ w base v ms)(k:Nat)(hk:k<ms.length) :
  ∃ g cap m a1 d1 a2 d2,v=.slice (some ⟨g,0,none⟩) ms.length cap/\ms[k]?=some m/\bd w (.slice a1 m.af.length d1) m.af/\bw w (.slice a2 m.log.length d2) m.log/\∀ t,t<10->w.cell? ⟨g,k*10+t,none⟩=(cd (m,.slice a1 m.af.length d1,.slice a2 m.log.length d2))[t]?:=by
 obtain⟨ws,h1,h2,h3⟩:=h;have hwl:ws.length=ms.length:=by rw[<- h1,fF]
 obtain⟨g,cap,hv, -, -⟩:=h2.form (by omega)
 obtain⟨t,ht⟩:∃ t,ws[k]?=some t:=⟨_,bU (by omega)⟩
 have hmem:t∈ws:=dU ht;obtain⟨m,xm,xl⟩:=t;obtain⟨i1,i2⟩:=h3 _ hmem;obtain⟨a1,d1,e1⟩:=aM i1;obtain⟨a2,d2,e2⟩:=aM i2;simp only at e1 e2 i1 i2;subst e1;subst e2;have hml:ms[k]?=some m:=by rw[<- h1,fe,ht];rfl
 have flat:∀ (ws:List gy) (k:Nat) (u:gy),ws[k]?=some u->∀ t,t<10->(ws.flatMap cd)[k*10+t]?=(cd u)[t]?:=by
  intro ws;induction ws with
  | nil=>intro k u hu;simp at hu
  | cons a r ih =>
   intro k u hu t ht;have hl:(cd a).length=10:=rfl;rw[List.flatMap_cons];cases k with
   | zero =>
    simp at hu;subst hu;rw[Nat.zero_mul,fh,List.getElem?_append_left (by omega)]
   | succ k =>
    rw[kH (by omega),hl,show (k+1)*10+t-10=k*10+t by omega]
    exact ih k u (by simpa using hu) t ht
 subst hv;refine⟨g,cap,m,a1,d1,a2,d2,rfl,hml,i1,i2,fun t ht2 => ?_⟩
 rw[ev h2 (k*10+t) (by omega)]
 exact flat ws k _ ht t ht2
def iS (l:List (List UInt8 × Bool))(ms:List aK):List (List UInt8 × Bool):=(l++ms.map (fun m=>(m.frame,false))).take 200
theorem Gt (l:List (List UInt8 × Bool))(ms:List aK):(iS l ms).length<=200:=by unfold iS;rw[dA];omega
theorem Gv (l:List (List UInt8 × Bool))(ms:List aK)(m:aK):jE (iS l ms) (m.frame,false)=iS l (ms++[m]):=by
 unfold jE iS;rw[gw, <- eH,dA];generalize l++ms.map (fun m=>(m.frame,false))=A;split
 ·rw[jF (by omega:A.length<=200),jF (by simp;omega)]
  rfl
 ·rw[List.take_append_of_le_length (by omega)]
theorem Gu (l:List (List UInt8 × Bool))(h:l.length<=200):iS l []=l:=by
 unfold iS;rw[List.map_nil,List.append_nil,jF h]
theorem FW (ms:List aK)(k:Nat)(m:aK)(h:ms[k]?=some m):ms.take (k+1)=ms.take k++[m]:=by
 have hk:=(dI.1 h).1;rw[nU hk];congr 2;exact (dI.1 h).2
theorem wb (x:Nat)(vs vr va vm vb vt:Value)(l:List (List UInt8 × Bool))(base:Nat)(v:Value)(ms:List aK)(w:World)(h:jL w x vs vr va vm vb vt l)(hl:l.length<=200)(hv:a_ w base v ms)(hok:∀ m∈ms,m.ok=true)(hmn:ms.length<=100000) :
  Calls prog 36 #[.pointer (some ⟨x,4,none⟩),v] w fun e w'=>(∃ v,e=.returned v)/\gP w w' x vs vr va vm vb vt (iS l ms):=by
 obtain⟨am,cm,rfl⟩:=hv.shape;have HI:=ae h;have HM:=ae hv;have HP:Hid (∀ W vb1 l1 f g,jL W x vs vr va vm vb1 vt l1->l1.length<=200->W.heap[g]?=some (.cells #[.string (bs f),.bool false] 138)->Calls prog 68 #[.pointer (some ⟨x,4,none⟩),.slice (some ⟨g,0,none⟩) 1 1] W fun e w'=>(∃ v,e=.returned v)/\gP W w' x vs vr va vm vb1 vt (jE l1 (f,false))):=ae fun W vb1 l1 f g h1 h2 h3=>C7 x vs vr va vm vb1 vt l1 (f,false) g W h1 h2 h3;have se:=ae hok;clear h hv hok;go_enter func36,ntmps36;go_wp2_with fail;go_loopw [10] (fun i wr=>∃ k:Nat,k<=ms.length/\i=.int .i64 k/\∃ vb1,jL wr x vs vr va vm vb1 vt (iS l (ms.take k))/\Moved w wr (n_ x vb)/\bO w vb vb1) (fun i _=>ms.length-(intOf i).toNat)
 case atStart=>exact⟨0,bl _,rfl,vb,by rw[List.take_zero,Gu l hl];exact HI.out,Moved.refl _ _,bO.refl _ _⟩
 case round =>
  obtain⟨k,hk,rfl,vb1,hB,bI,Ei⟩:=hrel;have HB:=ae (aP hB (aP bI Ei));clear hB bI Ei;by_cases hlt:k<ms.length
  ·have hk1:(k:Int)<(ms.length:Int):=by omega
   obtain⟨g,cap,m,a1,d1,a2,d2,hsl,hmk,i1,i2,hcell⟩:=(HM.out.beside HI.out HB.out.2.1).at k hlt;cases hsl;have HT:=ae (aP (FW ms k m hmk) (se.out m (dU hmk)));have lW:Hid (∀ W,ai wr W->Calls prog 67 #[.agg #[m.kind,m.src,m.dst,m.ah,m.ak,m.aO,m.pos,m.value,.slice a1 m.af.length d1,.slice a2 m.log.length d2]] W fun e w'=>ai W w'/\e=.returned (.tuple #[.string (bs m.frame),()])):=ae fun W hb=>by
    have:=UX m.kind m.src m.dst m.ah m.ak m.aO m.pos m.value (.slice a1 m.af.length d1) (.slice a2 m.log.length d2) m.af m.log 0 W (bJ.cM (aS i1 fun k _ hk=>hb.block k hk)) (aS i2 fun k _ hk=>hb.block k hk);rw[show eh m.kind [m.src,m.dst,m.ah,m.ak,m.aO,m.pos,m.value] m.af m.log=(m.frame,0) from qN HT.out.2] at this;exact this
   have q0:=hcell 0 (by omega)
   have q1:=hcell 1 (by omega)
   have q2:=hcell 2 (by omega)
   have q3:=hcell 3 (by omega)
   have q4:=hcell 4 (by omega)
   have q5:=hcell 5 (by omega)
   have q6:=hcell 6 (by omega)
   have q7:=hcell 7 (by omega)
   have q8:=hcell 8 (by omega)
   have q9:=hcell 9 (by omega)
   simp only [cd,List.getElem?_cons_zero,List.getElem?_cons_succ,Nat.add_zero] at q0 q1 q2 q3 q4 q5 q6 q7 q8 q9
   clear hcell i1 i2 hmk;go_upto_region 3 with fail
   obtain⟨X,hX,hbX,hM⟩:=dk wr m (.slice a1 m.af.length d1) (.slice a2 m.log.length d2);rw[hX];clear hX q0 q1 q2 q3 q4 q5 q6 q7 q8 q9;have gM:=fun j=>aj hM j;clear hM;go_wp2_with fail;refine (lW.out X hbX).mono ?_
   rintro e Y ⟨bt,rfl⟩;have hbW:=hbX.trans (bt.mono hbX.size);clear gM;have hbN:∀ b,ai Y (Y.alloc b):=fun b=>(ax _ Y).alloc (aG _) b;go_wp2_with fail;refine (HP.out _ vb1 _ m.frame Y.heap.size (HB.out.1.below (hbW.trans ((hbN _).mono hbW.size))) (Gt _ _) (hnw _ _)).mono ?_
   rintro e Z ⟨⟨v9,rfl⟩,hto⟩;have fj:=ae hto;clear hto;go_wp2_with fail;go_roundw
   case rel =>
    refine⟨k+1,by omega,by go_num, ?_⟩
    rw[HT.out.1, <- Gv];exact gP.trans (HB.out.2.1.below (hbW.trans ((hbN _).mono hbW.size))) HB.out.2.2 fj.out
   case measure=>simp[intOf];omega
  ·obtain rfl:k=ms.length:=by omega
   go_wp2_with fail;go_end0;refine⟨⟨_,rfl⟩,vb1, ?_,HB.out.2.1,HB.out.2.2⟩
   have:=HB.out.1;rw[je] at this;exact this
theorem yY (x:Nat)(vs vr va vm vb vt:Value)(l:List (List UInt8 × Bool))(i:Int)(w:World)(h:jL w x vs vr va vm vb vt l) :
  Calls prog 62 #[.pointer (some ⟨x,4,none⟩),.int .i64 i] w fun e w'=>e=.returned (.bool (decide (0<=i/\i<(l.length:Int))))/\w'=w:=by
 obtain⟨ab,cb,rfl⟩:=aM h.row;have c4:=aj h.blk 4;clear h;by_cases h0:0<=i
 ·have H:Hid (decide (0<=i/\i<(l.length:Int))=decide (i<(l.length:Int))):=ae (by simp[h0])
  generalize decide (0<=i/\i<(l.length:Int))=dd at *;go_enter func62,ntmps62;go_wp2_with fail;go_ret;exact⟨by rw[H.out];first|rfl|simp,rfl⟩
 ·have H:Hid (decide (0<=i/\i<(l.length:Int))=false):=ae (by simp[h0])
  generalize decide (0<=i/\i<(l.length:Int))=dd at *;go_enter func62,ntmps62;go_wp2_with fail;go_ret;exact⟨by rw[H.out];first|rfl|simp,rfl⟩
theorem C6 (l:List (List UInt8 × Bool))(i:Nat):dw (l.take i)=(dw l).take (i*2):=by
 induction l generalizing i with
 | nil=>simp[dw]
 | cons a t ih =>
  have e:dw (a :: t)=[Value.string (bs a.1),.bool a.2]++dw t:=by simp[dw]
  cases i with
  | zero=>simp[dw]
  | succ i =>
   have e2:dw ((a :: t).take (i+1))=[Value.string (bs a.1),.bool a.2]++dw (t.take i):=by simp[dw]
   rw[e,e2,ih,show (i+1)*2=i*2+1+1 by omega]
   rfl
theorem Kv (l:List (List UInt8 × Bool))(i:Nat):dw (l.drop i)=(dw l).drop (i*2):=by
 have h1:dw l=dw (l.take i)++dw (l.drop i):=by rw[<- yX,List.take_append_drop]
 have h2:=List.take_append_drop (i*2) (dw l);rw[C6] at h1;rw[<- h2] at h1;exact (List.append_cancel_left (by rw[List.take_append_drop] at h1;rw[h2];exact h1)).symm
theorem Kw (l:List (List UInt8 × Bool))(i:Nat):tM (dw l) i=dw (l.eraseIdx i):=by
 rw[tP,yX,C6,Kv];rfl
theorem C8 (x:Nat)(vs vr va vm vb vt:Value)(l:List (List UInt8 × Bool))(k:Nat)(w:World)(h:jL w x vs vr va vm vb vt l)(hk:k<l.length)(hl:l.length<=200) :
  Calls prog 64 #[.pointer (some ⟨x,4,none⟩),.int .i64 (k:Int)] w fun e w'=>e=.returned (.agg #[.string (bs (l.getD k ([],false)).1),.bool (l.getD k ([],false)).2])/\gP w w' x vs vr va vm vb vt (l.eraseIdx k):=by
 have HI:=ae h;obtain⟨g,cb,hv, -, -⟩:=h.row.form (by omega)
 subst hv;have c4:=aj h.blk 4;have hf:l[k]?=some (l.getD k ([],false)):=by rw[ew,bU hk];rfl
 have su:=ev h.row (k*2) (by omega)
 have ck1:=ev h.row (k*2+1) (by omega)
 rw[(sn l k _ hf).1] at su;rw[(sn l k _ hf).2] at ck1;have HD:Hid (∀ W,ai w W->Calls prog 119 #[.slice (some g) l.length cb,.int .i64 (k:Int),.int .i64 ((k:Int)+1)] W fun e w'=>e=.returned (.slice (some g) (l.length-1) cb)/\w'.ownsRow 0 138 2 (.slice (some g) (l.length-1) cb) (l.length-1) (tM (dw l) k)/\qH W w' g):=ae fun W hb=>LV 0 g l.length cb k (dw l) W (HI.out.below hb).row (C5 l) hk;have hwr:IntKind.i64.wrap ((k:Int)+1)=(k:Int)+1:=by rw[dV];omega
 have hgx:x≠g:=fun e=>aY h.blk h.row (by decide) (by rw[e];rfl)
 have hk0:(0:Int)<=(k:Int):=by omega
 have hk1:(k:Int)<(l.length:Int):=by omega
 have HE:Hid (l.length-1=(l.eraseIdx k).length):=ae (by rw[List.length_eraseIdx,if_pos hk])
 clear h hf;generalize l.getD k ([],false)=fr at *;obtain⟨A0,wC,uf,El⟩:=ch w #[.string ⟨#[]⟩,.bool false] 138;have hs0:A0.heap.size=w.heap.size+1:=by rw[<- wC];simp
 obtain⟨A1,hA1,Ex,Em⟩:=ch A0 #[.string (bs fr.1),.bool fr.2] 138;have hbW:=uf.trans (Ex.mono uf.size);have p4:=aF uf c4;have R0:=aF uf su;have R8:=aF uf ck1;have r4:=aF hbW c4;have HM:=ae (aP ((Ex.block _ (by omega)).trans El) Em)
 have IA:=ae (HI.out.below hbW);have hgl:g<w.heap.size:=(dL.1 (bK HI.out.row (by rfl)).choose_spec.1).1
 have hxl:x<w.heap.size:=(aQ HI.out.blk);clear El Em;go_enter func64,ntmps64;go_wp2_with fail;refine (HD.out A1 hbW).mono ?_
 rintro e Y ⟨rfl,hrow,hT⟩;have wM:=(hT.block x hgx).trans IA.out.blk;have d4:=aj wM 4;have e4:=aW wM 4;have hY0:=(hT.block w.heap.size (by omega)).trans HM.out.1
 have wL:=(hT.block A0.heap.size (by omega)).trans HM.out.2
 rw[hs0] at wL;have u0:=aj hY0 0;have u1:=aj hY0 1;have f0:=aW hY0 0;have f1:=aW hY0 1;have t0:=au wL 0;have t1:=au wL 1;have hx1:¬ x=w.heap.size:=by omega
 have hx2:¬ w.heap.size=x:=by omega
 have hx3:¬ x=w.heap.size+1:=by omega
 have hx4:¬ w.heap.size+1=x:=by omega
 have HY:=ae (aP wM (aP hrow hT));clear wM hrow hT c4 su ck1 p4 R0 R8 r4 hY0 wL;go_wp2_with fail;refine dB (v:=.agg #[.string (bs fr.1),.bool fr.2]) (by simp[results,results64,go_sem,u0,u1]) rfl ?_
 have hM:Moved w Y (n_ x (.slice (some g) l.length cb)):=by
  have M1:=(Moved.refl w (n_ x (.slice (some g) l.length cb))).below hbW;exact M1.trans (⟨HY.out.2.2.os,HY.out.2.2.tape,HY.out.2.2.output,by rw[HY.out.2.2.size];exact aG _,fun k _ hS=>HY.out.2.2.block k (fun e=>hS e)⟩:Moved A1 Y (fun k=>k=g)) (fun k _ e=>.inr (by rw[e];rfl))
 have hr0:=HY.out.2.1;rw[Kw,HE.out] at hr0;have hset:∀ (U:World) (j:Nat) (v:Value),Moved w U (n_ x (.slice (some g) l.length cb))->Moved w (U.setCell ⟨w.heap.size,j,none⟩ v) (n_ x (.slice (some g) l.length cb)):=fun U j v hU=>hU.trans ((Moved.refl U (fun k=>w.heap.size<=k)).setCell ⟨w.heap.size,j,none⟩ (aG _) v) (fun k hk e=>by omega)
 have hgn:(Value.slice (some g) (l.eraseIdx k).length cb).ownBlock≠some w.heap.size:=fun e=>by
  have:g=w.heap.size:=by simpa [Value.ownBlock] using e
  omega
 refine⟨rfl,.slice (some g) (l.eraseIdx k).length cb,⟨?_, ?_⟩, ?_,fun k e=>.inl e⟩
 ·rw[cJ _ _ _ _ hx1,cJ _ _ _ _ hx1,HE.out]
  exact GW _ HY.out.1
 ·rw[HE.out]
  exact bu (bu (bu hr0 (aY HY.out.1 hr0 (by decide)) _) hgn _) hgn _
 ·exact hset _ _ _ (hset _ _ _ (hM.setCell ⟨x,4,none⟩ (.inl rfl) _))
theorem Ku (x:Nat)(vs vr va vm vb vt:Value)(l:List (List UInt8 × Bool))(k:Nat)(w:World)(h:jL w x vs vr va vm vb vt l)(hk:k<l.length)(hl:l.length<=200) :
  Calls prog 129 #[.pointer (some ⟨x,4,none⟩),.int .i64 (k:Int)] w fun e w'=>(∃ v,e=.returned v)/\gP w w' x vs vr va vm vb vt (jE l (l.getD k ([],false))):=by
 have HI:=ae h;obtain⟨g,cb,hv, -, -⟩:=h.row.form (by omega)
 subst hv;have c4:=aj h.blk 4;have hf:l[k]?=some (l.getD k ([],false)):=by rw[ew,bU hk];rfl
 have su:=ev h.row (k*2) (by omega)
 have ck1:=ev h.row (k*2+1) (by omega)
 rw[(sn l k _ hf).1] at su;rw[(sn l k _ hf).2] at ck1;have hk0:(0:Int)<=(k:Int):=by omega
 have hk1:(k:Int)<(l.length:Int):=by omega
 clear h hf;generalize l.getD k ([],false)=fr at *;have HP:Hid (∀ W g2,ai w W->W.heap[g2]?=some (.cells #[.string (bs fr.1),.bool fr.2] 138)->Calls prog 68 #[.pointer (some ⟨x,4,none⟩),.slice (some ⟨g2,0,none⟩) 1 1] W fun e w'=>(∃ v,e=.returned v)/\gP W w' x vs vr va vm (.slice (some g) l.length cb) vt (jE l fr)):=ae fun W g2 hb h3=>C7 x vs vr va vm _ vt l fr g2 W (HI.out.below hb) hl h3;have hbN:∀ b,ai w (w.alloc b):=fun b=>(ax _ w).alloc (aG _) b;go_enter func129,ntmps129;go_wp2_with fail;refine (HP.out _ w.heap.size (hbN _) (hnw _ _)).mono ?_
 rintro e Y ⟨⟨v,rfl⟩,hto⟩;have fj:=ae hto;clear hto c4 su ck1;go_wp2_with fail;go_end0;exact⟨⟨_,rfl⟩,gP.trans ((Moved.refl w _).below (hbN _)) (bO.refl _ _) fj.out⟩
def qk (l:List (List UInt8 × Bool))(k:Nat):List Value:=nv (l.take k)++List.replicate (l.length-k) (.string ⟨#[]⟩)
theorem tH (l:List (List UInt8 × Bool)):(nv l).length=l.length:=fF _
theorem Q9 (l:List (List UInt8 × Bool))(k:Nat)(hk:k<l.length):(qk l k)[k]?=some (.string ⟨#[]⟩):=by
 unfold qk;have hlk:(nv (l.take k)).length=k:=by rw[tH,dA];omega
 rw[kH (by omega),hlk,Nat.sub_self,List.getElem?_replicate,if_pos (by omega)]
theorem Q_ (l:List (List UInt8 × Bool))(k:Nat)(hk:k<l.length):(qk l k).set k (.string (bs l[k].1))=qk l (k+1):=by
 unfold qk;have hlk:(nv (l.take k)).length=k:=by rw[tH,dA];omega
 rw[lP _ _ (by omega),hlk,Nat.sub_self]
 obtain⟨d,hd⟩:∃ d,l.length-k=d+1:=⟨l.length-k-1,by omega⟩
 rw[hd,List.replicate_succ,fT,show l.length-(k+1)=d by omega,nU hk]
 unfold nv;rw[gw];simp
theorem Ky (x:Nat)(vs vr va vm vb vt:Value)(l:List (List UInt8 × Bool))(w:World)(h:jL w x vs vr va vm vb vt l)(hl:l.length<=200) :
  Calls prog 116 #[.pointer (some ⟨x,4,none⟩)] w fun e w'=>∃ v,e=.returned v/\w'.ownsRow w.heap.size 9 1 v l.length (nv l)/\ai w w':=by
 have hmk:=run_make_row' (P:=prog) 111 9 (.string ⟨#[]⟩) 16 underlying111 Pc rfl .i64 .i64 l.length (by omega) (by omega)
 obtain⟨ab,cb,rfl⟩:=aM h.row;have c4:=aj h.blk 4;have hxl:x<w.heap.size:=(aQ h.blk);have HB:=ae h;clear h;go_enter func116,ntmps116;go_wp2_with fail;go_loopw [17] (fun i wr=>∃ k:Nat,k<=l.length/\i=.int .i64 k/\(∃ cs:Array Value,wr.heap[w.heap.size]?=some (.cells cs 9)/\cs.toList=qk l k)/\ai w wr) (fun i _=>l.length-(intOf i).toNat)
 case atStart =>
  refine⟨0,bl _,rfl,⟨_,hnw _ _, ?_⟩,(ax _ w).alloc (aG _) _⟩
  apply List.ext_getElem?;intro i;unfold qk madeCells;simp only [Array.toList_map,Array.toList_range,fe,nv,List.take_zero,List.map_nil,fH,Nat.sub_zero,List.getElem?_replicate]
  by_cases hi:i<l.length
  ·rw[List.getElem?_range hi,if_pos hi]
   simp[Nat.mod_one]
  ·rw[List.getElem?_eq_none (by simpa using hi),if_neg hi]
   rfl
 case round =>
  obtain⟨k,hk,rfl,⟨cs,hcs,hcl⟩,hb⟩:=hrel;by_cases hlt:k<l.length
  ·have hk1:(k:Int)<(l.length:Int):=by omega
   have hk0:(0:Int)<=(k:Int):=by omega
   obtain⟨g,cap,hv, -, -⟩:=HB.out.row.form (by omega)
   cases hv;have hf:l[k]?=some l[k]:=bU hlt;have f0:=ev HB.out.row (k*2) (by omega)
   have f1:=ev HB.out.row (k*2+1) (by omega)
   rw[(sn l k _ hf).1] at f0;rw[(sn l k _ hf).2] at f1;have g0:=aF hb f0;have g1:=aF hb f1;have hset:=Q_ l k hlt;generalize l[k]=f at *;have hwl:w.heap.size<wr.heap.size:=(aQ hcs);have hn1:¬ w.heap.size=wr.heap.size:=by omega
   have hn2:¬ wr.heap.size=w.heap.size:=by omega
   obtain⟨X,hX,hbX,hM⟩:=ch wr #[.string (bs f.1),.bool f.2] 138;have wP:=(hbX.block _ hwl).trans hcs;have ck:X.cell? ⟨w.heap.size,k,none⟩=some (.string ⟨#[]⟩):=(aj wP k).trans (by rw[<- Array.getElem?_toList,hcl,Q9 l k hlt])
   have fk:=aW wP k;have x0:=au hM 0;have mR:=hb.trans (hbX.mono hb.size);have HC:=ae (aP wP (aP hcl hset));clear hcs wP hcl f0 f1 hset hM;go_wp2_with fail;go_roundw
   case rel=>exact⟨k+1,by omega,by go_num,⟨_,bV _ _ _ _ _ _ HC.out.1,by rw[Array.toList_setIfInBounds,HC.out.2.1,HC.out.2.2]⟩,mR.setCell (by exact aG _) _⟩
   case measure=>simp[intOf];omega
  ·obtain rfl:k=l.length:=by omega
   have HC:=ae (aP hcs hcl);clear hcs hcl;go_wp2_with fail;go_ret;have hcl:cs.toList=nv l:=by rw[HC.out.2];unfold qk;simp
   have hsz:cs.size=l.length:=by rw[<- Array.length_toList,hcl,tH]
   refine⟨_,rfl,⟨by rw[tH,Nat.mul_one],.inr ⟨w.heap.size,l.length,cs,rfl,aG _,HC.out.1,aG _,by unfold maxLen;omega,by omega, ?_⟩⟩,hb⟩
   rw[hcl];exact jF (by rw[tH];omega)
theorem PL (key:Int)(l:List aH)(k:Nat)(hk:k<l.length):oH key (l.take (k+1))=if (l.getD k aH.zero).kind=1/\(l.getD k aH.zero).key=key then (l.getD k aH.zero).value else oH key (l.take k):=by
 unfold oH;rw[nU hk,List.foldl_append];have:l.getD k aH.zero=l[k]:=by rw[ew,bU hk];rfl
 rw[this];rfl
theorem Ss (v:Value)(l:List aH)(p:Nat)(w:World)(h:eM w v l)(hp:p<l.length)(hl:l.length<=24) :
  Calls prog 221 #[v,.int .i64 (p:Int)] w fun e w'=>e=.returned (.int .i64 (jj l p))/\∃ q,w'=w.drewN q:=by
 obtain⟨a,c,rfl,hv⟩:=h;have HV:=ae hv;clear hv;have HA:Hid (jj l p=oH (l.getD p aH.zero).key (l.take p)):=ae rfl;go_enter func221,ntmps221;go_wp2_with fail;go_loopw [5] (fun i wr=>∃ k:Nat,k<=p/\i=.int .i64 ((k:Int)-1)/\(∃ q,wr=w.drewN q)/\jj l p=oH (l.getD p aH.zero).key (l.take k)) (fun i _=>(intOf i+1).toNat)
 case atStart=>exact⟨p,aG _,by go_num,⟨0,rfl⟩,HA.out⟩
 case round =>
  obtain⟨k,hk,rfl,⟨q,rfl⟩,hinv⟩:=hrel;cases k with
  | zero =>
   have HI:Hid (jj l p = -1):=ae hinv;go_wp2_with fail;go_ret;exact⟨by rw[HI.out];rfl,q,rfl⟩
  | succ k =>
   have e1:(((k+1:Nat):Int)-1)=(k:Int):=by omega
   rw[e1];have hk0:(0:Int)<=(k:Int):=by omega
   have hkl:(k:Int)<(l.length:Int):=by omega
   have hpl:(p:Int)<(l.length:Int):=by omega
   have hp0:(0:Int)<=(p:Int):=by omega
   obtain⟨b1,o1,rfl,c10,c11,c12,c13,c14⟩:=HV.out k (by omega)
   obtain⟨b2,o2,hab,c20,c21,Vk,c23,c24⟩:=HV.out p hp;cases hab;have HS:=ae (PL (l.getD p aH.zero).key l k (by omega))
   have HI:=ae hinv;have hwr:IntKind.i64.wrap ((k:Int)-1)=(k:Int)-1:=by rw[dV];omega
   clear hinv;generalize l.getD k aH.zero=x at *;generalize l.getD p aH.zero=y at *;by_cases h1:x.kind=1
   ·have h1':(x.kind == 1)=true:=by simp[h1]
    by_cases h2:x.key=y.key
    ·have HF:Hid (jj l p=x.value):=ae (by rw[HI.out,HS.out,if_pos ⟨h1,h2⟩])
     have h2':(x.key == y.key)=true:=by simp[h2]
     go_wp2_with fail;go_quiet (fail);go_wp2_with fail;go_ret;exact⟨by rw[HF.out];rfl,_,rfl⟩
    ·have HF:Hid (jj l p=oH y.key (l.take k)):=ae (by rw[HI.out,HS.out,if_neg (fun e=>h2 e.2)])
     have h2':(x.key == y.key)=false:=by simp[h2]
     go_wp2_with fail;go_quiet (fail);go_wp2_with fail;go_roundw
     case rel=>exact⟨k,by omega,by go_num,⟨_,rfl⟩,HF.out⟩
     case measure=>simp[intOf]
   ·have HF:Hid (jj l p=oH y.key (l.take k)):=ae (by rw[HI.out,HS.out,if_neg (fun e=>h1 e.1)])
    have h1':(x.kind == 1)=false:=by simp[h1]
    go_wp2_with fail;go_quiet (fail);go_wp2_with fail;go_roundw
    case rel=>exact⟨k,by omega,by go_num,⟨_,rfl⟩,HF.out⟩
    case measure=>simp[intOf]
theorem C4 {t e:TypeId}{z:Value}{size bytes:Nat}(hinfo:(prog.info? e).map (fun i=>(i.zero,i.size,i.bytes))=some (some z,size,bytes))(hu:prog.underlying t=some (.slice e))(hzs:z.cells.size=size)(hsz:0<size)
  (W:World) (base:Nat) (v:Value) (n:Nat) (xs:List Value) (u:Value) (m:Nat) (ys:List Value) (hown:W.ownsRow base e size v n xs) (hsrc:W.ownsRow 0 e size u m ys) (h1:∀ u∈ys,u.oneCell'=true) (hl:n+m<=1000000000000) (hby:bytes<=100) (hb:base<=W.heap.size) :
  ∃ v' W',(∀ ty,(Builtin.append_ #[t,t] ty #[v,u]).run prog W=.ok v' W')/\W'.ownsRow base e size v' (n+m) (xs++ys)/\W.grownBy W' v.ownBlock/\(v'.ownBlock=v.ownBlock\/v'.ownBlock=some W.heap.size):=by
 obtain⟨i0,hi,hz0,hz1,hz2⟩:=info_parts hinfo;have hA:∀ ty,∃ v' W',(Builtin.append_ #[t,t] ty #[v,u]).run prog W=.ok v' W'/\W'.ownsRow base e size v' (n+m) (xs++ys)/\W.grownBy W' v.ownBlock/\(v'.ownBlock=v.ownBlock\/v'.ownBlock=some W.heap.size):=fun ty=>by
  rcases hsrc.2 with ⟨rfl,hm0⟩|⟨g,cap,cur,rfl,_,hg,hnc,_,hcs,htk⟩
  ·have hys:ys=[]:=by
    have:=hsrc.1;rw[hm0,Nat.zero_mul] at this;exact List.length_eq_zero_iff.1 this
   subst hys;subst hm0;exact⟨v,W,run_append_owned_none W base t ty e i0 size hu hi v n xs hown,by rw[List.append_nil];exact hown,⟨rfl,rfl,rfl,aG _,fun _ _ _=>rfl⟩,.inl rfl⟩
  ·obtain⟨v',W',hr,h2,h3,_,h5⟩:=run_append_own_at (P:=prog) W base t ty e i0 _ size bytes hu hi hz0 hz1 hz2 hzs hsz v n xs hown ⟨g,0,none⟩ m cap ys hsrc.1
    (fun j w hj=>by
     have hjl:j<m*size:=by have:=(dI.1 hj).1;rw[hsrc.1] at this;exact this
     rw[Addr.add_lit,fh,ev hsrc j hjl,hj])
    h1 (by unfold maxLen;omega) (bP (Nat.mul_le_mul hl hby) (by decide)) hb
   exact⟨v',W',hr,h2,h3,h5⟩
 obtain⟨v',W',hr,h2⟩:=hA 0;refine⟨v',W',fun ty => ?_,h2⟩
 rw[<- hr];rfl
theorem Fk : (prog.info? 42).map (fun i=>(i.zero,i.size,i.bytes))=some (some (.agg #[(),(),(),(),()]),5,40):=by kernel_rfl
theorem OX : (prog.info? 3).map (fun i=>(i.zero,i.size,i.bytes))=some (some (.int .i64 0),1,8):=by kernel_rfl
theorem OZ : (prog.info? 134).map (fun i=>(i.zero,i.size,i.bytes))=some (some (.agg #[(),(),(),(),(),(),(),(),true,true]),10,112):=by kernel_rfl
theorem nh (v:Value)(l:List aH)(w:World)(h:bw w v l)(hl:l.length<=1000) :
  Calls prog 208 #[v] w fun e w'=>∃ v',e=.returned v'/\w'.ownsRow w.heap.size 42 5 v' l.length (aJ (bk l))/\ai w w':=by
 obtain⟨v',W',hr,h2,h3, -⟩:=C4 (t:=44) Fk underlying44 rfl (by decide) w w.heap.size (.slice none 0 0) 0 [] v l.length (aJ (bk l)) (bE _ _ _ _) h (kE _) (by omega) (by decide) (aG _)
 rw[fH,fh] at h2;obtain⟨a0,c0,rfl⟩:=aM h;obtain⟨a1,c1,rfl⟩:=aM h2;have hb:ai w W':=((Moved.refl w (fun _=>False)).grown h3 (fun z _ e=>by simp[Value.ownBlock] at e)).jg (fun _ e=>e.elim) (aG _)
 have HR:=ae hr;have HO:=ae (aP h2 hb);clear hr h2 h3 hb h;go_enter func208,ntmps208;go_wp2_with (at_builtin;refine kI rfl (.tmp 4) (.tmp 5) 44 rfl _ _ _ _ (by simp[Act.eval]) (by simp[Act.eval]) HR.out ?_)
 go_wp2_with fail;go_ret;exact⟨_,rfl,HO.out.1,HO.out.2⟩
theorem Bw (v:Value)(l:List Int)(w:World)(h:bd w v l)(hl:l.length<=1000000) :
  Calls prog 132 #[v] w fun e w'=>∃ v',e=.returned v'/\w'.ownsRow w.heap.size 3 1 v' l.length (aJ l)/\ai w w':=by
 obtain⟨v',W',hr,h2,h3, -⟩:=C4 (t:=29) OX underlying29 rfl (by decide) w w.heap.size (.slice none 0 0) 0 [] v l.length (aJ l) (bE _ _ _ _) h (kE _) (by omega) (by decide) (aG _)
 rw[fH,fh] at h2;obtain⟨a0,c0,rfl⟩:=aM h;obtain⟨a1,c1,rfl⟩:=aM h2;have hb:ai w W':=((Moved.refl w (fun _=>False)).grown h3 (fun z _ e=>by simp[Value.ownBlock] at e)).jg (fun _ e=>e.elim) (aG _)
 have HR:=ae hr;have HO:=ae (aP h2 hb);clear hr h2 h3 hb h;go_enter func132,ntmps132;go_wp2_with (at_builtin;refine kI rfl (.tmp 4) (.tmp 5) 29 rfl _ _ _ _ (by simp[Act.eval]) (by simp[Act.eval]) HR.out ?_)
 go_wp2_with fail;go_ret;exact⟨_,rfl,HO.out.1,HO.out.2⟩
end Go.Proofs.YtgieeeeeiggoeaaGreat
