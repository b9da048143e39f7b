import Derived.Test.YtgieeeeeiggoeaaGreatD18
set_option maxRecDepth 100000
set_option maxHeartbeats 1000000
namespace Go.Proofs.YtgieeeeeiggoeaaGreat
open Go.RowKit Go.Shelf
open Tryz
variable {a:Acc}{own:Int}{l:List (Int × Value)}{b base g:Nat}{F:Nat->Prop}{v vm:Value}{w w':World}
theorem cX.still {r:aR}{vl:Value}(h:dh w b own r vm vl)(hb:ai w w'):cX w w' b own vm vl (.returned true) (r,[]) :=
 ⟨_,rfl,eB.still h hb,a_.nil _ _⟩
theorem a_.shape {ms:List aK}(h:a_ w base v ms):∃ a c,v=.slice a ms.length c:=by
 obtain⟨ws, -,h2, -⟩:=h;exact aM h2
theorem dk (w:World)(m:aK)(mm ml:Value):∃ X,w.alloc (.cells #[m.kind,m.src,m.dst,m.ah,m.ak,m.aO,m.pos,m.value,mm,ml] 134)=X/\ai w X/\X.heap[w.heap.size]?=some (.cells #[m.kind,m.src,m.dst,m.ah,m.ak,m.aO,m.pos,m.value,mm,ml] 134) :=
 ⟨_,rfl,(ax _ w).alloc (aG _) _,hnw _ _⟩
theorem T9 (b:Nat)(own:Int)(r:aR)(vm vl:Value)(m:aK)(mm ml:Value)(w:World)(h:dh w b own r vm vl)(ok:gH r) :
  Calls prog 267 #[b,bL m mm ml] w fun e w'=>cX w w' b own vm vl e (r.jf own m):=by
 have HT:Hid (r.jf own m=if r.live own/\bS r.af own=some m.src/\m.ah=r.ah/\(r.aU:Int)<m.pos/\m.pos<=r.log.length then
  ({ r with aU:=m.pos.toNat },aR.c_ { r with aU:=m.pos.toNat } own) else (r,[])):=ae rfl
 have hbl:b<w.heap.size:=(aQ h.blk);have tp:Hid (∀ W,ai w W->Calls prog 276 #[b,.agg #[m.kind,m.src,m.dst,m.ah,m.ak,m.aO,m.pos,m.value,mm,ml]] W fun e w'=>e=.returned (.bool (r.live own && decide (m.ah=r.ah)))/\ai W w'):=ae fun W hb=>Fs b own r vm vl m mm ml W (h.below hb) ok;have HB1:Hid (∀ W,ai w W->Calls prog 270 #[b] W fun e w'=>e=.returned (.tuple #[.int .i64 ((bS r.af own).getD 0),.bool (bS r.af own).isSome])/\ai W w'):=ae fun W hb=>tI b own r vm vl W (h.below hb) ok;have HR:=ae h;have HO:=ae ok;clear h ok;unfold bL;go_enter func267,ntmps267;go_wp2_with fail;obtain⟨X,hX,hbX,cS⟩:=dk w m mm ml;rw[hX];clear hX;refine (HB1.out _ hbX).mono ?_
 rintro e W2 ⟨rfl,hb2⟩;have hb2':=hbX.trans (hb2.mono hbX.size);have hB2:=ae ((hb2.block _ (aQ cS)).trans cS);clear cS hb2 hbX;cases hnx:bS r.af own with
 | none =>
  have HN:Hid (r.jf own m=(r,[])):=ae (by rw[HT.out,if_neg];rintro⟨-,h2, -⟩;rw[hnx] at h2;cases h2)
  go_wp2_with fail;go_ret;rw[HN.out];exact cX.still HR.out hb2'
 | some nx =>
  have tt:=ae hnx;clear hnx;have g0:=aj hB2.out 0;have g1:=aj hB2.out 1;have g2:=aj hB2.out 2;have g3:=aj hB2.out 3;have g4:=aj hB2.out 4;have g5:=aj hB2.out 5;have g6:=aj hB2.out 6;have g7:=aj hB2.out 7;have g8:=aj hB2.out 8;have g9:=aj hB2.out 9;cases hsd:(m.src != nx) with
  | true =>
   have HN:Hid (r.jf own m=(r,[])):=ae (by rw[HT.out,if_neg];rintro⟨-,h2, -⟩;rw[tt.out] at h2;injection h2 with h2;rw[h2] at hsd;simp at hsd)
   go_wp2_with fail;go_ret;rw[HN.out];exact cX.still HR.out hb2'
  | false =>
   have yI:Hid (m.src=nx):=ae (by simpa using hsd)
   go_wp2_with fail;refine (tp.out _ hb2').mono ?_
   rintro e W3 ⟨rfl,hb3⟩;have kz:=hb2'.trans (hb3.mono hb2'.size);have hB3:=ae ((hb3.block _ (aQ hB2.out)).trans hB2.out);clear g0 g1 g2 g3 g4 g5 g6 g7 g8 g9 hb3 hb2' hB2 hsd;cases nK:(r.live own && decide (m.ah=r.ah)) with
   | false =>
    have HN:Hid (r.jf own m=(r,[])):=ae (by rw[HT.out,if_neg];rintro⟨h1, -,h2, -⟩;rw[h1,h2] at nK;simp at nK)
    clear nK;go_wp2_with fail;go_ret;rw[HN.out];exact cX.still HR.out kz
   | true =>
    have Hno:Hid (r.live own=true/\m.ah=r.ah):=ae (by simpa using nK)
    clear nK;have R3:=ae (HR.out.below kz);obtain⟨al,cl,hvl⟩:=aM HR.out.hl;have g6:=aj hB3.out 6;have c6:=au R3.out.blk 6;have c4:W3.cell? (b,4)=some (.slice al r.log.length cl):=by rw[<- hvl];exact aj R3.out.blk 4
    have f6:W3.frozen? (b,6)=false:=aW R3.out.blk 6;have CI:=ae hvl;clear hvl;by_cases hp1:m.pos<=(r.aU:Int)
    ·have HN:Hid (r.jf own m=(r,[])):=ae (by rw[HT.out,if_neg];rintro⟨-, -, -,h3, -⟩;omega)
     go_wp2_with fail;go_quiet (fail);go_wp2_with fail;go_ret;rw[HN.out];exact cX.still HR.out (aV kz _)
    ·have V7:decide (m.pos<=(r.aU:Int))=false:=ee hp1
     by_cases hp2:(r.log.length:Int)<m.pos
     ·have HN:Hid (r.jf own m=(r,[])):=ae (by rw[HT.out,if_neg];rintro⟨-, -, -, -,h3⟩;omega)
      go_wp2_with fail;go_quiet (fail);go_wp2_with fail;go_ret;rw[HN.out];exact cX.still HR.out (aV kz _)
     ·have V8:decide ((r.log.length:Int)<m.pos)=false:=ee hp2
      obtain⟨P,hP⟩:∃ P:Nat,m.pos=P:=⟨m.pos.toNat,by omega⟩
      have HN:Hid (r.jf own m=({ r with aU:=P },aR.c_ { r with aU:=P } own)):=ae (by
       rw[HT.out,if_pos ⟨Hno.out.1,by rw[tt.out,yI.out],Hno.out.2,by omega,by omega⟩,hP]
       rfl)
      have HP:=ae hP;have yv:Hid (P<=r.log.length):=ae (by omega)
      clear hP;go_wp2_with fail;go_quiet (fail);go_wp2_with fail;rw[HP.out];have R4:dh ((W3.drewN nq).setCell ⟨b,6,none⟩ (.int .i64 (P:Int))) b own { r with aU:=P } vm vl:=by
       have yM:=R3.out.below (aV (ax _ W3) nq);exact yM.set 6 _ { r with aU:=P } vm vl rfl yM.hm yM.hl
      have M4:Moved w ((W3.drewN nq).setCell ⟨b,6,none⟩ (.int .i64 (P:Int))) (lz b vm vl):=((Moved.refl w _).below (aV kz nq)).setCell ⟨b,6,none⟩ (.inl rfl) _;refine (tB b own { r with aU:=P } vm vl _ R4 ⟨HO.out.m,HO.out.l,yv.out⟩).mono ?_
      rintro e W5 ⟨v,rfl,hmo,hb5⟩;obtain⟨av,cv,rfl⟩:=hmo.shape;go_wp2_with fail;go_ret;rw[HN.out];exact⟨_,rfl,eB.then M4 (bO.refl _ _) (bO.refl _ _) (eB.still R4 hb5),hmo.base M4.size⟩
theorem pO (v:Value)(es:List aH)(w:World)(hv:bw w v es)(hl:es.length<=1000) :
  Calls prog 147 #[v] w fun e w'=>∃ a c,e=.returned (.slice a es.length c)/\w'.ownsRow w.heap.size 42 5 (.slice a es.length c) es.length (aJ (bk es))/\ai w w':=by
 refine (Ll v es.length (aJ (bk es)) w (oM.cM hv) hv.1 (kE _) (by omega)).mono ?_
 rintro e w' ⟨v',rfl,h1,h2⟩;obtain⟨a,c,rfl⟩:=aM h1;exact⟨a,c,rfl,h1,h2⟩
theorem ma (v:Value)(l:List Int)(w:World)(hv:bd w v l)(hl:l.length<=1000) :
  Calls prog 69 #[v] w fun e w'=>∃ a c,e=.returned (.slice a l.length c)/\w'.ownsRow w.heap.size 3 1 (.slice a l.length c) l.length (aJ l)/\ai w w':=by
 refine (Dz v l.length (aJ l) w (oM.cM hv) (by rw[fP,Nat.mul_one]) (kE _) (by omega)).mono ?_
 rintro e w' ⟨v',rfl,h1,h2⟩;obtain⟨a,c,rfl⟩:=aM h1;exact⟨a,c,rfl,h1,h2⟩
theorem Uf (b:Nat)(own:Int)(r:aR)(vm vl:Value)(m:aK)(mm ml:Value)(w:World)(h:dh w b own r vm vl)(ok:gH r)(ph : -1000000<=r.ah/\r.ah<=1000000) :
  Calls prog 268 #[b,bL m mm ml] w fun e w'=>cX w w' b own vm vl e (r.lp own m):=by
 have HT:Hid (r.lp own m=if r.ah+1<m.ah then (r,[])
  else ({ r with lock:=if m.ah=r.ah+1 then m.ah else r.lock },[{ kind:=8,src:=own,dst:=m.src,ah:=m.ah,ak:=m.ak,log:=r.log }])):=ae rfl
 have hwr:IntKind.i64.wrap (r.ah+1)=r.ah+1:=by rw[dV];omega
 have hbl:b<w.heap.size:=(aQ h.blk);have ja:=ok.l;obtain⟨al,cl,rfl⟩:=aM h.hl;have HR:=ae h;clear h ok;have CC:Hid (∀ (Y:World) (r1:aR),dh Y b own r1 vm (.slice al r.log.length cl)->r1.log=r.log->Y.heap[w.heap.size]?=some (.cells #[m.kind,m.src,m.dst,m.ah,m.ak,m.aO,m.pos,m.value,mm,ml] 134)->∀ W,W=Y.drew->Calls prog 147 #[.slice al r.log.length cl] W fun e w'=>∃ a c,e=.returned (.slice a r.log.length c)/\bw w' (.slice a r.log.length c) r.log/\ai Y w' /\
   w'.cell? (b,0)=some (.int .i64 own)/\w'.cell? (b,4)=some (.slice al r.log.length cl)/\w'.cell? (w.heap.size,1)=some (.int .i64 m.src)/\w'.cell? (w.heap.size,3)=some (.int .i64 m.ah)/\w'.cell? (w.heap.size,4)=some (.int .i64 m.ak)):=ae (by
  rintro Y r1 R1 dy hB W rfl;have hl1:=R1.hl;rw[dy] at hl1;refine (pO _ r.log Y.drew (aS hl1 fun k _ hk=>rfl) (by omega)).mono ?_
  rintro e w' ⟨a,c,rfl,h1,h2⟩;have hb:ai Y w':=((ax _ Y).drew).trans h2;exact⟨a,c,rfl,obs h1 (bl _),hb,aF hb (aj R1.blk 0),aF hb (aj R1.blk 4),aF hb (aj hB 1),aF hb (aj hB 3),aF hb (aj hB 4)⟩)
 unfold bL;go_enter func268,ntmps268;go_wp2_with fail;obtain⟨X,hX,hbX,cS⟩:=dk w m mm ml;rw[hX];clear hX;have RX:=ae (HR.out.below hbX);have c1:=au RX.out.blk 1;have g3:=aj cS 3;have lV:=ae cS;clear cS;by_cases he:r.ah+1<m.ah
 ·have HN:Hid (r.lp own m=(r,[])):=ae (by rw[HT.out,if_pos he])
  go_quiet (fail);go_wp2_with fail;go_ret;rw[HN.out];exact cX.still HR.out (aV hbX _)
 ·have rn:decide (r.ah+1<m.ah)=false:=ee he
  have CH:=ae he;clear he;go_quiet (fail);have mR:=aV hbX nq;have JI:=ae (HR.out.below mR);have yf:Hid ((X.drewN nq).heap[w.heap.size]?=some (.cells #[m.kind,m.src,m.dst,m.ah,m.ak,m.aO,m.pos,m.value,mm,ml] 134)):=lV;generalize X.drewN nq=X2 at *;clear RX lV hbX c1 g3;have c1:=au JI.out.blk 1;have g3:=aj yf.out 3;go_wp2_with fail;cases heq:(m.ah == r.ah+1) with
  | false =>
   have HN:Hid (r.lp own m=(r,[{ kind:=8,src:=own,dst:=m.src,ah:=m.ah,ak:=m.ak,log:=r.log }])):=ae (by
    rw[HT.out,if_neg (show ¬ r.ah+1<m.ah by have:=CH.out;omega),if_neg (by intro e;rw[e] at heq;simp at heq)])
   go_quiet (fail);go_wp2_with fail;have bt:=aV mR nq;have RY:=ae (HR.out.below bt);have eG:Hid ((X2.drewN nq).heap[w.heap.size]?=some (.cells #[m.kind,m.src,m.dst,m.ah,m.ak,m.aO,m.pos,m.value,mm,ml] 134)):=yf;generalize X2.drewN nq=Y at *;clear c1 g3 heq;have y0:=au RY.out.blk 0;have y4:=au RY.out.blk 4;have y1:=aj eG.out 1;have y3:=aj eG.out 3;have y5:=aj eG.out 4;go_region_held3 (fun w'=>w'.cell? (b,0)=some (.int .i64 own)/\w'.cell? (b,4)=some (.slice al r.log.length cl)/\w'.cell? (w.heap.size,1)=some (.int .i64 m.src)/\w'.cell? (w.heap.size,3)=some (.int .i64 m.ah)/\w'.cell? (w.heap.size,4)=some (.int .i64 m.ak)) (first|(simp[go_sem];done)|(simp[go_sem, *];done)|go_keep) (first|(go_at_call 147;refine (CC.out Y _ RY.out rfl eG.out _ rfl).mono ?_;rintro e Z ⟨az,cz,rfl,hlo,cq,z0,z4,z1,z3,z5⟩))
   all_goals
    go_wp2_with fail;go_ret;rw[HN.out];have zY:=bt.trans (cq.mono bt.size);exact⟨_,rfl,eB.still HR.out (zY.alloc zY.size _),a_.one { kind:=8,src:=own,dst:=m.src,ah:=m.ah,ak:=m.ak,log:=r.log } (.slice none 0 0) (.slice az r.log.length cz) (hnw _ _) zY.size (bd.nil _) (hlo.alloc _)⟩
  | true =>
   have ts:Hid (m.ah=r.ah+1):=ae (by simpa using heq)
   have HN:Hid (r.lp own m=({ r with lock:=m.ah },[{ kind:=8,src:=own,dst:=m.src,ah:=m.ah,ak:=m.ak,log:=r.log }])):=ae (by
    rw[HT.out,if_neg (show ¬ r.ah+1<m.ah by have:=CH.out;omega),if_pos ts.out])
   go_quiet (fail);have bt:=aV mR nq;have tA:=ae (HR.out.below bt);have Cl:Hid ((X2.drewN nq).heap[w.heap.size]?=some (.cells #[m.kind,m.src,m.dst,m.ah,m.ak,m.aO,m.pos,m.value,mm,ml] 134)):=yf;generalize X2.drewN nq=Y0 at *;clear c1 g3 heq;have g3:=aj Cl.out 3;have c2:=au tA.out.blk 2;have f2:Y0.frozen? (b,2)=false:=aW tA.out.blk 2;go_wp2_with fail;have RY:=ae (tA.out.set 2 (.int .i64 m.ah) { r with lock:=m.ah } vm (.slice al r.log.length cl) rfl tA.out.hm tA.out.hl)
   have MY:Moved w (Y0.setCell ⟨b,2,none⟩ (.int .i64 m.ah)) (lz b vm (.slice al r.log.length cl)):=((Moved.refl w _).below bt).setCell ⟨b,2,none⟩ (.inl rfl) _;have eG:Hid ((Y0.setCell ⟨b,2,none⟩ (.int .i64 m.ah)).heap[w.heap.size]?=some (.cells #[m.kind,m.src,m.dst,m.ah,m.ak,m.aO,m.pos,m.value,mm,ml] 134)):=ae ((cJ _ _ _ _ (by show w.heap.size≠b;omega)).trans Cl.out)
   generalize Y0.setCell ⟨b,2,none⟩ (.int .i64 m.ah)=Y at *;clear g3 c2 f2;have y0:=au RY.out.blk 0;have y4:=au RY.out.blk 4;have y1:=aj eG.out 1;have y3:=aj eG.out 3;have y5:=aj eG.out 4;go_region_held3 (fun w'=>w'.cell? (b,0)=some (.int .i64 own)/\w'.cell? (b,4)=some (.slice al r.log.length cl)/\w'.cell? (w.heap.size,1)=some (.int .i64 m.src)/\w'.cell? (w.heap.size,3)=some (.int .i64 m.ah)/\w'.cell? (w.heap.size,4)=some (.int .i64 m.ak)) (first|(simp[go_sem];done)|(simp[go_sem, *];done)|go_keep) (first|(go_at_call 147;refine (CC.out Y _ RY.out rfl eG.out _ rfl).mono ?_;rintro e Z ⟨az,cz,rfl,hlo,cq,z0,z4,z1,z3,z5⟩))
   all_goals
    go_wp2_with fail;go_ret;rw[HN.out];have hMs:=MY.size;have hbs:=cq.size;exact⟨_,rfl,eB.then MY (bO.refl _ _) (bO.refl _ _) (eB.still RY.out (cq.alloc cq.size _)),a_.one { kind:=8,src:=own,dst:=m.src,ah:=m.ah,ak:=m.ak,log:=r.log } (.slice none 0 0) (.slice az r.log.length cz) (hnw _ _) (by omega) (bd.nil _) (hlo.alloc _)⟩
theorem cG {size n:Nat}{e:TypeId}{xs:List Value}(ho:w.ownsRow base e size v n xs)(hv:∀ k,v.ownBlock=some k->w'.heap[k]?=w.heap[k]?):w'.ownsRow base e size v n xs:=by
 refine⟨ho.1, ?_⟩
 rcases ho.2 with h0|⟨g,cap,cur,rfl,hb,hg,rest⟩
 ·exact .inl h0
 ·exact .inr ⟨g,cap,cur,rfl,hb,(hv g rfl).trans hg,rest⟩
def sk (w:World)(F:Nat->Prop)(o:Option Value)(a:fK):Prop :=
 match o with
 | none=>a=fK.none
 | some v=>∃ vm vl,v=.agg #[.int .i64 a.promise,.int .i64 a.ak,vm,vl]/\bd w vm a.af/\bw w vl a.log/\(∀ k,vm.ownBlock=some k->F k)/\(∀ k,vl.ownBlock=some k->F k)
structure jK (w:World)(F:Nat->Prop)(b:Nat)(own:Int)(a:Acc)(vm:Value)(g:Nat)(l:List (Int × Value)):Prop where
 blk:w.heap[b]?=some (.cells #[.int .i64 own,a.ah,vm,.map (some g)] 157)
 hm:bd w vm a.af
 map:ng w g l
 aZ:∀ e,sk w F (kF l e) (a.aZ e)
 fb:F b
 fg:F g
 fm:∀ k,vm.ownBlock=some k->F k
 lt:∀ k,F k->k<w.heap.size
def kJ (w:World)(F:Nat->Prop)(b:Nat)(own:Int)(a:Acc):Prop:=∃ vm g l,jK w F b own a vm g l
structure th (a:Acc):Prop where
 m:a.af.length<=5
 v:∀ e,(a.aZ e).af.length<=5/\(a.aZ e).log.length<=24
theorem sk.keep {F':Nat->Prop}{o:Option Value}{a:fK}(h:sk w F o a)(hk:∀ k,F k->w'.heap[k]?=w.heap[k]?)(hF:∀ k,F k->F' k):sk w' F' o a:=by
 cases o with
 | none=>exact h
 | some v =>
  obtain⟨vm,vl,rfl,h1,h2,h3,h4⟩:=h;exact⟨vm,vl,rfl,cG h1 fun k e=>hk k (h3 k e),cG h2 fun k e=>hk k (h4 k e),fun k e=>hF k (h3 k e),fun k e=>hF k (h4 k e)⟩
theorem jK.keep (h:jK w F b own a vm g l)(hk:∀ k,F k->w'.heap[k]?=w.heap[k]?):jK w' F b own a vm g l where
 blk:=(hk b h.fb).trans h.blk
 hm:=cG h.hm fun k e=>hk k (h.fm k e)
 map:=h.map.keep (hk g h.fg)
 aZ:=fun e=>(h.aZ e).keep hk fun _ h=>h
 fb:=h.fb
 fg:=h.fg
 fm:=h.fm
 lt:=fun k hF=>by
  have h1:=h.lt k hF;have h2:=hk k hF;rw[Array.getElem?_eq_getElem h1] at h2
  exact (aQ h2)
theorem jK.below (h:jK w F b own a vm g l)(hb:ai w w'):jK w' F b own a vm g l :=
 h.keep fun k hF=>hb.block k (h.lt k hF)
theorem Kz (F:Nat->Prop)(b:Nat)(own:Int)(a:Acc)(vm:Value)(g:Nat)(l:List (Int × Value))(E:Int)(w:World)(h:jK w F b own a vm g l) :
  Calls prog 258 #[b,.int .i64 E] w fun e w'=>∃ bN bD,e=.returned (.agg #[.int .i64 (a.aZ E).promise,.int .i64 (a.aZ E).ak,bN,bD]) /\
   bd w bN (a.aZ E).af/\bw w bD (a.aZ E).log/\(∀ k,bN.ownBlock=some k->F k)/\(∀ k,bD.ownBlock=some k->F k)/\ai w w':=by
 have hbl:b<w.heap.size:=h.lt b h.fb;have hb0:=(ax w.heap.size w).alloc (aG _) (.cells #[(),(),true,true] 310);have c3:(w.alloc (.cells #[(),(),true,true] 310)).cell? (b,3)=some (.map (some g)):=aF hb0 (aj h.blk 3);have hL:=Tv (w.alloc (.cells #[(),(),true,true] 310)) g l E (h.map.keep (hb0.block g (h.lt g h.fg)));have hV:=h.aZ E;cases hl:kF l E with
 | none =>
  rw[hl] at hL hV;simp only [Option.getD_none,Option.isSome_none] at hL;have hV':Hid (a.aZ E=fK.none):=ae hV;clear h hV hl;go_enter func258,ntmps258;go_wp2_with fail;refine dB (v:=.agg #[.int .i64 (-1),.int .i64 (-1),true,true]) (by simp[results,results258,go_sem]) rfl ?_
  have e1:a.aZ E=fK.none:=hV'.out;refine⟨.slice none 0 0,.slice none 0 0,(by rw[e1];rfl),(by rw[e1];exact bE _ _ _ _),(by rw[e1];exact bE _ _ _ _),(fun _ h=>nomatch h),(fun _ h=>nomatch h),(ax w.heap.size w).alloc (aG _) _ |>.alloc (by simp) _⟩
 | some v =>
  rw[hl] at hL hV;simp only [Option.getD_some,Option.isSome_some] at hL;obtain⟨bN,bD,rfl,h1,h2,h3,h4⟩:=hV;have H:=ae (aP h1 (aP h2 (aP h3 h4)));obtain⟨a1,d1,rfl⟩:=aM h1;obtain⟨a2,d2,rfl⟩:=aM h2;clear h h1 h2 h3 h4 hl;go_enter func258,ntmps258;go_wp2_with fail;refine dB (v:=.agg #[.int .i64 (a.aZ E).promise,.int .i64 (a.aZ E).ak,.slice a1 (a.aZ E).af.length d1,.slice a2 (a.aZ E).log.length d2]) (by simp[results,results258,go_sem]) rfl ?_
  exact⟨_,_,rfl,H.out.1,H.out.2.1,H.out.2.2.1,H.out.2.2.2,(ax w.heap.size w).alloc (aG _) _ |>.alloc (by simp) _⟩
end Go.Proofs.YtgieeeeeiggoeaaGreat
