import Derived.Test.YtgieeeeeiggoeaaGreatC18
import Derived.Test.YtgieeeeeiggoeaaGreatC15
set_option maxRecDepth 100000
set_option maxHeartbeats 4000000
namespace Go.Proofs.YtgieeeeeiggoeaaGreat
open Go.RowKit Go.Shelf
theorem owns_set {w:World}{b j:Nat}{cs:Array Value}{T:TypeId}{base size n:Nat}{e:TypeId}{v:Value}{xs:List Value}(hb:w.heap[b]?=some (.cells cs T))(hv:w.ownsRow base e size v n xs)(he:e≠T)(u:Value):(w.setCell ⟨b,j,none⟩ u).ownsRow base e size v n xs :=
 ownsRow_setCell_other hv (bty hb hv he) u
theorem begin_any (b:Nat)(own:Int)(r:Rep)(vm vl:Value)(m:Msg)(mm ml:Value)(w:World)(h:RepAt w b own r vm vl)(h1:IntOwn w mm m.mems)(h2:LogOwn w ml m.log)(hm1:m.mems.length≤5)(hm2:m.log.length≤24) :
  Calls Tryz.prog 279 #[.pointer (some ⟨b,0,none⟩),mval m mm ml] w fun e w'=>(∃ v,e=.returned v)∧RepTo w w' b own vm vl { r with epoch:=m.epoch,mems:=m.mems,log:=m.log,base:=m.log.length,commit:=m.log.length }:=by
 have hbl:b<w.heap.size:=(Array.getElem?_eq_some_iff.1 h.blk).1
 obtain⟨am,cm,rfl⟩:=osh h1
 obtain⟨al,cl,rfl⟩:=osh h2
 have HR:=hideA h;have H1:=hideA h1;have H2:=hideA h2;clear h h1 h2;unfold mval
 go_enter Tryz.func279,Tryz.ntmps279
 go_upto_region 1 with fail
 obtain⟨X,hX,hbX,hBX⟩:=msg_box w m (.slice am m.mems.length cm) (.slice al m.log.length cl)
 rw[hX];clear hX;have RX:=hideA (HR.out.below hbX)
 have g3:=coh hBX 3
 have g8:=coh hBX 8
 have c1:X.cell? ⟨b,1,none⟩=some (.int .i64 r.epoch):=coh RX.out.blk 1
 have f1:X.frozen? ⟨b,1,none⟩=false:=foh RX.out.blk 1
 have hXl:w.heap.size<X.heap.size:=(Array.getElem?_eq_some_iff.1 hBX).1
 have HB1:Hid ((X.setCell ⟨b,1,none⟩ (.int .i64 m.epoch)).heap[w.heap.size]?=some (.cells #[.int .i64 m.kind,.int .i64 m.src,.int .i64 m.dst,.int .i64 m.epoch,.int .i64 m.ballot,.int .i64 m.vote,.int .i64 m.pos,.int .i64 m.value,.slice am m.mems.length cm,.slice al m.log.length cl] 134)):=hideA ((Below.heap_setCell _ _ _ _ (by show w.heap.size≠b;omega)).trans hBX)
 have g8':=coh HB1.out 8
 have R1:=hideA (RX.out.set 1 (.int .i64 m.epoch) { r with epoch:=m.epoch } vm vl rfl RX.out.hm RX.out.hl)
 have M1:=hideA (((Moved.refl w (RepS b vm vl)).below hbX).setCell ⟨b,1,none⟩ (.inl rfl) (.int .i64 m.epoch))
 have I1:Hid (IntOwn (X.setCell ⟨b,1,none⟩ (.int .i64 m.epoch)) (.slice am m.mems.length cm) m.mems):=hideA (owns_set RX.out.blk (okp H1.out fun k _ hk=>hbX.block k hk) (by decide) _)
 have L1:Hid (LogOwn (X.setCell ⟨b,1,none⟩ (.int .i64 m.epoch)) (.slice al m.log.length cl) m.log):=hideA (owns_set RX.out.blk (okp H2.out fun k _ hk=>hbX.block k hk) (by decide) _)
 go_wp2_with fail;refine (cloneMems_any _ m.mems _ I1.out (by omega)).mono ?_
 rintro e W2 ⟨a2,c2,rfl,ho2,hb2⟩;have R2:=hideA (R1.out.below hb2)
 have M2:=hideA (M1.out.below hb2)
 have HB2:=hideA ((hb2.block _ (Array.getElem?_eq_some_iff.1 HB1.out).1).trans HB1.out)
 have L2:=hideA (okp L1.out fun k _ hk=>hb2.block k hk)
 have O2:=hideA ho2;clear g3 g8 c1 f1 g8' hBX ho2 hXl;have c3:W2.cell? ⟨b,3,none⟩=some vm:=coh R2.out.blk 3
 have f3:W2.frozen? ⟨b,3,none⟩=false:=foh R2.out.blk 3
 have g9:=coh HB2.out 9
 have HB3:Hid ((W2.setCell ⟨b,3,none⟩ (.slice a2 m.mems.length c2)).heap[w.heap.size]?=_):=hideA ((Below.heap_setCell _ _ _ _ (by show w.heap.size≠b;omega)).trans HB2.out)
 have g9':=coh HB3.out 9
 have R3:=hideA (R2.out.set 3 (.slice a2 m.mems.length c2) { r with epoch:=m.epoch,mems:=m.mems } (.slice a2 m.mems.length c2) vl rfl (obs O2.out (Nat.zero_le _)) R2.out.hl)
 have M3:=hideA (M2.out.setCell ⟨b,3,none⟩ (.inl rfl) (.slice a2 m.mems.length c2))
 have L3:=hideA (owns_set (j:=3) R2.out.blk L2.out (by decide) (.slice a2 m.mems.length c2))
 have G3:Hid (Grows w vm (.slice a2 m.mems.length c2)):=hideA (fun k hk=>by
  obtain⟨_,_,h'⟩:=obc O2.out hk
  have hx:=M1.out.size
  exact .inr (by omega))
 go_wp2_with fail;refine (cloneLog_any _ m.log _ L3.out (by omega)).mono ?_
 rintro e W4 ⟨a4,c4,rfl,ho4,hb4⟩;have R4:=hideA (R3.out.below hb4)
 have M4:=hideA (M3.out.below hb4)
 have O4:=hideA ho4;clear c3 f3 g9 g9' ho4;have c4':W4.cell? ⟨b,4,none⟩=some vl:=coh R4.out.blk 4
 have f4:W4.frozen? ⟨b,4,none⟩=false:=foh R4.out.blk 4
 have G4:Hid (Grows w vl (.slice a4 m.log.length c4)):=hideA (fun k hk=>by
  obtain⟨_,_,h'⟩:=obc O4.out hk
  have hx:=M3.out.size
  exact .inr (by omega))
 have R5:=hideA (R4.out.set 4 (.slice a4 m.log.length c4) { r with epoch:=m.epoch,mems:=m.mems,log:=m.log } (.slice a2 m.mems.length c2) (.slice a4 m.log.length c4) rfl R4.out.hm (obs O4.out (Nat.zero_le _)))
 have M5:=hideA (M4.out.setCell ⟨b,4,none⟩ (.inl rfl) (.slice a4 m.log.length c4))
 have R6:=hideA (R5.out.set 5 (.int .i64 (m.log.length:Int)) { r with epoch:=m.epoch,mems:=m.mems,log:=m.log,base:=m.log.length } (.slice a2 m.mems.length c2) (.slice a4 m.log.length c4) rfl R5.out.hm R5.out.hl)
 have M6:=hideA (M5.out.setCell ⟨b,5,none⟩ (.inl rfl) (.int .i64 (m.log.length:Int)))
 have R7:=hideA (R6.out.set 6 (.int .i64 (m.log.length:Int)) { r with epoch:=m.epoch,mems:=m.mems,log:=m.log,base:=m.log.length,commit:=m.log.length } (.slice a2 m.mems.length c2) (.slice a4 m.log.length c4) rfl R6.out.hm R6.out.hl)
 have M7:=hideA (M6.out.setCell ⟨b,6,none⟩ (.inl rfl) (.int .i64 (m.log.length:Int)))
 have d4:(W4.setCell ⟨b,4,none⟩ (.slice a4 m.log.length c4)).cell? ⟨b,4,none⟩=some (.slice a4 m.log.length c4):=coh R5.out.blk 4
 have d5:(W4.setCell ⟨b,4,none⟩ (.slice a4 m.log.length c4)).cell? ⟨b,5,none⟩=some (.int .i64 (r.base:Int)):=coh R5.out.blk 5
 have d5f:(W4.setCell ⟨b,4,none⟩ (.slice a4 m.log.length c4)).frozen? ⟨b,5,none⟩=false:=foh R5.out.blk 5
 have e4:((W4.setCell ⟨b,4,none⟩ (.slice a4 m.log.length c4)).setCell ⟨b,5,none⟩ (.int .i64 (m.log.length:Int))).cell? ⟨b,4,none⟩=some (.slice a4 m.log.length c4):=coh R6.out.blk 4
 have e6:((W4.setCell ⟨b,4,none⟩ (.slice a4 m.log.length c4)).setCell ⟨b,5,none⟩ (.int .i64 (m.log.length:Int))).cell? ⟨b,6,none⟩=some (.int .i64 (r.commit:Int)):=coh R6.out.blk 6
 have e6f:((W4.setCell ⟨b,4,none⟩ (.slice a4 m.log.length c4)).setCell ⟨b,5,none⟩ (.int .i64 (m.log.length:Int))).frozen? ⟨b,6,none⟩=false:=foh R6.out.blk 6
 have q5:W4.cell? ⟨b,5,none⟩=some (.int .i64 (r.base:Int)):=coh R4.out.blk 5
 have q6:W4.cell? ⟨b,6,none⟩=some (.int .i64 (r.commit:Int)):=coh R4.out.blk 6
 have q5f:W4.frozen? ⟨b,5,none⟩=false:=foh R4.out.blk 5
 have q6f:W4.frozen? ⟨b,6,none⟩=false:=foh R4.out.blk 6
 go_wp2_with fail;go_end0
 exact⟨⟨_,rfl⟩,_,_,R7.out,M7.out,G3.out,G4.out⟩
theorem takeInstall_any (b:Nat)(own:Int)(r:Rep)(vm vl:Value)(m:Msg)(mm ml:Value)(w:World)(h:RepAt w b own r vm vl)(h1:IntOwn w mm m.mems)(h2:LogOwn w ml m.log)(hm1:m.mems.length≤5)(hm2:m.log.length≤24) :
  Calls Tryz.prog 269 #[.pointer (some ⟨b,0,none⟩),mval m mm ml] w fun e w'=>RepOut w w' b own vm vl e (r.takeInstall own m):=by
 have HT:Hid (r.takeInstall own m=(if r.epoch<m.epoch then { r with epoch:=m.epoch,mems:=m.mems,log:=m.log,base:=m.log.length,commit:=m.log.length } else r,[{ kind:=14,src:=own,dst:=m.src,epoch:=m.epoch }])):=hideA rfl
 have hbl:b<w.heap.size:=(Array.getElem?_eq_some_iff.1 h.blk).1
 have HG:Hid (∀ W,Below w.heap.size w W→Calls Tryz.prog 279 #[.pointer (some ⟨b,0,none⟩),.agg #[.int .i64 m.kind,.int .i64 m.src,.int .i64 m.dst,.int .i64 m.epoch,.int .i64 m.ballot,.int .i64 m.vote,.int .i64 m.pos,.int .i64 m.value,mm,ml]] W fun e w'=>(∃ v,e=.returned v)∧RepTo W w' b own vm vl { r with epoch:=m.epoch,mems:=m.mems,log:=m.log,base:=m.log.length,commit:=m.log.length }):=hideA fun W hb=>begin_any b own r vm vl m mm ml W (h.below hb) (okp h1 fun k _ hk=>hb.block k hk) (okp h2 fun k _ hk=>hb.block k hk) hm1 hm2
 have HR:=hideA h;clear h h1 h2;unfold mval
 go_enter Tryz.func269,Tryz.ntmps269
 go_wp2_with fail;obtain⟨X,hX,hbX,hBX⟩:=msg_box w m mm ml
 rw[hX];clear hX;have RX:=hideA (HR.out.below hbX)
 have c1:X.cell? ⟨b,1,none⟩=some (.int .i64 r.epoch):=coh RX.out.blk 1
 have g3:=coh hBX 3
 have HBX:=hideA hBX;clear hBX;by_cases he:r.epoch<m.epoch
 ·have HN:Hid (r.takeInstall own m=({ r with epoch:=m.epoch,mems:=m.mems,log:=m.log,base:=m.log.length,commit:=m.log.length },[{ kind:=14,src:=own,dst:=m.src,epoch:=m.epoch }])):=hideA (by rw[HT.out,if_pos he])
  go_quiet (fail)
  have hbY:=below_drewN hbX nq
  have RY:=hideA (HR.out.below hbY)
  have HBY:Hid ((X.drewN nq).heap[w.heap.size]?=some (.cells #[.int .i64 m.kind,.int .i64 m.src,.int .i64 m.dst,.int .i64 m.epoch,.int .i64 m.ballot,.int .i64 m.vote,.int .i64 m.pos,.int .i64 m.value,mm,ml] 134)):=HBX
  generalize X.drewN nq=Y at *
  clear c1 g3 RX HBX;have y0:=coh HBY.out 0
  have y1:=coh HBY.out 1
  have y2:=coh HBY.out 2
  have y3:=coh HBY.out 3
  have y4:=coh HBY.out 4
  have y5:=coh HBY.out 5
  have y6:=coh HBY.out 6
  have y7:=coh HBY.out 7
  have y8:=coh HBY.out 8
  have y9:=coh HBY.out 9
  go_wp2_with fail;refine (HG.out _ hbY).mono ?_
  rintro e Z ⟨⟨v0,rfl⟩,hto⟩;obtain⟨vm',vl',RZ,MZ,G1,G2⟩:=hto;clear y0 y1 y2 y3 y4 y5 y6 y7 y8 y9;have hBZ:Z.heap[w.heap.size]?=some (.cells #[.int .i64 m.kind,.int .i64 m.src,.int .i64 m.dst,.int .i64 m.epoch,.int .i64 m.ballot,.int .i64 m.vote,.int .i64 m.pos,.int .i64 m.value,mm,ml] 134):=by
   rw[MZ.block _ (Array.getElem?_eq_some_iff.1 HBY.out).1]
   ·exact HBY.out
   ·rintro (e1|e1|e1)
    ·omega
    ·exact bty HBY.out RY.out.hm (by decide) e1
    ·exact bty HBY.out RY.out.hl (by decide) e1
  have MW:Moved w Z (RepS b vm vl):=((Moved.refl w _).below hbY).trans MZ (fun _ _ h=>h)
  have GA:=hideA (show Grows w vm vm' from (Grows.refl w vm).trans G1 hbY.size)
  have GB:=hideA (show Grows w vl vl' from (Grows.refl w vl).trans G2 hbY.size)
  have z0:Z.cell? ⟨b,0,none⟩=some (.int .i64 own):=coh RZ.blk 0
  have z1:=coh hBZ 1
  have z3:=coh hBZ 3
  have HRZ:=hideA RZ;clear RZ hBZ G1 G2;go_wp2_with fail;go_region_held3 (fun w'=>w'.cell? ⟨b,0,none⟩=some (.int .i64 own)∧w'.cell? ⟨w.heap.size,1,none⟩=some (.int .i64 m.src)∧w'.cell? ⟨w.heap.size,3,none⟩=some (.int .i64 m.epoch)) (first|(simp[go_sem];done)|(simp[go_sem, *];done)|go_keep) (fail)
  all_goals
   go_wp2_with fail;go_ret;rw[HN.out];have hMs:=MW.size
   exact⟨_,rfl,RepTo.then MW GA.out GB.out (RepTo.still HRZ.out (((Below.refl _ Z).alloc (Nat.le_refl _) _).drew)),MsgsOwn.one { kind:=14,src:=own,dst:=m.src,epoch:=m.epoch } (.slice none 0 0) (.slice none 0 0) (hnw _ _) hMs (IntOwn.nil _) (LogOwn.nil _)⟩
 ·have hed:decide (r.epoch<m.epoch)=false:=decide_eq_false he
  have HN:Hid (r.takeInstall own m=(r,[{ kind:=14,src:=own,dst:=m.src,epoch:=m.epoch }])):=hideA (by rw[HT.out,if_neg he])
  go_quiet (fail)
  have hbY:=below_drewN hbX nq
  have RY:=hideA (HR.out.below hbY)
  have HBY:Hid ((X.drewN nq).heap[w.heap.size]?=some (.cells #[.int .i64 m.kind,.int .i64 m.src,.int .i64 m.dst,.int .i64 m.epoch,.int .i64 m.ballot,.int .i64 m.vote,.int .i64 m.pos,.int .i64 m.value,mm,ml] 134)):=HBX
  generalize X.drewN nq=Z at *
  clear c1 g3 RX HBX;have z0:Z.cell? ⟨b,0,none⟩=some (.int .i64 own):=coh RY.out.blk 0
  have z1:=coh HBY.out 1
  have z3:=coh HBY.out 3
  go_wp2_with fail;go_region_held3 (fun w'=>w'.cell? ⟨b,0,none⟩=some (.int .i64 own)∧w'.cell? ⟨w.heap.size,1,none⟩=some (.int .i64 m.src)∧w'.cell? ⟨w.heap.size,3,none⟩=some (.int .i64 m.epoch)) (first|(simp[go_sem];done)|(simp[go_sem, *];done)|go_keep) (fail)
  all_goals
   go_wp2_with fail;go_ret;rw[HN.out];exact⟨_,rfl,RepTo.still HR.out ((hbY.alloc hbY.size _).drew),MsgsOwn.one { kind:=14,src:=own,dst:=m.src,epoch:=m.epoch } (.slice none 0 0) (.slice none 0 0) (hnw _ _) hbY.size (IntOwn.nil _) (LogOwn.nil _)⟩
attribute [local go_sem] Oper.semAt_some
theorem hasLater_in (n:Nat)(hn:Hid (6≤n))(v:Value)(es:List Ent)(c s:Int)(w:World)(hl:es.length≤1000)(hv:LogB w v es) :
  CallsIn Fence.wide n Tryz.prog 284 #[v,.int .i64 c,.int .i64 s] w fun e w'=>e=.returned (.bool (es.any (isLat c s)))∧Below w.heap.size w w':=by
 have hv1:=hv
 obtain⟨a,cc,rfl⟩:=hv1.shape;have Hh:=hideA (fit_head (isLat c s) es)
 obtain⟨N,hN⟩:∃ N,N=w.heap.size:=⟨_,rfl⟩
 refine callsIn_of_wp_marks Tryz.func284 rfl trivial ?_ rfl
 simp only [Tryz.ntmps284,List.size_toArray,List.length_cons,List.length_nil,Nat.reduceAdd,Nat.reduceSub,Array.replicate_succ,Array.replicate_zero,List.push_toArray,List.append_toArray,List.nil_append,List.cons_append]
 gi_wp2_with fail;refine⟨trivial,by simp[Fence.wide],(fitting_any _ _ _ _ a es.length cc rfl _).mono ?_⟩
 rintro e W ⟨rfl,rfl⟩;obtain⟨X1,hX1,hb1,hs1,c1,f1, -, -, -⟩:=box_more (Below.refl _ w) (.int .i64 c) 3
 rw[hX1];obtain⟨X2,hX2,hb2,hs2,c2,f2,k2,fr2, -⟩:=box_more hb1 (.int .i64 s) 3
 rw[hX2];obtain⟨X4,hX4,hb4,hs4,c4,f4,k4,fr4, -⟩:=box_more hb2 (.bool false) 4
 rw[hX4];obtain⟨X5,hX5,hb5,hs5,c5,f5,k5,fr5, -⟩:=box_more hb4 (.slice a es.length cc) 44
 rw[hX5];obtain⟨X,hX,hb,hs6,c6,f6,k6,fr6, -⟩:=box_more hb5 (.func (.func 292) #[] #[.pointer (some ⟨w.heap.size,0,none⟩),.pointer (some ⟨w.heap.size+1,0,none⟩)]) 132
 rw[hX];clear hX hX1 hX2 hX4 hX5;rw[hs5,hs4,hs2,hs1] at c6 f6
 rw[hs4,hs2,hs1] at c5
 rw[hs2,hs1] at c4 f4
 rw[hs1] at c2
 have e1:=k6 _ _ (k5 _ _ (k4 _ _ (k2 _ _ c1)))
 have e2:=k6 _ _ (k5 _ _ (k4 _ _ c2))
 have e4:=k6 _ _ (k5 _ _ c4)
 have g4:=(fr6 _ _ (k5 _ _ c4)).trans ((fr5 _ _ c4).trans f4)
 have e5:=k6 _ _ c5
 have hsz:X.heap.size=w.heap.size+5:=by omega
 have hX4s:X4.heap.size=w.heap.size+1+1+1:=by omega
 rw[hX4s];have hvX:=hideA (hv.below hb)
 clear k2 k4 k5 k6 fr2 fr4 fr5 fr6 c1 c2 c4 c5 f1 f2 f4 f5 f6 hb1 hb2 hb4 hb5 hs1 hs2 hs4 hs5 hs6 hX4s hv hv1;have hps:Hid (CellsOK ((⟨w.heap.size+1+1+1+1,0,none⟩,.func (.func 292) #[] #[.pointer (some ⟨w.heap.size,0,none⟩),.pointer (some ⟨w.heap.size+1,0,none⟩)]) :: [(⟨w.heap.size,0,none⟩,.int .i64 c),(⟨w.heap.size+1,0,none⟩,.int .i64 s)]) X):=hideA (by
  intro q hq;simp only [List.mem_cons,List.not_mem_nil,or_false] at hq
  rcases hq with rfl|rfl|rfl
  ·exact c6
  ·exact e1
  ·exact e2)
 gi_wp2_with fail;refine wpIn_rangeFunc_ownF rfl (by have:=hn.out;omega) (gf:=295) (lb:=#[.pointer (some ⟨w.heap.size+1+1+1,0,none⟩),.pointer (some ⟨w.heap.size+1+1+1+1,0,none⟩)]) rfl trivial (enters_of Tryz.func295 (by kernel_rfl) rfl)
  (fitting_stops (n-1) (w.heap.size+1+1+1) (w.heap.size+1+1+1+1) (.slice a es.length cc) es 292 #[.pointer (some ⟨w.heap.size,0,none⟩),.pointer (some ⟨w.heap.size+1,0,none⟩)] (isLat c s) [(⟨w.heap.size,0,none⟩,.int .i64 c),(⟨w.heap.size+1,0,none⟩,.int .i64 s)] X hl (enters_of Tryz.func292 (by kernel_rfl) rfl)
   (fun W1 e h=>callsIn_wide.2 (later1_any c s w.heap.size (w.heap.size+1) e W1 (h _ List.mem_cons_self) (h _ (List.mem_cons_of_mem _ List.mem_cons_self)))) e5 hps.out hvX.out)
  KeepF.trans (fun W l o o' _ hl hc _=>keepF_put _ W l o o' hl hc) (Below.refl _ _) (fun _=>rfl)
  (fun pre W=>(pre=[]∧W.cell? ⟨w.heap.size+1+1,0,none⟩=some (.bool false)∧W.frozen? ⟨w.heap.size+1+1,0,none⟩=false)∧Below w.heap.size w W)
  (fun c pre W=>(c=.ret∧∃ y:Nat × Ent,pre=[y]∧W.cell? ⟨w.heap.size+1+1,0,none⟩=some (.bool true))∧Below w.heap.size w W)
  (OwnFrom.and (Own.from (fun s A B row hs hg hr=>⟨hs.1,cell_kept hs.2.1 hg hr,(frozen_kept hs.2.1 hg hr).trans hs.2.2⟩) _) (ownFrom_below (Nat.le_refl _) (by omega)))
  (fun c=>OwnFrom.and (Own.from (fun s A B row hs hg hr=>by obtain⟨h1,y,h2,h3⟩:=hs;exact⟨h1,y,h2,cell_kept h3 hg hr⟩) _) (ownFrom_below (Nat.le_refl _) (by omega)))
  ⟨⟨rfl,e4,g4⟩,hb⟩
  (fun x=>{ tmps:=#[.slice a es.length cc,.int .i64 c,.int .i64 s,undef,.pointer (some ⟨w.heap.size,0,none⟩),.pointer (some ⟨w.heap.size+1,0,none⟩),.pointer (some ⟨w.heap.size+1+1,0,none⟩),
   .func (.func 292) #[] #[.pointer (some ⟨w.heap.size,0,none⟩),.pointer (some ⟨w.heap.size+1,0,none⟩)],.func (.func 292) #[] #[.pointer (some ⟨w.heap.size,0,none⟩),.pointer (some ⟨w.heap.size+1,0,none⟩)],.slice a es.length cc,.func (.func 292) #[] #[.pointer (some ⟨w.heap.size,0,none⟩),.pointer (some ⟨w.heap.size+1,0,none⟩)],
   .func (.func 295) #[] #[.pointer (some ⟨w.heap.size+1+1+1,0,none⟩),.pointer (some ⟨w.heap.size+1+1+1+1,0,none⟩)],.int .i64 (x.1:Int),entV x.2],defers:=[] }) ?assign ?body ?done ?stop
 case assign =>
  intro l x W K hK;gi_wp2
  simpa using hK
 case body =>
  rintro l pre x W ⟨⟨rfl,hcb,hfb⟩,hB⟩ _;gi_wp2_with fail;exact⟨KeepsOthers.setCell _ _ _,⟨rfl,x,rfl,World.cell?_setCell_same' _ _ _ (by rw[hcb];rfl)⟩,hB.setCell (p:=⟨w.heap.size+1+1,0,none⟩) (by simp;omega) _⟩
 case done =>
  rintro D ys W hD hys ⟨⟨rfl,hcb,hfb⟩,hB⟩ hK;have hany:Hid (es.any (isLat c s)=false):=hideA (by
   have h:=Hh.out
   rw[← hys] at h
   by_cases h2:es.any (isLat c s)=true
   ·rw[if_pos h2] at h;cases h
   ·simpa using h2)
  gi_wp2
  have hK':=(KeepsOthers.setCell W ⟨w.heap.size+1+1,0,none⟩ (.bool false)).same D _ hK rfl
  refine⟨by simp,.inl ⟨_,_,rfl,run_takeDeferred hK', ?_⟩⟩
  have hc5:=cell_kept (World.cell?_setCell_same' W ⟨w.heap.size+1+1,0,none⟩ (.bool false) (by rw[hcb];rfl)) (grownBy_putObj' _ D (.deferred none)) (fun r e=>by cases e;exact⟨_,hK',rfl⟩)
  refine⟨.bool false, ?_,by rw[hany.out],(hB.setCell (p:=⟨w.heap.size+1+1,0,none⟩) (by simp;omega) _).trans (belowK_b (w:=w) (Nat.le_refl _) _ D _ _ (by omega) hK' rfl rfl)⟩
  simp[results,Tryz.f284,go_sem,hc5]
 case stop =>
  rintro D c' pre W hD hpre ⟨⟨rfl,y,rfl,hcb⟩,hB⟩ hK;have HL:Hid (es.any (isLat c s)=true):=hideA (by
   have h:=Hh.out
   obtain⟨t,ht⟩:=hpre;rw[← ht] at h
   by_cases h2:es.any (isLat c s)=true
   ·exact h2
   ·rw[if_neg h2] at h;cases h)
  gi_wp2
  refine⟨by simp,.inl ⟨_,_,rfl,run_takeDeferred hK, ?_⟩⟩
  have hc5:=cell_kept hcb (grownBy_putObj' _ D (.deferred none)) (fun r e=>by cases e;exact⟨_,hK,rfl⟩)
  refine⟨.bool true, ?_,by rw[HL.out],hB.trans (belowK_b (w:=w) (Nat.le_refl _) W D _ _ (by omega) hK rfl rfl)⟩
  simp[results,Tryz.f284,go_sem,hc5]
end Go.Proofs.YtgieeeeeiggoeaaGreat
namespace Go.Proofs.YtgieeeeeiggoeaaGreat
open Go.RowKit Go.Shelf
def Rep.headed (r:Rep)(own:Int)(e:Ent):Rep × List Msg :=
 if r.log.any (isReq e) then
  if r.log.findIdx (isReq e)<r.commit then (r,[r.reply own (r.log.findIdx (isReq e))]) else (r,[])
 else if 24≤r.log.length∨r.log.any (isLater e) then (r,[])
 else r.put own e
theorem RepOut.if_msgs {w w':World}{b:Nat}{own:Int}{vm vl:Value}{e:Ending}{r:Rep}{c:Prop}[Decidable c]{l:List Msg}(h:RepOut w w' b own vm vl e (r,if c then l else [])):RepOut w w' b own vm vl e (if c then (r,l) else (r,[])):=by
 by_cases hc:c
 ·rw[if_pos hc] at h ⊢;exact h
 ·rw[if_neg hc] at h ⊢;exact h
theorem RepOut.before {w w1 w2:World}{b:Nat}{own:Int}{vm vl:Value}{e:Ending}{p:Rep × List Msg}(hb:Below w.heap.size w w1)(h:RepOut w1 w2 b own vm vl e p):RepOut w w2 b own vm vl e p:=by
 obtain⟨v,h1,h2,h3⟩:=h;exact⟨v,h1,RepTo.then ((Moved.refl w _).below hb) (Grows.refl _ _) (Grows.refl _ _) h2,h3.base hb.size⟩
theorem takeAsHead_any (b:Nat)(own:Int)(r:Rep)(vm vl:Value)(x:Ent)(w:World)(h:RepAt w b own r vm vl)(ok:RepOK r)(hcli:∀ y∈r.log++[x],0≤y.client∧y.client≤3) :
  Calls Tryz.prog 274 #[.pointer (some ⟨b,0,none⟩),entV x] w fun e w'=>RepOut w w' b own vm vl e (r.headed own x):=by
 have HT:Hid (r.headed own x=if r.log.any (isIt x.client x.seq) then (if r.log.findIdx (isIt x.client x.seq)<r.commit then (r,[r.reply own (r.log.findIdx (isIt x.client x.seq))]) else (r,[])) else if 24≤r.log.length∨r.log.any (isLat x.client x.seq) then (r,[]) else r.put own x):=hideA rfl
 have hbl:b<w.heap.size:=(Array.getElem?_eq_some_iff.1 h.blk).1
 have hl24:=ok.l
 obtain⟨al,cl,rfl⟩:=osh h.hl
 have HR:=hideA h;have HO:=hideA ok;have HC:=hideA hcli;clear h ok hcli;have HF:Hid (∀ Y,Below w.heap.size w Y→Y.heap[w.heap.size]?=some (.cells #[.int .i64 x.client,.int .i64 x.seq,.int .i64 x.kind,.int .i64 x.key,.int .i64 x.value] 42)→∀ W,W=Y.drew→Calls Tryz.prog 282 #[.slice al r.log.length cl,.int .i64 x.client,.int .i64 x.seq] W fun e w'=>e=.returned (.tuple #[.int .i64 (findAt r.log x.client x.seq),.bool (r.log.any (isIt x.client x.seq))])∧Below w.heap.size w w'∧w'.heap[w.heap.size]?=some (.cells #[.int .i64 x.client,.int .i64 x.seq,.int .i64 x.kind,.int .i64 x.key,.int .i64 x.value] 42) ∧
   w'.cell? ⟨b,4,none⟩=some (.slice al r.log.length cl)∧w'.cell? ⟨w.heap.size,0,none⟩=some (.int .i64 x.client)∧w'.cell? ⟨w.heap.size,1,none⟩=some (.int .i64 x.seq)):=hideA (by
  rintro Y hbY hBY W rfl;have hbYd:Below w.heap.size w Y.drew:=hbY.drew
  refine (callsIn_wide.1 (find_in 6 (hideA (by omega)) _ r.log x.client x.seq Y.drew (by omega) ((LogB.of_owns HR.out.hl).below hbYd))).mono ?_
  rintro e w' ⟨rfl,hb'⟩;have hb:Below w.heap.size w w':=hbYd.trans (hb'.mono hbYd.size)
  have hB':w'.heap[w.heap.size]?=some (.cells #[.int .i64 x.client,.int .i64 x.seq,.int .i64 x.kind,.int .i64 x.key,.int .i64 x.value] 42):=(hb'.block _ (Array.getElem?_eq_some_iff.1 hBY).1).trans hBY
  exact⟨rfl,hb,hB',coh (HR.out.below hb).blk 4,coh hB' 0,coh hB' 1⟩)
 have HL:Hid (∀ Y,Below w.heap.size w Y→Y.heap[w.heap.size]?=some (.cells #[.int .i64 x.client,.int .i64 x.seq,.int .i64 x.kind,.int .i64 x.key,.int .i64 x.value] 42)→∀ W,W=Y.drew→Calls Tryz.prog 284 #[.slice al r.log.length cl,.int .i64 x.client,.int .i64 x.seq] W fun e w'=>e=.returned (.bool (r.log.any (isLat x.client x.seq)))∧Below w.heap.size w w'∧w'.heap[w.heap.size]?=some (.cells #[.int .i64 x.client,.int .i64 x.seq,.int .i64 x.kind,.int .i64 x.key,.int .i64 x.value] 42) ∧
   w'.cell? ⟨b,4,none⟩=some (.slice al r.log.length cl)∧w'.cell? ⟨w.heap.size,0,none⟩=some (.int .i64 x.client)∧w'.cell? ⟨w.heap.size,1,none⟩=some (.int .i64 x.seq)):=hideA (by
  rintro Y hbY hBY W rfl;have hbYd:Below w.heap.size w Y.drew:=hbY.drew
  refine (callsIn_wide.1 (hasLater_in 6 (hideA (by omega)) _ r.log x.client x.seq Y.drew (by omega) ((LogB.of_owns HR.out.hl).below hbYd))).mono ?_
  rintro e w' ⟨rfl,hb'⟩;have hb:Below w.heap.size w w':=hbYd.trans (hb'.mono hbYd.size)
  have hB':w'.heap[w.heap.size]?=some (.cells #[.int .i64 x.client,.int .i64 x.seq,.int .i64 x.kind,.int .i64 x.key,.int .i64 x.value] 42):=(hb'.block _ (Array.getElem?_eq_some_iff.1 hBY).1).trans hBY
  exact⟨rfl,hb,hB',coh (HR.out.below hb).blk 4,coh hB' 0,coh hB' 1⟩)
 have HFu:Hid (∀ W,Below w.heap.size w W→Calls Tryz.prog 277 #[.pointer (some ⟨b,0,none⟩)] W fun e w'=>e=.returned (.bool (decide ((24:Int)≤(r.log.length:Int))))∧w'=W):=hideA fun W hb=>isFull_any b own r vm _ W (HR.out.below hb)
 unfold entV
 go_enter Tryz.func274,Tryz.ntmps274
 go_wp2_with fail;obtain⟨X,hX,hbX,hBX⟩:∃ X,w.alloc (.cells #[.int .i64 x.client,.int .i64 x.seq,.int .i64 x.kind,.int .i64 x.key,.int .i64 x.value] 42)=X∧Below w.heap.size w X∧X.heap[w.heap.size]?=some (.cells #[.int .i64 x.client,.int .i64 x.seq,.int .i64 x.kind,.int .i64 x.key,.int .i64 x.value] 42):=⟨_,rfl,(Below.refl _ w).alloc (Nat.le_refl _) _,hnw _ _⟩
 rw[hX];clear hX;have c4:X.cell? ⟨b,4,none⟩=some (.slice al r.log.length cl):=coh (HR.out.below hbX).blk 4
 have g0:=coh hBX 0
 have g1:=coh hBX 1
 have HBX:=hideA hBX;clear hBX;go_region_held3 (fun w'=>w'.cell? ⟨b,4,none⟩=some (.slice al r.log.length cl)∧w'.cell? ⟨w.heap.size,0,none⟩=some (.int .i64 x.client)∧w'.cell? ⟨w.heap.size,1,none⟩=some (.int .i64 x.seq)) (first|(simp[go_sem];done)|(simp[go_sem, *];done)|go_keep) (first|(go_at_call 282;refine (HF.out X hbX HBX.out _ rfl).mono ?_;rintro e Y ⟨rfl,hbY,hBY,y4,y0,y1⟩))
 have HBY:=hideA hBY;clear hBY c4 g0 g1 HBX hbX;cases hany:r.log.any (isIt x.client x.seq) with
 | true =>
  have hfl:r.log.findIdx (isIt x.client x.seq)<r.log.length:=List.findIdx_lt_length_of_exists (by simpa using hany)
  have Hfa:Hid (findAt r.log x.client x.seq=(r.log.findIdx (isIt x.client x.seq):Int)):=hideA (by unfold findAt;rw[if_pos hany])
  have HN:Hid (r.headed own x=if r.log.findIdx (isIt x.client x.seq)<r.commit then (r,[r.reply own (r.log.findIdx (isIt x.client x.seq))]) else (r,[])):=hideA (by rw[HT.out,if_pos hany])
  rw[Hfa.out];clear hany;go_wp2_with fail;refine (replyAgain_any b own r vm _ (r.log.findIdx (isIt x.client x.seq)) Y (HR.out.below hbY) HO.out hfl (fun y hy=>HC.out y (List.mem_append_left _ hy))).mono ?_
  rintro e Z ⟨v,rfl,hmo,hbZ⟩;obtain⟨L,hL⟩:∃ L,L=(if r.log.findIdx (isIt x.client x.seq)<r.commit then [r.reply own (r.log.findIdx (isIt x.client x.seq))] else []):=⟨_,rfl⟩
  rw[← hL] at hmo
  have HLL:=hideA hL;clear hL;obtain⟨av,cv,hsh⟩:=hmo.shape;subst hsh;go_wp2_with fail;go_ret;rw[HN.out];refine RepOut.before hbY (RepOut.if_msgs ?_)
  rw[← HLL.out];exact⟨_,rfl,RepTo.still (HR.out.below hbY) hbZ,hmo⟩
 | false =>
  have Hany:=hideA hany;clear hany;by_cases hfu:(24:Int)≤(r.log.length:Int)
  ·have HN:Hid (r.headed own x=(r,[])):=hideA (by rw[HT.out,if_neg (by rw[Hany.out];simp),if_pos (.inl (by omega))])
   have hfd:decide ((24:Int)≤(r.log.length:Int))=true:=decide_eq_true hfu
   rw[hfd] at HFu
   go_wp2_with fail;go_quiet ((go_at_call 277;refine (HFu.out _ (below_drewN hbY _)).mono ?_;rintro e w9 ⟨rfl,rfl⟩;exact⟨rfl,_,rfl⟩))
   go_wp2_with fail;go_ret;rw[HN.out];exact RepOut.still HR.out (below_drewN hbY _)
  ·have hfd:decide ((24:Int)≤(r.log.length:Int))=false:=decide_eq_false hfu
   rw[hfd] at HFu
   go_wp2_with fail;go_region_held3 (fun w'=>w'.cell? ⟨b,4,none⟩=some (.slice al r.log.length cl)∧w'.cell? ⟨w.heap.size,0,none⟩=some (.int .i64 x.client)∧w'.cell? ⟨w.heap.size,1,none⟩=some (.int .i64 x.seq)) (first|(simp[go_sem];done)|(simp[go_sem, *];done)|go_keep) (first|(go_at_call 277;refine (HFu.out _ hbY.drew).mono ?_;rintro e w9 ⟨rfl,rfl⟩)|(go_at_call 284;refine (HL.out Y hbY HBY.out _ rfl).mono ?_;rintro e Z ⟨rfl,hbZ,hBZ,z4,z0,z1⟩))
   have HBZ:=hideA hBZ;clear hBZ;cases hlat:r.log.any (isLat x.client x.seq) with
   | true =>
    have HN:Hid (r.headed own x=(r,[])):=hideA (by rw[HT.out,if_neg (by rw[Hany.out];simp),if_pos (.inr hlat)])
    clear hlat;go_wp2_with fail;go_ret;rw[HN.out];exact RepOut.still HR.out hbZ
   | false =>
    have HN:Hid (r.headed own x=r.put own x):=hideA (by rw[HT.out,if_neg (by rw[Hany.out];simp),if_neg (by rw[hlat];simp;omega)])
    clear hlat;have g0:=coh HBZ.out 0
    have g1:=coh HBZ.out 1
    have g2:=coh HBZ.out 2
    have g3:=coh HBZ.out 3
    have g4:=coh HBZ.out 4
    have hput:=put_any b own r vm _ x Z (HR.out.below hbZ) HO.out (by omega) HC.out
    unfold entV at hput
    go_wp2_with fail;refine hput.mono ?_
    rintro e Z2 ⟨v,rfl,hto,hmo⟩;obtain⟨av,cv,hsh⟩:=hmo.shape;subst hsh;generalize hpl:(r.put own x).2.length=pl at *
    go_wp2_with fail;go_ret;rw[HN.out];exact RepOut.before hbZ ⟨_,rfl,hto,hmo⟩
end Go.Proofs.YtgieeeeeiggoeaaGreat
