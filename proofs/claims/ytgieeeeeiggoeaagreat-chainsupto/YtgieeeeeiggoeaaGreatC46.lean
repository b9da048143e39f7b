import Derived.Test.YtgieeeeeiggoeaaGreatC43
import Derived.Test.YtgieeeeeiggoeaaGreatC45
import Derived.Test.YtgieeeeeiggoeaaGreatC44
set_option maxRecDepth 100000
set_option maxHeartbeats 2000000
namespace Go.Proofs.YtgieeeeeiggoeaaGreat
open Go.RowKit Go.Shelf
theorem refTold_any {w:World}{F:Nat→Prop}{y:Nat}{c:Clu}(m:Msg)(a1:Option Addr)(d1:Nat)(a2:Option Addr)(d2:Nat)(h:RefAt w F y c)(ht:c.told.length≤2999999999999) :
  Calls Tryz.prog 140 #[.pointer (some ⟨y,0,none⟩),.agg #[.int .i64 m.kind,.int .i64 m.src,.int .i64 m.dst,.int .i64 m.epoch,.int .i64 m.ballot,.int .i64 m.vote,.int .i64 m.pos,.int .i64 m.value,.slice a1 m.mems.length d1,.slice a2 m.log.length d2]] w fun r w'=>(∃ v,r=.returned v)∧OutAfter w F y (c.tell m) w':=by
 have HA:=hideA h;obtain⟨br,ba,bm,vr,va,vm,vb,vt,vv,vc,h⟩:=h;have hyl:y<w.heap.size:=(Array.getElem?_eq_some_iff.1 h.blk).1
 have HT:Hid (c.tell m=if m.kind=4∧300≤m.dst∧m.dst≤303 then { c with told:=c.told++[⟨m.dst-300,m.pos,m.value⟩] } else c):=hideA rfl
 obtain⟨B0,hB0,hbB0,hMB0⟩:=msg_box w m (.slice a1 m.mems.length d1) (.slice a2 m.log.length d2)
 have k0:B0.cell? ⟨w.heap.size,0,none⟩=some (.int .i64 m.kind):=coh hMB0 0
 have k2:B0.cell? ⟨w.heap.size,2,none⟩=some (.int .i64 m.dst):=coh hMB0 2
 have k6:B0.cell? ⟨w.heap.size,6,none⟩=some (.int .i64 m.pos):=coh hMB0 6
 have k7:B0.cell? ⟨w.heap.size,7,none⟩=some (.int .i64 m.value):=coh hMB0 7
 clear hMB0;cases tk:(m.kind == 4) with
 | false =>
  have HV:Hid (c.tell m=c):=hideA (by rw[HT.out,if_neg (fun e=>by rw[e.1] at tk;simp at tk)])
  clear h;go_enter Tryz.func140,Tryz.ntmps140
  go_wp2_with fail;go_end0
  rw[HV.out];exact⟨⟨_,rfl⟩,OutAfter.still HA.out hbB0⟩
 | true =>
  have PK:Hid (m.kind=4):=hideA (by simpa using tk)
  by_cases hc1:300≤m.dst
  ·by_cases hc2:m.dst≤303
   ·have HV:Hid (c.tell m={ c with told:=c.told++[⟨m.dst-300,m.pos,m.value⟩] }):=hideA (by rw[HT.out,if_pos ⟨PK.out,hc1,hc2⟩])
    have hwr:IntKind.i64.wrap (m.dst-300)=m.dst-300:=by rw[IntKind.wrap_i64];omega
    have mixed:Tryz.prog.follows Departure.mixedOrders=true:=by kernel_rfl
    obtain⟨av,cv,hvt⟩:=osh h.told
    subst hvt;have c4:w.cell? ⟨y,4,none⟩=some (.slice av c.told.length cv):=coh h.blk 4
    have c4B:=cell_later hbB0 c4
    have z4:∀ o,(B0.alloc o).cell? ⟨y,4,none⟩=some (.slice av c.told.length cv):=fun o=>cell_later ((Below.refl _ B0).alloc (Nat.le_refl _) o) c4B
    obtain⟨Z,hZ⟩:∃ Z,Z=(B0.alloc (.cells #[.int .i64 (m.dst-300),.int .i64 m.pos,.int .i64 m.value] 113)).drew:=⟨_,rfl⟩
    have hbZ:Below w.heap.size w Z:=by rw[hZ];exact hbB0.trans ((((Below.refl _ B0).alloc (Nat.le_refl _) _).drew).mono hbB0.size)
    have IZ:=h.keep (w':=Z) fun k hk=>hbZ.block k (h.lt k hk)
    have hsZ:Z.heap.size=B0.heap.size+1:=by rw[hZ];simp
    have hs0:=hbB0.size
    obtain⟨g',cap',W1,hrun,ho1,hg1,hwh⟩:=append_row3 (t:=91) infoAns Tryz.underlying91 rfl (by decide) Z 0 (.slice av c.told.length cv) c.told.length (ints (ansNums c.told)) [.int .i64 (m.dst-300),.int .i64 m.pos,.int .i64 m.value] B0.heap.size IZ.told (by rw[hZ];exact hnw _ _) rfl (by intro u hu;simp at hu;rcases hu with rfl|rfl|rfl<;>rfl) (by omega) (by decide) (Nat.zero_le _)
    have nb:(Value.slice av c.told.length cv).ownBlock≠some y:=bty h.blk h.told (by decide)
    have hyW:W1.heap[y]?=some (.cells #[vr,va,vm,vb,.slice av c.told.length cv] 120):=(hg1.block y (by omega) (fun e=>nb e.symm)).trans IZ.blk
    have d4:=coh hyW 4
    have e4:=foh hyW 4
    have M1:Moved w W1 (fun k=>k=y∨vb.ownBlock=some k∨(Value.slice av c.told.length cv).ownBlock=some k):=((Moved.refl w _).below hbZ).grown hg1 (fun k _ e=>.inr (.inr e))
    have HF:Hid (OutAfter w F y { c with told:=c.told++[⟨m.dst-300,m.pos,m.value⟩] } (W1.setCell ⟨y,4,none⟩ (.slice (some ⟨g',0,none⟩) (c.told.length+1) cap'))):=hideA (by
     have M2:=M1.setCell ⟨y,4,none⟩ (.inl rfl) (.slice (some ⟨g',0,none⟩) (c.told.length+1) cap')
     have hr:=ownsRow_setCell_other (a:=⟨y,4,none⟩) ho1 (bty hyW ho1 (by decide)) (.slice (some ⟨g',0,none⟩) (c.told.length+1) cap')
     have hS:∀ k,k=y∨vb.ownBlock=some k∨(Value.slice av c.told.length cv).ownBlock=some k→F k:=fun k hk=>h.inF k (by
      rcases hk with e|e|e
      ·exact .inl e
      ·exact .inr (.inr (.inr (.inl e)))
      ·exact .inr (.inr (.inr (.inr (.inl e)))))
     have hs2:=M2.size
     have hro:(W1.setCell ⟨y,4,none⟩ (.slice (some ⟨g',0,none⟩) (c.told.length+1) cap')).ownsRow 0 214 2 vb c.bag.length (frV c.bag):=by
      refine ownsRow_setCell_other (a:=⟨y,4,none⟩) (oon IZ.bag fun k e=>hg1.block k (Array.getElem?_eq_some_iff.1 (obc IZ.bag e).choose_spec.1).1 (fun q=>otw IZ.bag IZ.told (by decide) k e q.symm)) ?_ _
      exact bty h.blk h.bag (by decide)
     refine⟨⟨br,ba,bm,vr,va,vm,vb,_,vv,vc,h.outTo c.bag (c.told++[⟨m.dst-300,m.pos,m.value⟩]) vb (.slice (some ⟨g',0,none⟩) (c.told.length+1) cap') M2 (fun k e=>.inl e) (Gr.lt h.lt hs2) (set5_4 _ hyW) hro ?_ ?_ ?_⟩,M2.wider hS,fun _ _ _ hm=>hm.off M2 h.blk h.bag h.told⟩
     ·rw[List.length_append,ansNums_snoc]
      exact hr
     ·exact fun k hk=>.inl (h.inF k (.inr (.inr (.inr (.inl hk)))))
     ·intro k hk
      have:g'=k:=by simpa [Value.ownBlock] using hk
      subst this;rcases hwh with q|q
      ·exact .inl (h.inF _ (.inr (.inr (.inr (.inr (.inl q))))))
      ·refine .inr ⟨by omega, ?_⟩
       exact (Array.getElem?_eq_some_iff.1 (obc hr (by rfl)).choose_spec.1).1)
    rw[hZ] at hrun
    clear hg1 hwh ho1 hyW M1 IZ hbZ hsZ hZ h hs0;go_enter Tryz.func140,Tryz.ntmps140
    go_upto_region 2 with fail
    go_region_law (first|(refine op_append rfl (.tmp 21) (.tmp 30) 91 rfl _ _ _ _ (by simp[Act.eval]) (by simp[Act.eval]) hrun ?_))
    all_goals (
     go_wp2_with fail;go_end0
     rw[HV.out];exact⟨⟨_,rfl⟩,HF.out⟩)
   ·have HV:Hid (c.tell m=c):=hideA (by rw[HT.out,if_neg (fun e=>hc2 e.2.2)])
    clear h;go_enter Tryz.func140,Tryz.ntmps140
    go_wp2_with fail;go_end0
    rw[HV.out];exact⟨⟨_,rfl⟩,OutAfter.still HA.out hbB0⟩
  ·have HV:Hid (c.tell m=c):=hideA (by rw[HT.out,if_neg (fun e=>hc1 e.2.1)])
   clear h;go_enter Tryz.func140,Tryz.ntmps140
   go_wp2_with fail;go_end0
   rw[HV.out];exact⟨⟨_,rfl⟩,OutAfter.still HA.out hbB0⟩
theorem refAll_idle (b:Nat)(w:World)(h:w.cell? ⟨b,2,none⟩=some (.int .i64 0)) :
  Calls Tryz.prog 176 #[.pointer (some ⟨b,0,none⟩)] w fun e w'=>e=.returned (.slice none 0 0)∧w'=w:=by
 go_enter Tryz.func176,Tryz.ntmps176
 go_wp2_with fail;go_ret;exact⟨rfl,rfl⟩
theorem refAsks_idle (b:Nat)(own:Int)(w:World)(h:w.cell? ⟨b,2,none⟩=some (.int .i64 0)) :
  Calls Tryz.prog 145 #[.pointer (some ⟨b,0,none⟩),.int .i64 own] w fun e w'=>e=.returned (.slice none 0 0)∧w'=w:=by
 have HA:=hideA (refAll_idle b w h)
 go_enter Tryz.func145,Tryz.ntmps145
 go_wp2_with fail;refine HA.out.mono ?_
 rintro e W ⟨rfl,rfl⟩;go_wp2_with fail;go_loopw [5,7] (fun v i wr=>v=.slice none 0 0∧i=.int .i64 0∧wr=W) (fun _ _ _=>0)
 case atStart=>exact⟨rfl,rfl,rfl⟩
 case round =>
  obtain⟨rfl,rfl,rfl⟩:=hrel;go_wp2_with fail;go_ret;exact⟨rfl,rfl⟩
def Clu.idle (c:Clu):Prop:=∀ k,isMas k→(c.mas k).does=0
theorem asks_idle {s:Mas}(h:s.does=0)(own:Int):s.asks own=[]:=by
 unfold Mas.asks Mas.all
 rw[h];rfl
theorem RepFit.of {n:Nat}{E:Int}{r:Rep}{own:Int}(h:RepWF n E r)(hn:n≤5)(hE:E≤2000):RepFit r own:=by
 obtain⟨h1,h2,_⟩:=(memsOk_iff _ _).1 h.mems
 have hl:=memsOk_length h.mems
 exact⟨by omega,h2,fun x hx=>(h1 x hx).1,h.log.1,h.commit,fun y hy=>by have:=ok_client (h.log.2 y hy);omega,by have:=h.epoch;omega⟩
theorem RefIn.rr' {w:World}{F:Nat→Prop}{y:Nat}{c:Clu}{br ba bm:Nat→Nat}{vr va vm vb vt:Value}{vv vc:Nat→Value}(h:RefIn w F y c br ba bm vr va vm vb vt vv vc){i:Nat}(hi:i<c.reps.length):∃ um ul,RR w (br i) (c.rep i) um ul∧F (br i)∧InF F um∧InF F ul:=by
 obtain⟨um,ul,h1,h2,h3,h4,h5,h6⟩:=h.reps i hi
 exact⟨um,ul,⟨h1,h2,h3⟩,h4,h5,h6⟩
theorem refTicksC_any {w:World}{F:Nat→Prop}{y:Nat}{c:Clu}{E:Int}{g:Gh}(d:Int)(h:RefAt w F y c)(hg:Good c E g)(hid:c.idle)(hi : -9223372036854775808≤d∧d≤9223372036854775807) :
  Calls Tryz.prog 137 #[.pointer (some ⟨y,0,none⟩),.int .i64 d] w fun e w'=>∃ v,e=.returned v∧MsgsOwn w' w.heap.size v (c.ticks d)∧Below w.heap.size w w':=by
 obtain⟨br,ba,bm,vr,va,vm,vb,vt,vv,vc,h⟩:=h;have hn:=hg.nodes.n5
 obtain⟨ar,cr,hvr⟩:=osh h.rr
 subst hvr;have c0:w.cell? ⟨y,0,none⟩=some (.slice ar c.reps.length cr):=coh h.blk 0
 have c2:w.cell? ⟨y,2,none⟩=some vm:=coh h.blk 2
 have HK:=hideA (refKind_any y c.reps.length _ cr d w c0 hn hi)
 rcases who c d hn with ⟨i,hil,rfl,hk,hu⟩|⟨i,hil,rfl,hk,hu⟩|⟨i,hil,rfl,hk,hu⟩|⟨hk,hu⟩
 ·rw[hk] at HK
  have hrp:c.isRep (i:Int):=⟨by omega,by omega⟩
  have HV:Hid (c.ticks (i:Int)=(c.rep i).tick i):=hideA (by unfold Clu.ticks;rw[if_pos hrp])
  obtain⟨g1,cap,hv,hgl,hcell⟩:=h.atRep hil
  cases hv
  obtain⟨um,ul,hR, -⟩:=h.rr' hil
  have hf:=RepFit.of (own:=i) (hg.nodes.R i hrp) hn hg.nodes.E2000
  have HT:=hideA (refRepTicks_any (br i) (c.rep i) um ul (i:Int) w hR.rrp hf.ml hf.nd hf.pos hf.l24 hf.cm)
  have hi1:(i:Int)<(c.reps.length:Int):=by omega
  have hi0:(0:Int)≤(i:Int):=by omega
  clear h hk hu hR hf;go_enter Tryz.func137,Tryz.ntmps137
  go_wp2_with fail;refine HK.out.mono ?_
  rintro e W ⟨rfl,rfl⟩;go_wp2_with fail;refine HT.out.mono ?_
  rintro e W2 ⟨v,rfl,hm,hb⟩;obtain⟨a9,c9,hv9⟩:=hm.shape;subst hv9;have HM:=hideA (And.intro hm hb)
  clear hm hb;go_wp2_with fail;go_ret;rw[HV.out];exact⟨_,rfl,HM.out.1,HM.out.2⟩
 ·rw[hk] at HK
  have HV:Hid (c.ticks (100+(i:Int))=[]):=hideA (by unfold Clu.ticks;rw[if_neg (fun e=>by have:=e.2;omega),if_neg (fun e=>by have:=e.1;omega)])
  clear h hk hu;go_enter Tryz.func137,Tryz.ntmps137
  go_wp2_with fail;refine HK.out.mono ?_
  rintro e W ⟨rfl,rfl⟩;go_wp2_with fail;go_ret;rw[HV.out];exact⟨_,rfl,MsgsOwn.nil _ _,Below.refl _ _⟩
 ·rw[hk] at HK
  have hms:isMas (200+(i:Int)):=by unfold isMas;omega
  have HV:Hid (c.ticks (200+(i:Int))=[]):=hideA (by unfold Clu.ticks;rw[if_neg (fun e=>by have:=e.2;omega),if_pos hms,asks_idle (hid _ hms)])
  obtain⟨g1,cap,hv,hgl,hcell⟩:=h.atMas hil
  subst hv;obtain⟨_,_,_,_,hb,_⟩:=h.mass i hil
  have r2:w.cell? ⟨bm i,2,none⟩=some (.int .i64 0):=by
   have:=coh hb 2
   rw[hid _ hms] at this
   exact this
  have HT:=hideA (refAsks_idle (bm i) (200+(i:Int)) w r2)
  have hi1:(i:Int)<2:=by omega
  have hi0:(0:Int)≤(i:Int):=by omega
  clear h hb hk hu r2;go_enter Tryz.func137,Tryz.ntmps137
  go_wp2_with fail;refine HK.out.mono ?_
  rintro e W ⟨rfl,rfl⟩;go_wp2_with fail;refine HT.out.mono ?_
  rintro e W2 ⟨rfl,rfl⟩;go_wp2_with fail;go_ret;rw[HV.out];exact⟨_,rfl,MsgsOwn.nil _ _,Below.refl _ _⟩
 ·rw[hk] at HK
  have HV:Hid (c.ticks d=[]):=hideA (by
   unfold Clu.ticks
   unfold Clu.upOf at hu
   split at hu
   ·cases hu
   ·rename_i h1
    rw[if_neg h1];split at hu
    ·cases hu
    ·split at hu
     ·cases hu
     ·rename_i h2
      rw[if_neg h2])
  clear h hk hu;go_enter Tryz.func137,Tryz.ntmps137
  go_wp2_with fail;refine HK.out.mono ?_
  rintro e W ⟨rfl,rfl⟩;go_wp2_with fail;go_ret;rw[HV.out];exact⟨_,rfl,MsgsOwn.nil _ _,Below.refl _ _⟩
theorem RefIn.ofRR {w w':World}{F:Nat→Prop}{y:Nat}{c:Clu}{br ba bm:Nat→Nat}{vr va vm vb vt:Value}{vv vc:Nat→Value}{i:Nat}{um ul um' ul':Value}{r:Rep}(h:RefIn w F y c br ba bm vr va vm vb vt vv vc)(hi:i<c.reps.length)(hu:InF F um)(hl:InF F ul)(hR:RR w' (br i) r um' ul')(hM:Moved w w' (fun k=>k=br i))(g1:Grows w um um')(g2:Grows w ul ul')(hb:F (br i)) :
  RefAfter w F y (c.setRep i r) w':=by
 have hs:=hM.size
 have inG:∀ {u u':Value} {e:TypeId} {size n:Nat} {xs:List Value},InF F u→Grows w u u'→w'.ownsRow 0 e size u' n xs→InF (Gr F w w') u':=fun hu g ho k hk=>by
  rcases g k hk with q|q
  ·exact .inl (hu k q)
  ·exact .inr ⟨q,(Array.getElem?_eq_some_iff.1 (obc ho hk).choose_spec.1).1⟩
 exact⟨⟨br,ba,bm,vr,va,vm,vb,vt,vv,vc,h.repTo i hi r hM (fun k e=>.inl e) (Gr.lt h.lt hs) ⟨um',ul',hR.blk,hR.hm,hR.hl,.inl hb,inG hu g1 hR.hm,inG hl g2 hR.hl⟩⟩,hM.wider (fun k e=>by rw[e];exact hb)⟩
theorem refTakesC_any {w:World}{F:Nat→Prop}{y:Nat}{c:Clu}{E:Int}{g:Gh}(m:Msg)(a1:Option Addr)(d1:Nat)(a2:Option Addr)(d2:Nat)(h:RefAt w F y c)(hg:Good c E g)(hwf:MsgWF c.reps.length E m)(hdst:c.isRep m.dst∨c.upOf m.dst=none)(hkd:c.isRep m.dst→m.kind=1∨m.kind=2∨m.kind=3)(hlg:LogOwn w (.slice a2 m.log.length d2) m.log) :
  Calls Tryz.prog 141 #[.pointer (some ⟨y,0,none⟩),.agg #[.int .i64 m.kind,.int .i64 m.src,.int .i64 m.dst,.int .i64 m.epoch,.int .i64 m.ballot,.int .i64 m.vote,.int .i64 m.pos,.int .i64 m.value,.slice a1 m.mems.length d1,.slice a2 m.log.length d2]] w fun e w'=>∃ v,e=.returned v∧MsgsOwn w' w.heap.size v (c.takes m).2∧RefAfter w F y (c.takes m).1 w':=by
 have hn:=hg.nodes.n5
 have HA:=hideA h;obtain⟨B,hB,hbB,hMB⟩:=msg_box w m (.slice a1 m.mems.length d1) (.slice a2 m.log.length d2)
 have gM:=fun j=>coh hMB j
 have k2:B.cell? ⟨w.heap.size,2,none⟩=some (.int .i64 m.dst):=coh hMB 2
 have hdi : -9223372036854775808≤m.dst∧m.dst≤9223372036854775807:=by have:=hwf.dst;omega
 have HU:=hideA (refUp_any m.dst (h.below hbB) hn hdi)
 by_cases hup:c.upOf m.dst=some true
 ·have hrp:c.isRep m.dst:=hdst.elim id (fun e=>by rw[e] at hup;cases hup)
  rw[hup] at HU
  obtain⟨br,ba,bm,vr,va,vm,vb,vt,vv,vc,hI⟩:=h;have h1a:=hrp.1
  have h1b:=hrp.2
  obtain⟨i,hd⟩:∃ i:Nat,m.dst=(i:Int):=⟨m.dst.toNat,by omega⟩
  have hil:i<c.reps.length:=by omega
  have HV:Hid (c.takes m=(c.setRep i ((c.rep i).take i m).1,((c.rep i).take i m).2)):=hideA (by unfold Clu.takes;rw[if_pos hup,if_pos hrp,hd])
  obtain⟨um,ul,hR,hbF,hum,hul⟩:=hI.rr' hil
  have hf:=RepFit.of (own:=i) (hg.nodes.R i (hd ▸ hrp)) hn hg.nodes.E2000
  have HT:Hid (∀ W,W=B.drew→Calls Tryz.prog 172 #[.pointer (some ⟨br i,0,none⟩),.int .i64 (i:Int),.agg #[.int .i64 m.kind,.int .i64 m.src,.int .i64 m.dst,.int .i64 m.epoch,.int .i64 m.ballot,.int .i64 m.vote,.int .i64 m.pos,.int .i64 m.value,.slice a1 m.mems.length d1,.slice a2 m.log.length d2]] W fun e w'=>∃ v,e=.returned v∧MsgsOwn w' w.heap.size v ((c.rep i).take i m).2∧RefAfter w F y (c.setRep i ((c.rep i).take i m).1) w'):=hideA fun W hW=>by
   subst hW;have hbd:Below w.heap.size w B.drew:=hbB.drew
   refine (refTakes_rest (br i) (c.rep i) um ul (i:Int) m a1 d1 a2 d2 B.drew (hR.below hbd) hf (okp hlg fun z _ hz=>hbd.block z hz) (hkd hrp) hwf.one hwf.src.1 hwf.pos.1 (fun z hz=>by have:=ok_client (hwf.log.2 z hz);omega)).mono ?_
   intro e w' hq;obtain⟨v,um',ul',rfl,q1,q2,q3,q4,q5⟩:=RRTo.before hbd hq
   exact⟨v,rfl,q2,hI.ofRR hil hum hul q1 q3 q4 q5 hbF⟩
  obtain⟨g1,cap,hv,hgl,hcell⟩:=hI.atRep hil
  subst hv;have c0:B.cell? ⟨y,0,none⟩=some (.slice (some ⟨g1,0,none⟩) c.reps.length cap):=cell_later hbB (coh hI.blk 0)
  have cg:=cell_later hbB hcell
  have hkk:kindOf c.reps.length m.dst=(1,(i:Int)):=by unfold kindOf;rw[if_pos ⟨hrp.1,hrp.2⟩,hd]
  have HK:Hid (∀ q,Calls Tryz.prog 133 #[.pointer (some ⟨y,0,none⟩),.int .i64 m.dst] (B.drewN q) fun e w'=>e=.returned (.tuple #[.int .i64 1,.int .i64 (i:Int)])∧w'=B.drewN q):=hideA fun q=>by
   have:=refKind_any y c.reps.length _ cap m.dst (B.drewN q) c0 hn hdi
   rw[hkk] at this
   exact this
  have HT2:Hid (∀ q W,W=(B.drewN q).drew→Calls Tryz.prog 172 #[.pointer (some ⟨br i,0,none⟩),.int .i64 (i:Int),.agg #[.int .i64 m.kind,.int .i64 m.src,.int .i64 m.dst,.int .i64 m.epoch,.int .i64 m.ballot,.int .i64 m.vote,.int .i64 m.pos,.int .i64 m.value,.slice a1 m.mems.length d1,.slice a2 m.log.length d2]] W fun e w'=>∃ v,e=.returned v∧MsgsOwn w' w.heap.size v ((c.rep i).take i m).2∧RefAfter w F y (c.setRep i ((c.rep i).take i m).1) w'):=hideA fun q W hW=>by
   subst hW;have hbd:Below w.heap.size w (B.drewN q).drew:=(below_drewN hbB q).drew
   refine (refTakes_rest (br i) (c.rep i) um ul (i:Int) m a1 d1 a2 d2 _ (hR.below hbd) hf (okp hlg fun z _ hz=>hbd.block z hz) (hkd hrp) hwf.one hwf.src.1 hwf.pos.1 (fun z hz=>by have:=ok_client (hwf.log.2 z hz);omega)).mono ?_
   intro e w' hq;obtain⟨v,um',ul',rfl,q1,q2,q3,q4,q5⟩:=RRTo.before hbd hq
   exact⟨v,rfl,q2,hI.ofRR hil hum hul q1 q3 q4 q5 hbF⟩
  have hi1:(i:Int)<(c.reps.length:Int):=by omega
  have hi0:(0:Int)≤(i:Int):=by omega
  clear hI hMB hkk hR hf hcell hlg hd hup hrp hdst hkd HT;go_enter Tryz.func141,Tryz.ntmps141
  go_wp2_with fail;refine HU.out.mono ?_
  rintro e W ⟨rfl,q,rfl⟩;go_wp2_with fail;refine (HK.out q).mono ?_
  rintro e W ⟨rfl,rfl⟩;go_wp2_with fail;go_region_law (first|(rw[if_pos (by simp[Region.wanted])];go_simp;go_at_call 172;refine (HT2.out q _ rfl).mono ?_;rintro e W ⟨v,rfl,hm,hC⟩;obtain⟨a9,c9,hv9⟩:=hm.shape;subst hv9;have HM:=hideA (And.intro hm hC);clear hm hC))
  all_goals (
   go_wp2_with fail;go_ret;rw[HV.out];exact⟨_,rfl,HM.out.1,HM.out.2⟩)
 ·have HV:Hid (c.takes m=(c,[])):=hideA (by unfold Clu.takes;rw[if_neg hup])
  have hu2:(c.upOf m.dst).getD false=false:=by
   cases e:c.upOf m.dst with
   | none=>rfl
   | some b =>
    cases b with
    | false=>rfl
    | true=>exact absurd e hup
  rw[hu2] at HU
  generalize (c.upOf m.dst).isSome=is at *
  clear h hMB hup hu2 hdst hlg;go_enter Tryz.func141,Tryz.ntmps141
  go_wp2_with fail;refine HU.out.mono ?_
  rintro e W ⟨rfl,q,rfl⟩;go_wp2_with fail;go_ret;rw[HV.out];exact⟨_,rfl,MsgsOwn.nil _ _,RefAfter.still HA.out (below_drewN hbB q)⟩
theorem refTick_any {w:World}{F:Nat→Prop}{y:Nat}{c:Clu}{E:Int}{g:Gh}(d:Int)(h:RefAt w F y c)(hg:Good c E g)(hid:c.idle)(hi : -9223372036854775808≤d∧d≤9223372036854775807) :
  Calls Tryz.prog 83 #[.pointer (some ⟨y,0,none⟩),.int .i64 d] w fun r w'=>r=.returned (.int .i64 (c.tick d).2)∧RefAfter w F y (c.tick d).1 w':=by
 have HA:=hideA h;have HU:=hideA (refUp_any d h hg.nodes.n5 hi)
 have HTk:Hid (c.tick d=match c.upOf d with|none=>(c,4)|some false=>(c,5)|some true=>(c.send (c.ticks d),0)):=hideA rfl
 cases hu:c.upOf d with
 | none =>
  have HV:Hid (c.tick d=(c,4)):=hideA (by rw[HTk.out,hu])
  rw[hu] at HU
  clear h hu;go_enter Tryz.func83,Tryz.ntmps83
  go_wp2_with fail;refine HU.out.mono ?_
  rintro e W ⟨rfl,q,rfl⟩;go_wp2_with fail;go_ret;rw[HV.out];exact⟨rfl,RefAfter.still HA.out (below_drewN (Below.refl _ _) q)⟩
 | some b =>
  cases b with
  | false =>
   have HV:Hid (c.tick d=(c,5)):=hideA (by rw[HTk.out,hu])
   rw[hu] at HU
   clear h hu;go_enter Tryz.func83,Tryz.ntmps83
   go_wp2_with fail;refine HU.out.mono ?_
   rintro e W ⟨rfl,q,rfl⟩;go_wp2_with fail;go_ret;rw[HV.out];exact⟨rfl,RefAfter.still HA.out (below_drewN (Below.refl _ _) q)⟩
  | true =>
   have HV:Hid (c.tick d=(c.send (c.ticks d),0)):=hideA (by rw[HTk.out,hu])
   have hok:Hid (∀ m∈c.ticks d,m.ok=true):=hideA fun m hm=>(hg.nodes.ticks d m hm).1.ok hg.nodes.n5 hg.nodes.E2000
   have hlen:Hid ((c.ticks d).length≤100):=hideA (by
    have hu2:=upOf_nod c d
    rw[hu] at hu2
    cases hp:nodPlace c.reps.length d with
    | none=>rw[hp] at hu2;cases hu2
    | some j =>
     rw[ticks_nod hp];have:=nodTick_len (nodOK hg j (nodPlace_lt hp))
     rw[nodPlace_num hp] at this
     exact this)
   rw[hu] at HU
   have HT:Hid (∀ q,Calls Tryz.prog 137 #[.pointer (some ⟨y,0,none⟩),.int .i64 d] (w.drewN q) fun e w'=>∃ v,e=.returned v∧MsgsOwn w' w.heap.size v (c.ticks d)∧Below w.heap.size w w'):=hideA fun q=>by
    refine (refTicksC_any d (h.below (below_drewN (Below.refl _ _) q)) hg hid hi).mono ?_
    rintro e w' ⟨v,rfl,h1,h2⟩;exact⟨v,rfl,h1,(below_drewN (Below.refl w.heap.size w) q).trans h2⟩
   have HS:Hid (∀ W v,Below w.heap.size w W→MsgsOwn W w.heap.size v (c.ticks d)→Calls Tryz.prog 135 #[.pointer (some ⟨y,0,none⟩),v] W fun e w'=>(∃ v,e=.returned v)∧RefAfter w F y (c.send (c.ticks d)) w'):=hideA fun W v hb hm=>by
    refine (refSend_any _ v _ (HA.out.below hb) hg.bag hm hok.out (by have:=hlen.out;omega)).mono ?_
    rintro e w' ⟨h1,h2⟩;exact⟨h1,RefAfter.before HA.out hb h2.after⟩
   clear h hu;go_enter Tryz.func83,Tryz.ntmps83
   go_wp2_with fail;refine HU.out.mono ?_
   rintro e W ⟨rfl,q,rfl⟩;go_wp2_with fail;refine (HT.out q).mono ?_
   rintro e W ⟨v,rfl,hm,hb⟩;obtain⟨a9,c9,hv9⟩:=hm.shape;subst hv9;have HM:=hideA (And.intro hm hb)
   clear hm hb;go_wp2_with fail;refine (HS.out _ _ HM.out.2 HM.out.1).mono ?_
   rintro e W2 ⟨⟨v2,rfl⟩,hC⟩;have HC:=hideA hC;clear hC;go_wp2_with fail;go_ret;rw[HV.out];exact⟨rfl,HC.out⟩
theorem own_set {w:World}{base:Nat}{e:TypeId}{size g n cap:Nat}{xs:List Value}(h:w.ownsRow base e size (.slice (some ⟨g,0,none⟩) n cap) n xs)(j:Nat)(v:Value):(w.setCell ⟨g,j,none⟩ v).ownsRow base e size (.slice (some ⟨g,0,none⟩) n cap) n (xs.set j v):=by
 obtain⟨hl,ho⟩:=h;rcases ho with ⟨h0,_⟩|⟨g',cap',cur,hv,hb,hg,hnc,hcm,hcs,htk⟩
 ·cases h0
 cases hv
 refine⟨by rw[List.length_set];exact hl,.inr ⟨g,cap,cur.setIfInBounds j v,rfl,hb,heap_setCell_same _ _ _ _ _ _ hg,hnc,hcm,by rw[Array.size_setIfInBounds];exact hcs, ?_⟩⟩
 rw[Array.toList_setIfInBounds,List.take_set,htk]
theorem ptrs_set (bm:Nat→Nat)(i b':Nat)(hi:i<2):(ptrs bm 0 2).set i (.pointer (some ⟨b',0,none⟩))=ptrs (fun j=>if j=i then b' else bm j) 0 2:=by
 have:i=0∨i=1:=by omega
 rcases this with rfl|rfl<;>rfl
theorem RefIn.masNew {w w1:World}{F:Nat→Prop}{y:Nat}{c:Clu}{br ba bm:Nat→Nat}{vr va vb vt:Value}{vv vc:Nat→Value}{gm cap:Nat}(h:RefIn w F y c br ba bm vr va (.slice (some ⟨gm,0,none⟩) 2 cap) vb vt vv vc)(i:Nat)(hi:i<2)(u:Bool)(n:Nat)(b':Nat)(hb:Below w.heap.size w w1)(hbl:w1.heap[b']?=some (.cells (masCells u n) 206))(hnew:w.heap.size≤b') :
  RefAfter w F y (c.setMas (200+(i:Int)) (Mas.still u n)) (w1.setCell ⟨gm,i,none⟩ (.pointer (some ⟨b',0,none⟩))):=by
 have hgF:F gm:=h.inF gm (.inr (.inr (.inr (.inr (.inr rfl)))))
 have hgl:=h.lt gm hgF
 have hM:Moved w (w1.setCell ⟨gm,i,none⟩ (.pointer (some ⟨b',0,none⟩))) (fun k=>k=gm):=((Moved.refl w (fun k=>k=gm)).below hb).setCell ⟨gm,i,none⟩ rfl _
 have hT:Typed w (fun k=>k=gm) [204]:=fun k hk _=>by
  rw[show k=gm from hk]
  exact⟨_,_,(obc h.rm (by rfl)).choose_spec.1,List.mem_singleton.2 rfl⟩
 have row:∀ {base size n:Nat} {e:TypeId} {v:Value} {xs:List Value},w.ownsRow base e size v n xs→e≠204→(w1.setCell ⟨gm,i,none⟩ (.pointer (some ⟨b',0,none⟩))).ownsRow base e size v n xs:=fun ho he=>hM.rowT hT ho (fun q=>he (List.mem_singleton.1 q))
 have blk:∀ {b:Nat} {cs:Array Value} {t:TypeId},w.heap[b]?=some (.cells cs t)→t≠204→(w1.setCell ⟨gm,i,none⟩ (.pointer (some ⟨b',0,none⟩))).heap[b]?=w.heap[b]?:=fun hb ht=>(hM.blkT hT hb (fun q=>ht (List.mem_singleton.1 q))).trans hb.symm
 have lists:∀ {e:TypeId},e=3∨e=42→e≠204:=fun q=>by rcases q with q|q<;>(rw[q];decide)
 have hb'l:b'<w1.heap.size:=(Array.getElem?_eq_some_iff.1 hbl).1
 have hsz:(w1.setCell ⟨gm,i,none⟩ (.pointer (some ⟨b',0,none⟩))).heap.size=w1.heap.size:=by simp
 have hF:∀ k,F k→Gr F w (w1.setCell ⟨gm,i,none⟩ (.pointer (some ⟨b',0,none⟩))) k:=fun k e=>.inl e
 have hbn:(w1.setCell ⟨gm,i,none⟩ (.pointer (some ⟨b',0,none⟩))).heap[b']?=some (.cells (masCells u n) 206):=(Below.heap_setCell _ _ _ _ (by show b'≠gm;omega)).trans hbl
 have bml:∀ j,j<2→bm j<w.heap.size:=fun j hj=>by
  obtain⟨_,_,_,_,q,_⟩:=h.mass j hj
  exact (Array.getElem?_eq_some_iff.1 q).1
 refine⟨⟨br,ba,fun j=>if j=i then b' else bm j,vr,va,.slice (some ⟨gm,0,none⟩) 2 cap,vb,vt,vv,fun j=>if j=i then .slice none 0 0 else vc j,⟨(blk h.blk (by decide)).trans h.blk,row h.rr (by decide),row h.ra (by decide), ?_,fun j hj => ?_,fun j hj => ?_,fun j hj => ?_,row h.bag (by decide),row h.told (by decide),fun k hk=>hF k (h.inF k hk),Gr.lt h.lt hM.size,⟨h.sizes.1, ?_⟩,h.ijr,h.ija,fun a b h1 h2 e => ?_,h.ijv,fun a b k h1 h2 e1 e2 => ?_⟩⟩,hM.wider (fun k e=>by rw[e];exact hgF)⟩
 ·rw[← ptrs_set bm i b' hi]
  exact own_set (okp h.rm fun z _ hz=>hb.block z hz) i _
 ·obtain⟨_,_,q,_⟩:=h.reps j hj
  exact (h.reps j hj).keep hF (blk q (by decide)) (fun ho _ q=>row ho (lists q))
 ·obtain⟨_,q,_,_,_,vs,q2,_⟩:=h.accs j hj
  refine (h.accs j hj).keep hF (blk q (by decide)) (fun ho _ e => ?_)
  rcases e with e|e|e
  ·exact row ho (lists (.inl e))
  ·exact row ho (lists (.inr e))
  ·subst e
   exact hM.owns ho fun k hk hS=>otw q2 h.rm (by decide) k hk (by rw[hS];rfl)
 ·rw[masPut c i j (by rw[h.sizes.2];exact hi) _]
  by_cases e:j=i
  ·subst e
   rw[if_pos rfl];simp only [if_true]
   exact RMasAt.still hbn (.inr ⟨hnew,by rw[hsz];exact hb'l⟩)
  ·rw[if_neg e]
   simp only [if_neg e]
   obtain⟨_,_,_,_,q,_,_,_,ws,_,q2,_⟩:=h.mass j hj
   refine (h.mass j hj).keep hF (blk q (by decide)) (fun ho _ q4 => ?_)
   rcases q4 with q4|q4|q4
   ·exact row ho (lists (.inl q4))
   ·exact row ho (lists (.inr q4))
   ·subst q4
    exact hM.owns ho fun k hk hS=>otw q2 h.rm (by decide) k hk (by rw[hS];rfl)
 ·rw[← h.sizes.2]
  exact List.length_set
 ·by_cases e1:a=i
  ·by_cases e2:b=i
   ·omega
   ·rw[if_pos e1,if_neg e2] at e
    have:=bml b h2
    omega
  ·by_cases e2:b=i
   ·rw[if_neg e1,if_pos e2] at e
    have:=bml a h1
    omega
   ·rw[if_neg e1,if_neg e2] at e
    exact h.ijm a b h1 h2 e
 ·by_cases q1:a=i
  ·rw[if_pos q1] at e1
   exact absurd e1 no_row
  ·by_cases q2:b=i
   ·rw[if_pos q2] at e2
    exact absurd e2 no_row
   ·rw[if_neg q1] at e1
    rw[if_neg q2] at e2
    exact h.ijc a b k h1 h2 e1 e2
end Go.Proofs.YtgieeeeeiggoeaaGreat
