import Derived.Test.YtgieeeeeiggoeaaGreatC42
import Derived.Test.YtgieeeeeiggoeaaGreatC32
set_option maxRecDepth 100000
set_option maxHeartbeats 4000000
namespace Go.Proofs.YtgieeeeeiggoeaaGreat
open Go.RowKit Go.Shelf
theorem infoFrm : (Tryz.prog.info? 214).map (fun i=>(i.zero,i.size,i.bytes))=some (some (.agg #[.string ⟨#[]⟩,.bool false]),2,24):=by kernel_rfl
theorem frV_append (l m:List (List UInt8 × Bool)):frV (l++m)=frV l++frV m:=by unfold frV;rw[List.flatMap_append]
theorem frV_length (l:List (List UInt8 × Bool)):(frV l).length=l.length*2:=by
 induction l with
 | nil=>rfl
 | cons a t ih =>
  have e:frV (a :: t)=[Value.string (bs a.1),.bool a.2]++frV t:=by simp[frV]
  rw[e,List.length_append,ih,List.length_cons];simp
  omega
theorem frV_one (l:List (List UInt8 × Bool)):∀ u∈frV l,u.oneCell'=true:=by
 intro u hu;unfold frV at hu
 rw[List.mem_flatMap] at hu
 obtain⟨f,_,hf⟩:=hu;simp at hf
 rcases hf with rfl|rfl<;>rfl
theorem frVat (l:List (List UInt8 × Bool))(i:Nat)(f:List UInt8 × Bool)(hf:l[i]?=some f):(frV l)[i*2]?=some (.string (bs f.1))∧(frV l)[i*2+1]?=some (.bool f.2):=by
 induction l generalizing i with
 | nil=>simp at hf
 | cons a t ih =>
  have e:frV (a :: t)=[Value.string (bs a.1),.bool a.2]++frV t:=by simp[frV]
  rw[e];cases i with
  | zero =>
   simp at hf
   subst hf;exact⟨rfl,rfl⟩
  | succ i =>
   rw[List.getElem?_append_right (by simp;omega),List.getElem?_append_right (by simp;omega),show (i+1)*2 - [Value.string (bs a.1),Value.bool a.2].length=i*2 by simp;omega,show (i+1)*2+1 - [Value.string (bs a.1),Value.bool a.2].length=i*2+1 by simp;omega]
   exact ih i (by simpa using hf)
theorem frV_take (l:List (List UInt8 × Bool))(i:Nat):frV (l.take i)=(frV l).take (i*2):=by
 induction l generalizing i with
 | nil=>simp[frV]
 | cons a t ih =>
  have e:frV (a :: t)=[Value.string (bs a.1),.bool a.2]++frV t:=by simp[frV]
  cases i with
  | zero=>simp[frV]
  | succ i =>
   have e2:frV ((a :: t).take (i+1))=[Value.string (bs a.1),.bool a.2]++frV (t.take i):=by simp[frV]
   rw[e,e2,ih,show (i+1)*2=i*2+1+1 by omega]
   rfl
theorem frV_drop (l:List (List UInt8 × Bool))(i:Nat):frV (l.drop i)=(frV l).drop (i*2):=by
 have h1:frV l=frV (l.take i)++frV (l.drop i):=by rw[← frV_append,List.take_append_drop]
 have h2:=List.take_append_drop (i*2) (frV l)
 rw[frV_take] at h1
 exact (List.append_cancel_left (h2.trans h1)).symm
theorem set5_3 {W:World}{g:Nat}{T:TypeId}{a0 a1 a2 a3 a4:Value}(v:Value)(h:W.heap[g]?=some (.cells #[a0,a1,a2,a3,a4] T)):(W.setCell ⟨g,3,none⟩ v).heap[g]?=some (.cells #[a0,a1,a2,v,a4] T):=heap_setCell_same _ _ _ _ _ _ h
theorem set5_4 {W:World}{g:Nat}{T:TypeId}{a0 a1 a2 a3 a4:Value}(v:Value)(h:W.heap[g]?=some (.cells #[a0,a1,a2,a3,a4] T)):(W.setCell ⟨g,4,none⟩ v).heap[g]?=some (.cells #[a0,a1,a2,a3,v] T):=heap_setCell_same _ _ _ _ _ _ h
theorem MsgsOwn.off {w wr:World}{base y:Nat}{v:Value}{ms:List Msg}{vb vt:Value}(h:MsgsOwn w base v ms)(hM:Moved w wr (fun k=>k=y∨vb.ownBlock=some k∨vt.ownBlock=some k)){cs:Array Value}{n1 n2:Nat}{x1 x2:List Value}(hy:w.heap[y]?=some (.cells cs 120))(hb:w.ownsRow 0 214 2 vb n1 x1)(ht:w.ownsRow 0 113 3 vt n2 x2):MsgsOwn wr base v ms:=by
 have hrow:∀ {base size n:Nat} {e:TypeId} {v:Value} {xs:List Value},w.ownsRow base e size v n xs→e≠214→e≠120→e≠113→wr.ownsRow base e size v n xs:=by
  intro base size n e v xs hv h1 h2 h3;refine hM.owns hv fun k hk hS => ?_
  rcases hS with e1|e1|e1
  ·exact bty hy hv h2 (e1 ▸ hk)
  ·exact otw hv hb h1 k hk e1
  ·exact otw hv ht h3 k hk e1
 obtain⟨ws,h1,h2,h3⟩:=h;exact⟨ws,h1,hrow h2 (by decide) (by decide) (by decide),fun t ht=>⟨hrow (h3 t ht).1 (by decide) (by decide) (by decide),hrow (h3 t ht).2 (by decide) (by decide) (by decide)⟩⟩
def OutAfter (w:World)(F:Nat→Prop)(y:Nat)(c':Clu)(w':World):Prop :=
 RefAt w' (Gr F w w') y c'∧Moved w w' F∧∀ base v ms,MsgsOwn w base v ms→MsgsOwn w' base v ms
theorem OutAfter.still {w w':World}{F:Nat→Prop}{y:Nat}{c:Clu}(h:RefAt w F y c)(hb:Below w.heap.size w w'):OutAfter w F y c w' :=
 ⟨(RefAfter.still h hb).1,(RefAfter.still h hb).2,fun _ _ _ hm=>hm.below hb⟩
theorem OutAfter.after {w w':World}{F:Nat→Prop}{y:Nat}{c:Clu}(h:OutAfter w F y c w'):RefAfter w F y c w':=⟨h.1,h.2.1⟩
theorem OutAfter.trans {w w1 w2:World}{F:Nat→Prop}{y:Nat}{c1 c2:Clu}(hF:∀ k,F k→k<w.heap.size)(h1:OutAfter w F y c1 w1)(h2:OutAfter w1 (Gr F w w1) y c2 w2):OutAfter w F y c2 w2 :=
 ⟨(RefAfter.trans hF h1.2.1 h2.after).1,(RefAfter.trans hF h1.2.1 h2.after).2,fun b v ms hm=>h2.2.2 b v ms (h1.2.2 b v ms hm)⟩
theorem OutAfter.before {w w1 w2:World}{F:Nat→Prop}{y:Nat}{c1 c2:Clu}(h:RefAt w F y c1)(hb:Below w.heap.size w w1)(h2:OutAfter w1 F y c2 w2):OutAfter w F y c2 w2 :=
 ⟨(RefAfter.before h hb h2.after).1,(RefAfter.before h hb h2.after).2,fun b v ms hm=>h2.2.2 b v ms (hm.below hb)⟩
theorem refPut_any {w:World}{F:Nat→Prop}{y:Nat}{c:Clu}(f:List UInt8 × Bool)(h:RefAt w F y c)(hl:c.bag.length≤200) :
  Calls Tryz.prog 142 #[.pointer (some ⟨y,0,none⟩),.agg #[.string (bs f.1),.bool f.2]] w fun e w'=>(∃ v,e=.returned v)∧OutAfter w F y { c with bag:=putOne c.bag f } w':=by
 have HA:=hideA h;obtain⟨br,ba,bm,vr,va,vm,vb,vt,vv,vc,h⟩:=h;obtain⟨ab,cb,rfl⟩:=osh h.bag
 have c3:w.cell? ⟨y,3,none⟩=some (.slice ab c.bag.length cb):=coh h.blk 3
 have hyl:y<w.heap.size:=(Array.getElem?_eq_some_iff.1 h.blk).1
 have HP:Hid (putOne c.bag f=if c.bag.length<200 then c.bag++[f] else c.bag):=hideA rfl
 by_cases hlt:c.bag.length<200
 ·have HV:Hid (putOne c.bag f=c.bag++[f]):=hideA (by rw[HP.out,if_pos hlt])
  have hlt':(c.bag.length:Int)<200:=by omega
  obtain⟨B0,hB0,hbB0,hMB0⟩:=bm1 w #[.string (bs f.1),.bool f.2] 214
  have k0:B0.cell? ⟨w.heap.size,0,none⟩=some (.string (bs f.1)):=coh hMB0 0
  have k1:B0.cell? ⟨w.heap.size,1,none⟩=some (.bool f.2):=coh hMB0 1
  have hs0:B0.heap.size=w.heap.size+1:=by rw[← hB0];simp
  obtain⟨X,hX⟩:∃ X,X=(B0.alloc (.cells #[.string (bs f.1),.bool f.2] 214)).drew:=⟨_,rfl⟩
  have hbX:Below w.heap.size w X:=by rw[hX];exact hbB0.trans ((((Below.refl _ B0).alloc (Nat.le_refl _) _).drew).mono hbB0.size)
  have hIX:=h.keep (w':=X) fun k hk=>hbX.block k (h.lt k hk)
  have hsX:X.heap.size=w.heap.size+2:=by rw[hX];simp[hs0]
  have c3B:=cell_later hbB0 c3
  have z3:∀ o,(B0.alloc o).cell? ⟨y,3,none⟩=some (.slice ab c.bag.length cb):=fun o=>cell_later ((Below.refl _ B0).alloc (Nat.le_refl _) o) c3B
  obtain⟨g',cap',W1,hrun,ho1,hg1,hwh⟩:=append_row (t:=118) infoFrm Tryz.underlying118 rfl (by decide) X 0 (.slice ab c.bag.length cb) c.bag.length (frV c.bag) [.string (bs f.1),.bool f.2] B0.heap.size hIX.bag (by rw[hX];exact hnw _ _) rfl (by intro u hu;simp at hu;rcases hu with rfl|rfl<;>rfl) (by omega) (by decide) (Nat.zero_le _)
  have nb:(Value.slice ab c.bag.length cb).ownBlock≠some y:=bty h.blk h.bag (by decide)
  have hyW:W1.heap[y]?=some (.cells #[vr,va,vm,.slice ab c.bag.length cb,vt] 120):=(hg1.block y (by omega) (fun e=>nb e.symm)).trans hIX.blk
  have d3:=coh hyW 3
  have e3:=foh hyW 3
  have M1:Moved w W1 (fun k=>k=y∨(Value.slice ab c.bag.length cb).ownBlock=some k∨vt.ownBlock=some k):=((Moved.refl w _).below hbX).grown hg1 (fun k _ e=>.inr (.inl e))
  have HR:=hideA hrun;rw[hX] at HR
  have HF:Hid (OutAfter w F y { c with bag:=c.bag++[f] } (W1.setCell ⟨y,3,none⟩ (.slice (some ⟨g',0,none⟩) (c.bag.length+1) cap'))):=hideA (by
   have M2:=M1.setCell ⟨y,3,none⟩ (.inl rfl) (.slice (some ⟨g',0,none⟩) (c.bag.length+1) cap')
   have hr:=ownsRow_setCell_other (a:=⟨y,3,none⟩) ho1 (bty hyW ho1 (by decide)) (.slice (some ⟨g',0,none⟩) (c.bag.length+1) cap')
   have hS:∀ k,k=y∨(Value.slice ab c.bag.length cb).ownBlock=some k∨vt.ownBlock=some k→F k:=fun k hk=>h.inF k (by
    rcases hk with e|e|e
    ·exact .inl e
    ·exact .inr (.inr (.inr (.inl e)))
    ·exact .inr (.inr (.inr (.inr (.inl e)))))
   have hs2:=M2.size
   have hro:(W1.setCell ⟨y,3,none⟩ (.slice (some ⟨g',0,none⟩) (c.bag.length+1) cap')).ownsRow 0 113 3 vt c.told.length (ints (ansNums c.told)):=by
    refine ownsRow_setCell_other (a:=⟨y,3,none⟩) (oon hIX.told fun k e=>hg1.block k (Array.getElem?_eq_some_iff.1 (obc hIX.told e).choose_spec.1).1 (fun q=>otw hIX.told hIX.bag (by decide) k e q.symm)) ?_ _
    exact bty h.blk h.told (by decide)
   refine⟨⟨br,ba,bm,vr,va,vm,_,vt,vv,vc,h.outTo (c.bag++[f]) c.told (.slice (some ⟨g',0,none⟩) (c.bag.length+1) cap') vt M2 (fun k e=>.inl e) (Gr.lt h.lt hs2) (set5_3 _ hyW) ?_ hro ?_ ?_⟩,M2.wider hS,fun _ _ _ hm=>hm.off M2 h.blk h.bag h.told⟩
   ·rw[List.length_append,frV_append]
    exact hr
   ·intro k hk
    have:g'=k:=by simpa [Value.ownBlock] using hk
    subst this;rcases hwh with q|q
    ·exact .inl (h.inF _ (.inr (.inr (.inr (.inl q)))))
    ·refine .inr ⟨by omega, ?_⟩
     exact (Array.getElem?_eq_some_iff.1 (obc hr (by rfl)).choose_spec.1).1
   ·exact fun k hk=>.inl (h.inF k (.inr (.inr (.inr (.inr (.inl hk)))))))
  have mixed:Tryz.prog.follows Departure.mixedOrders=true:=by kernel_rfl
  clear hrun ho1 hg1 hwh hIX M1 h hyW hX hbX hsX hs0 hMB0;go_enter Tryz.func142,Tryz.ntmps142
  go_upto_region 2 with fail
  go_region_law (first|(refine op_append rfl (.tmp 14) (.tmp 16) 118 rfl _ _ _ _ (by simp[Act.eval]) (by simp[Act.eval]) HR.out ?_))
  all_goals (
   go_wp2_with fail;go_end0
   refine⟨⟨_,rfl⟩, ?_⟩
   rw[HV.out];exact HF.out)
 ·have HV:Hid (putOne c.bag f=c.bag):=hideA (by rw[HP.out,if_neg hlt])
  have hlt':¬ (c.bag.length:Int)<200:=by omega
  clear h;go_enter Tryz.func142,Tryz.ntmps142
  go_wp2_with fail;go_end0
  refine⟨⟨_,rfl⟩, ?_⟩
  rw[HV.out];exact OutAfter.still HA.out ((Below.refl _ _).alloc (Nat.le_refl _) _)
theorem refSend_any {w:World}{F:Nat→Prop}{y:Nat}{c:Clu}(base:Nat)(v:Value)(ms:List Msg)(h:RefAt w F y c)(hl:c.bag.length≤200)(hv:MsgsOwn w base v ms)(hok:∀ m∈ms,m.ok=true)(hmn:ms.length≤100000) :
  Calls Tryz.prog 135 #[.pointer (some ⟨y,0,none⟩),v] w fun e w'=>(∃ v,e=.returned v)∧OutAfter w F y (c.send ms) w':=by
 obtain⟨am,cm,rfl⟩:=hv.shape;have HI:=hideA h;have HM:=hideA hv;have HP:Hid (∀ W F1 l1 f,RefAt W F1 y { c with bag:=l1 }→l1.length≤200→Calls Tryz.prog 142 #[.pointer (some ⟨y,0,none⟩),.agg #[.string (bs f),.bool false]] W fun e w'=>(∃ v,e=.returned v)∧OutAfter W F1 y { c with bag:=putOne l1 (f,false) } w'):=hideA fun W F1 l1 f h1 h2=>refPut_any (c:={ c with bag:=l1 }) (f,false) h1 h2
 have HOk:=hideA hok;have Hlt:Hid (∀ k,F k→k<w.heap.size):=hideA fun k e=>h.lt' e
 clear h hv hok;go_enter Tryz.func135,Tryz.ntmps135
 go_wp2_with fail;go_loopw [4] (fun i wr=>∃ k:Nat,k≤ms.length∧i=.int .i64 k∧OutAfter w F y { c with bag:=puts c.bag (ms.take k) } wr) (fun i _=>ms.length-(intOf i).toNat)
 case atStart=>exact⟨0,Nat.zero_le _,rfl,by rw[List.take_zero,puts_nil c.bag hl];exact OutAfter.still HI.out (Below.refl _ _)⟩
 case round =>
  obtain⟨k,hk,rfl,hB⟩:=hrel;have HB:=hideA hB;clear hB;by_cases hlt:k<ms.length
  ·have hk1:(k:Int)<(ms.length:Int):=by omega
   have hk0:(0:Int)≤(k:Int):=by omega
   obtain⟨g,cap,m,a1,d1,a2,d2,hsl,hmk,i1,i2,hcell⟩:=(HB.out.2.2 _ _ _ HM.out).at k hlt
   cases hsl
   have HT:=hideA (And.intro (msgs_snoc ms k m hmk) (HOk.out m (List.mem_of_getElem? hmk)))
   have HEn:Hid (∀ W,Below wr.heap.size wr W→Calls Tryz.prog 166 #[.agg #[.int .i64 m.kind,.int .i64 m.src,.int .i64 m.dst,.int .i64 m.epoch,.int .i64 m.ballot,.int .i64 m.vote,.int .i64 m.pos,.int .i64 m.value,.slice a1 m.mems.length d1,.slice a2 m.log.length d2]] W fun e w'=>Below W.heap.size W w'∧e=.returned (.tuple #[.string (bs m.frame),.int .i64 0])):=hideA fun W hb=>by
    have:=refEncode_any m.kind m.src m.dst m.epoch m.ballot m.vote m.pos m.value (.slice a1 m.mems.length d1) (.slice a2 m.log.length d2) m.mems m.log W (IntsAt.of_owns (okp i1 fun k _ hk=>hb.block k hk)) (LogAt.of_owns (okp i2 fun k _ hk=>hb.block k hk))
    rw[show encOf m.kind [m.src,m.dst,m.epoch,m.ballot,m.vote,m.pos,m.value] m.mems m.log=(m.frame,0) from encOf_yes HT.out.2] at this
    exact this
   have q0:=hcell 0 (by omega)
   have q1:=hcell 1 (by omega)
   have q2:=hcell 2 (by omega)
   have q3:=hcell 3 (by omega)
   have q4:=hcell 4 (by omega)
   have q5:=hcell 5 (by omega)
   have q6:=hcell 6 (by omega)
   have q7:=hcell 7 (by omega)
   have q8:=hcell 8 (by omega)
   have q9:=hcell 9 (by omega)
   simp only [mcells,List.getElem?_cons_zero,List.getElem?_cons_succ,Nat.add_zero] at q0 q1 q2 q3 q4 q5 q6 q7 q8 q9
   clear hcell i1 i2 hmk;go_wp2_with fail;refine (HEn.out _ (Below.refl _ _)).mono ?_
   rintro e Y ⟨hbY,rfl⟩;clear q0 q1 q2 q3 q4 q5 q6 q7 q8 q9;have HR:=hideA (HB.out.1.below hbY)
   go_wp2_with fail;refine (HP.out _ _ _ m.frame HR.out (puts_len _ _)).mono ?_
   rintro e Z ⟨⟨v9,rfl⟩,hto⟩;have HTo:=hideA hto;clear hto;go_wp2_with fail;go_roundw
   case rel =>
    refine⟨k+1,by omega,by go_num, ?_⟩
    rw[HT.out.1, ← puts_snoc];exact OutAfter.trans Hlt.out HB.out (OutAfter.before HB.out.1 hbY HTo.out)
   case measure=>simp[intOf];omega
  ·obtain rfl:k=ms.length:=by omega
   go_wp2_with fail;go_end0
   refine⟨⟨_,rfl⟩, ?_⟩
   have:=HB.out
   rw[List.take_length] at this
   exact this
structure RR (w:World)(b:Nat)(r:Rep)(vm vl:Value):Prop where
 blk:w.heap[b]?=some (.cells #[.bool r.up,.int .i64 r.epoch,.int .i64 r.lock,vm,vl,.int .i64 (r.base:Int),.int .i64 (r.commit:Int)] 199)
 hm:IntOwn w vm r.mems
 hl:LogOwn w vl r.log
theorem RR.rrp {w:World}{b:Nat}{r:Rep}{vm vl:Value}(h:RR w b r vm vl):RRp w b r vm vl where
 c0:=coh h.blk 0
 c1:=coh h.blk 1
 c2:=coh h.blk 2
 c3:=coh h.blk 3
 c4:=coh h.blk 4
 c5:=coh h.blk 5
 c6:=coh h.blk 6
 mems:=IntsAt.of_owns h.hm
 log:=LogAt.of_owns h.hl
theorem RR.below {w w':World}{b:Nat}{r:Rep}{vm vl:Value}(h:RR w b r vm vl)(hb:Below w.heap.size w w'):RR w' b r vm vl :=
 ⟨(hb.block _ (Array.getElem?_eq_some_iff.1 h.blk).1).trans h.blk,okp h.hm fun k _ hk=>hb.block k hk,okp h.hl fun k _ hk=>hb.block k hk⟩
def RRTo (w:World)(b:Nat)(vm vl:Value)(e:Ending)(w':World)(p:Rep × List Msg):Prop :=
 ∃ v vm' vl',e=.returned v∧RR w' b p.1 vm' vl'∧MsgsOwn w' w.heap.size v p.2∧Moved w w' (fun k=>k=b)∧Grows w vm vm'∧Grows w vl vl'
theorem RRTo.still {w w':World}{b:Nat}{r:Rep}{vm vl:Value}(h:RR w b r vm vl)(hb:Below w.heap.size w w'):RRTo w b vm vl (.returned (.slice none 0 0)) w' (r,[]) :=
 ⟨_,vm,vl,rfl,h.below hb,MsgsOwn.nil _ _,(Moved.refl w _).below hb,Grows.refl _ _,Grows.refl _ _⟩
theorem entsNums_snoc (l:List Ent)(x:Ent):ints (entsNums (l++[x]))=ints (entsNums l)++[.int .i64 x.client,.int .i64 x.seq,.int .i64 x.kind,.int .i64 x.key,.int .i64 x.value]:=by
 unfold entsNums ints
 rw[List.flatMap_append,List.map_append];rfl
theorem RR.add {V:World}{b:Nat}{r:Rep}{vm vl:Value}{base:Nat}{a':Option Addr}{c' g:Nat}{x:Ent}(h:RR V b r vm vl)(ho:V.ownsRow base 42 5 (.slice a' r.log.length c') r.log.length (ints (entsNums r.log)))(hg:V.heap[g]?=some (.cells #[.int .i64 x.client,.int .i64 x.seq,.int .i64 x.kind,.int .i64 x.key,.int .i64 x.value] 42))(hb:base≤V.heap.size)(hl:r.log.length≤1000) :
  ∃ g' cap' W1,(∀ ty,(Builtin.append_ #[44,44] ty #[.slice a' r.log.length c',.slice (some ⟨g,0,none⟩) 1 1]).run Tryz.prog V=.ok (.slice (some ⟨g',0,none⟩) (r.log.length+1) cap') W1)∧W1.cell? ⟨b,4,none⟩=some vl∧W1.frozen? ⟨b,4,none⟩=false ∧
   (base≤g'∧Below base V W1)∧(∀ k,(Value.slice a' r.log.length c').ownBlock=some k→base≤k)∧((b<base→InF (fun k=>k<base) vm→RR (W1.setCell ⟨b,4,none⟩ (.slice (some ⟨g',0,none⟩) (r.log.length+1) cap')) b { r with log:=r.log++[x] } vm (.slice (some ⟨g',0,none⟩) (r.log.length+1) cap'))):=by
 obtain⟨g',cap',W1,hrun,ho1,hg1,hwh⟩:=append_row (t:=44) infoEnt2 Tryz.underlying44 rfl (by decide) V base (.slice a' r.log.length c') r.log.length (ints (entsNums r.log)) [.int .i64 x.client,.int .i64 x.seq,.int .i64 x.kind,.int .i64 x.key,.int .i64 x.value] g ho hg rfl (by intro u hu;simp at hu;rcases hu with rfl|rfl|rfl|rfl|rfl<;>rfl) (by omega) (by decide) hb
 have hbl:=(Array.getElem?_eq_some_iff.1 h.blk).1
 have nb:(Value.slice a' r.log.length c').ownBlock≠some b:=bty h.blk ho (by decide)
 have hbW:=(hg1.block b hbl (fun e=>nb e.symm)).trans h.blk
 have hB:Below base V W1:=((Moved.refl V (fun k=>(Value.slice a' r.log.length c').ownBlock=some k)).grown hg1 (fun k _ e=>e)).to_below (fun k e=>(ho.lt k e).1) hb
 refine⟨g',cap',W1,hrun,coh hbW 4,foh hbW 4,⟨?_,hB⟩,fun k e=>(ho.lt k e).1,fun hbb hF=>⟨heap_setCell_same _ _ _ _ _ _ hbW, ?_, ?_⟩⟩
 ·exact (ho1.lt g' (by rfl)).1
 ·refine ownsRow_setCell_other (a:=⟨b,4,none⟩) (oon h.hm fun k e=>hB.block k (hF k e)) (bty h.blk h.hm (by decide)) _
 ·have hr:=ownsRow_setCell_other (a:=⟨b,4,none⟩) ho1 (bty hbW ho1 (by decide)) (.slice (some ⟨g',0,none⟩) (r.log.length+1) cap')
  unfold LogOwn
  rw[List.length_append,entsNums_snoc];exact obs hr (Nat.zero_le _)
theorem RR.commit {V:World}{b:Nat}{r:Rep}{vm vl:Value}(h:RR V b r vm vl)(k:Nat):RR (V.setCell ⟨b,6,none⟩ (.int .i64 (k:Int))) b { r with commit:=k } vm vl :=
 ⟨heap_setCell_same _ _ _ _ _ _ h.blk,ownsRow_setCell_other (a:=⟨b,6,none⟩) h.hm (bty h.blk h.hm (by decide)) _,ownsRow_setCell_other (a:=⟨b,6,none⟩) h.hl (bty h.blk h.hl (by decide)) _⟩
theorem MsgsOwn.beB {V:World}{b:Nat}{base:Nat}{v:Value}{ms:List Msg}{cs:Array Value}(h:MsgsOwn V base v ms)(hb:V.heap[b]?=some (.cells cs 199))(j:Nat)(u:Value):MsgsOwn (V.setCell ⟨b,j,none⟩ u) base v ms:=by
 obtain⟨ws,h1,h2,h3⟩:=h;exact⟨ws,h1,ownsRow_setCell_other (a:=⟨b,j,none⟩) h2 (bty hb h2 (by decide)) _,fun t ht=>⟨ownsRow_setCell_other (a:=⟨b,j,none⟩) (h3 t ht).1 (bty hb (h3 t ht).1 (by decide)) _,ownsRow_setCell_other (a:=⟨b,j,none⟩) (h3 t ht).2 (bty hb (h3 t ht).2 (by decide)) _⟩⟩
theorem RR.offMsg {W W3:World}{b base:Nat}{r:Rep}{vm vl v:Value}{ms:List Msg}(h:RR W b r vm vl)(hv:MsgsOwn W base v ms)(hM:Moved W W3 (fun k=>v.ownBlock=some k)):RR W3 b r vm vl:=by
 obtain⟨ws,h1,h2,h3⟩:=hv;exact⟨(hM.block b (Array.getElem?_eq_some_iff.1 h.blk).1 (bty h.blk h2 (by decide))).trans h.blk,hM.owns h.hm fun k hk hS=>otw h.hm h2 (by decide) k hk hS,hM.owns h.hl fun k hk hS=>otw h.hl h2 (by decide) k hk hS⟩
theorem Moved.ofBelow {w w' U:World}{S:Nat→Prop}(h:Moved w w' S)(hb:Below w.heap.size w' U)(hs:w'.heap.size≤U.heap.size):Moved w U S :=
 ⟨hb.os.trans h.os,hb.tape.trans h.tape,hb.output.trans h.output,Nat.le_trans h.size hs,fun k hk hS=>(hb.block k hk).trans (h.block k hk hS)⟩
theorem refAdds_any (b:Nat)(r:Rep)(vm vl:Value)(own:Int)(x:Ent)(w:World)(h:RR w b r vm vl)(hl:r.mems.length≤5)(hn:r.mems.Nodup)(hp:∀ x∈r.mems,0≤x)(hmem:own∈r.mems)(hb24:r.log.length<24)(hcm:r.commit≤r.log.length)(hok:∀ y∈r.log++[x],0≤y.client∧y.client≤1000) :
  Calls Tryz.prog 211 #[.pointer (some ⟨b,0,none⟩),.int .i64 own,.agg #[.int .i64 x.client,.int .i64 x.seq,.int .i64 x.kind,.int .i64 x.key,.int .i64 x.value]] w fun e w'=>RRTo w b vm vl e w' (r.put own x):=by
 obtain⟨r1,hr1⟩:∃ r1:Rep,r1={ r with log:=r.log++[x] }:=⟨_,rfl⟩
 have hr1l:r1.log=r.log++[x]:=by rw[hr1]
 have hr1m:r1.mems=r.mems:=by rw[hr1]
 have hr1c:r1.commit=r.commit:=by rw[hr1]
 have hr1n:r1.log.length=r.log.length+1:=by rw[hr1l,List.length_append];rfl
 obtain⟨B,hB,hbB,hMB⟩:=bm1 w #[.int .i64 x.client,.int .i64 x.seq,.int .i64 x.kind,.int .i64 x.key,.int .i64 x.value] 42
 have hblw:b<w.heap.size:=(Array.getElem?_eq_some_iff.1 h.blk).1
 have hvmw:InF (fun k=>k<w.heap.size) vm:=fun k e=>(Array.getElem?_eq_some_iff.1 (obc h.hm e).choose_spec.1).1
 have hRB:=h.below hbB
 obtain⟨al,cl,hvl⟩:=osh h.hl
 subst hvl;obtain⟨am,cm,hvm⟩:=osh h.hm
 subst hvm;have b4:B.cell? ⟨b,4,none⟩=some (.slice al r.log.length cl):=coh hRB.blk 4
 have k0:B.cell? ⟨w.heap.size,0,none⟩=some (.int .i64 x.client):=coh hMB 0
 have k1:B.cell? ⟨w.heap.size,1,none⟩=some (.int .i64 x.seq):=coh hMB 1
 have k2:B.cell? ⟨w.heap.size,2,none⟩=some (.int .i64 x.kind):=coh hMB 2
 have k3:B.cell? ⟨w.heap.size,3,none⟩=some (.int .i64 x.key):=coh hMB 3
 have k4:B.cell? ⟨w.heap.size,4,none⟩=some (.int .i64 x.value):=coh hMB 4
 have hBs:=hbB.size
 have fin:∀ V a' c' g,Below B.heap.size B V→V.ownsRow B.heap.size 42 5 (.slice a' r.log.length c') r.log.length (ints (entsNums r.log))→V.heap[g]?=some (.cells #[.int .i64 x.client,.int .i64 x.seq,.int .i64 x.kind,.int .i64 x.key,.int .i64 x.value] 42) →
   ∃ g' cap' W1,(∀ ty,(Builtin.append_ #[44,44] ty #[.slice a' r.log.length c',.slice (some ⟨g,0,none⟩) 1 1]).run Tryz.prog V=.ok (.slice (some ⟨g',0,none⟩) (r.log.length+1) cap') W1)∧W1.cell? ⟨b,4,none⟩=some (.slice al r.log.length cl)∧W1.frozen? ⟨b,4,none⟩=false ∧
    RR (W1.setCell ⟨b,4,none⟩ (.slice (some ⟨g',0,none⟩) (r.log.length+1) cap')) b r1 (.slice am r.mems.length cm) (.slice (some ⟨g',0,none⟩) (r.log.length+1) cap')∧Moved w (W1.setCell ⟨b,4,none⟩ (.slice (some ⟨g',0,none⟩) (r.log.length+1) cap')) (fun k=>k=b)∧w.heap.size≤g':=fun V a' c' g hbV ho hg=>by
  obtain⟨g',cap',W1,q1,q2,q3,q4, -,q5⟩:=(hRB.below hbV).add ho hg hbV.size (by omega)
  have hbW:Below w.heap.size w W1:=(hbB.trans (hbV.mono hBs)).trans (q4.2.mono hBs)
  refine⟨g',cap',W1,q1,q2,q3, ?_,((Moved.refl w (fun k=>k=b)).below hbW).setCell ⟨b,4,none⟩ rfl _,by omega⟩
  rw[hr1];exact q5 (by omega) (fun k e=>by have:=hvmw k e;omega)
 have HIa:Hid (∀ W,W=B.drew→Calls Tryz.prog 208 #[.slice al r.log.length cl] W fun e w'=>∃ a' c',e=.returned (.slice a' r.log.length c')∧(w'.cell? ⟨w.heap.size,0,none⟩=some (.int .i64 x.client)∧w'.cell? ⟨w.heap.size,1,none⟩=some (.int .i64 x.seq)∧w'.cell? ⟨w.heap.size,2,none⟩=some (.int .i64 x.kind)∧w'.cell? ⟨w.heap.size,3,none⟩=some (.int .i64 x.key)∧w'.cell? ⟨w.heap.size,4,none⟩=some (.int .i64 x.value))∧∃ g' cap' W1,(∀ ty,(Builtin.append_ #[44,44] ty #[.slice a' r.log.length c',.slice (some ⟨w'.heap.size,0,none⟩) 1 1]).run Tryz.prog (w'.alloc (.cells #[.int .i64 x.client,.int .i64 x.seq,.int .i64 x.kind,.int .i64 x.key,.int .i64 x.value] 42))=.ok (.slice (some ⟨g',0,none⟩) (r.log.length+1) cap') W1)∧W1.cell? ⟨b,4,none⟩=some (.slice al r.log.length cl)∧W1.frozen? ⟨b,4,none⟩=false ∧
    RR (W1.setCell ⟨b,4,none⟩ (.slice (some ⟨g',0,none⟩) (r.log.length+1) cap')) b r1 (.slice am r.mems.length cm) (.slice (some ⟨g',0,none⟩) (r.log.length+1) cap')∧Moved w (W1.setCell ⟨b,4,none⟩ (.slice (some ⟨g',0,none⟩) (r.log.length+1) cap')) (fun k=>k=b)∧w.heap.size≤g'):=hideA fun W hW=>by
  subst hW;refine (refEntries_any (.slice al r.log.length cl) r.log B.drew (hRB.below (Below.refl _ _).drew).hl (by omega)).mono ?_
  rintro e V ⟨v',rfl,ho,hbV⟩;obtain⟨a',c',hv'⟩:=osh ho
  subst hv';have hbV':Below B.heap.size B V:=(Below.refl _ B).drew.trans hbV
  have hA:Below V.heap.size V (V.alloc (.cells #[.int .i64 x.client,.int .i64 x.seq,.int .i64 x.kind,.int .i64 x.key,.int .i64 x.value] 42)):=(Below.refl _ V).alloc (Nat.le_refl _) _
  exact⟨a',c',rfl,⟨cell_later hbV' k0,cell_later hbV' k1,cell_later hbV' k2,cell_later hbV' k3,cell_later hbV' k4⟩,fin _ a' c' _ (hbV'.trans (hA.mono hbV'.size)) (okp ho fun z _ hz=>hA.block z hz) (hnw _ _)⟩
 have HIb:Hid (Calls Tryz.prog 208 #[.slice al r.log.length cl] (B.alloc (.cells #[.int .i64 x.client,.int .i64 x.seq,.int .i64 x.kind,.int .i64 x.key,.int .i64 x.value] 42)).drew fun e w'=>∃ a' c',e=.returned (.slice a' r.log.length c')∧∃ g' cap' W1,(∀ ty,(Builtin.append_ #[44,44] ty #[.slice a' r.log.length c',.slice (some ⟨B.heap.size,0,none⟩) 1 1]).run Tryz.prog w'=.ok (.slice (some ⟨g',0,none⟩) (r.log.length+1) cap') W1)∧W1.cell? ⟨b,4,none⟩=some (.slice al r.log.length cl)∧W1.frozen? ⟨b,4,none⟩=false ∧
    RR (W1.setCell ⟨b,4,none⟩ (.slice (some ⟨g',0,none⟩) (r.log.length+1) cap')) b r1 (.slice am r.mems.length cm) (.slice (some ⟨g',0,none⟩) (r.log.length+1) cap')∧Moved w (W1.setCell ⟨b,4,none⟩ (.slice (some ⟨g',0,none⟩) (r.log.length+1) cap')) (fun k=>k=b)∧w.heap.size≤g'):=hideA (by
  have hA:Below B.heap.size B (B.alloc (.cells #[.int .i64 x.client,.int .i64 x.seq,.int .i64 x.kind,.int .i64 x.key,.int .i64 x.value] 42)).drew:=((Below.refl _ B).alloc (Nat.le_refl _) _).drew
  refine (refEntries_any (.slice al r.log.length cl) r.log _ (hRB.below hA).hl (by omega)).mono ?_
  rintro e V ⟨v',rfl,ho,hbV⟩;obtain⟨a',c',hv'⟩:=osh ho
  subst hv';have hbV':Below B.heap.size B V:=hA.trans (hbV.mono hA.size)
  exact⟨a',c',rfl,fin V a' c' B.heap.size hbV' (obs ho hA.size) ((hbV.block _ (by simp)).trans (hnw _ _))⟩)
 have y4:∀ o,(B.alloc o).cell? ⟨b,4,none⟩=some (.slice al r.log.length cl):=fun o=>cell_later ((Below.refl _ B).alloc (Nat.le_refl _) o) b4
 have HP:Hid (r.put own x=match nextOf r.mems own with|some nx=>(r1,[r1.forward own nx r.log.length])|none=>r1.commitAll own):=hideA (by rw[hr1];rfl)
 have HSt:Hid (∀ W vl',RR W b r1 (.slice am r.mems.length cm) vl'→Calls Tryz.prog 175 #[.pointer (some ⟨b,0,none⟩),.int .i64 own] W fun e w'=>e=.returned (.tuple #[.int .i64 (rankOf r.mems own),.bool (decide (0≤rankOf r.mems own) && decide (r1.lock≤r1.epoch))])∧∃ q,w'=W.drewN q):=hideA fun W vl' hR=>by
  have:=refStands_any b r1 _ vl' own W hR.rrp (by rw[hr1m];exact hl)
  rw[hr1m] at this
  exact this
 have HFw:Hid (∀ W vl',RR W b r1 (.slice am r.mems.length cm) vl'→Calls Tryz.prog 207 #[.pointer (some ⟨b,0,none⟩),.int .i64 own,.int .i64 (r.log.length:Int)] W fun e w'=>∃ vl2,e=.returned (mval (r1.forward own ((nextOf r.mems own).getD (-1)) r.log.length) (.slice none 0 0) vl2)∧w'.ownsRow W.heap.size 42 5 vl2 1 (ints (entsNums [r1.log.getD r.log.length Ent.zero]))∧Below W.heap.size W w'):=hideA fun W vl' hR=>by
  have:=refForward_any b r1 _ vl' own r.log.length W hR.rrp (by rw[hr1m];exact hl) (by omega) (by omega)
  rw[hr1m,nbOf_next hn hmem] at this
  exact this
 have HRp:Hid (∀ W k vl',k<r1.log.length→RR W b { r1 with commit:=k } (.slice am r.mems.length cm) vl'→Calls Tryz.prog 220 #[.pointer (some ⟨b,0,none⟩),.int .i64 own,.int .i64 (k:Int)] W fun e w'=>e=.returned (mval (r1.reply own k) (.slice none 0 0) (.slice none 0 0))∧Below W.heap.size W w'):=hideA fun W k vl' hk hR=>by
  have hy:r1.log.getD k Ent.zero∈r.log++[x]:=by
   rw[← hr1l,List.getD_eq_getElem?_getD,List.getElem?_eq_getElem hk]
   exact List.getElem_mem hk
  exact refReply_any b { r1 with commit:=k } _ vl' own k W hR.rrp hk (by show r1.log.length≤24;omega) (hok _ hy)
 have HAk:Hid (∀ W k vl',RR W b { r1 with commit:=k } (.slice am r.mems.length cm) vl'→Calls Tryz.prog 206 #[.pointer (some ⟨b,0,none⟩),.int .i64 own] W fun e w'=>∃ v,e=.returned v∧MsgsOwn w' W.heap.size v ({ r1 with commit:=k }.acks own)∧Below W.heap.size W w'):=hideA fun W k vl' hR=>refAcks_any b { r1 with commit:=k } _ vl' own W hR.rrp (by show r1.mems.length≤5;rw[hr1m];exact hl) (by show r1.mems.Nodup;rw[hr1m];exact hn) (by show ∀ x∈r1.mems,0≤x;rw[hr1m];exact hp)
 have hlast:=last_rank hn hmem
 have hrg:=rankTo_range r.mems own r.mems.length
 have hro:rankTo r.mems own r.mems.length=rankOf r.mems own:=rfl
 rw[hro] at hrg
 generalize rankOf r.mems own=R at *
 have hwr:IntKind.i64.wrap ((r.mems.length:Int)-1)=(r.mems.length:Int)-1:=by rw[IntKind.wrap_i64];omega
 have hwr2:IntKind.i64.wrap (((r.log.length+1:Nat):Int)-1)=(r.log.length:Int):=by rw[IntKind.wrap_i64];omega
 clear fin h hRB hMB hvmw hro;have HR1:=hideA (And.intro hr1c hr1n)
 clear hr1 hr1l hr1m hr1c hr1n;go_enter Tryz.func211,Tryz.ntmps211
 go_upto_region 1 with fail
 go_cut [6] (fun r6 wx=>r6=.slice none 0 0∧∃ g' cap',RR wx b r1 (.slice am r.mems.length cm) (.slice (some ⟨g',0,none⟩) (r.log.length+1) cap')∧Moved w wx (fun k=>k=b)∧w.heap.size≤g')
 case first =>
  go_region_law (first
   | (rw[if_pos (by simp[Region.wanted])];go_simp;go_at_call 208;refine (HIa.out _ rfl).mono ?_;rintro e V ⟨a',c',rfl,⟨v0,v1,v2,v3,v4⟩,g',cap',W1,hrun,q2,q3,q4⟩;have HQ:=hideA q4;clear q4)
   | (rw[if_pos (by simp[Region.wanted])];go_simp;go_at_call 208;refine HIb.out.mono ?_;rintro e V ⟨a',c',rfl,g',cap',W1,hrun,q2,q3,q4⟩;have HQ:=hideA q4;clear q4)
   | (refine op_append rfl (.tmp 15) (.tmp 17) 44 rfl _ _ _ _ (by simp[Act.eval]) (by simp[Act.eval]) hrun ?_))
  all_goals (
   go_wp2_with fail;go_meet;exact⟨rfl,g',cap',HQ.out⟩)
 case rest =>
  obtain⟨rfl,g',cap',hR,hMv,hg'⟩:=hcut;clear k0 k1 k2 k3 k4 b4 y4 HIa HIb;have HR:=hideA (And.intro hR (And.intro hMv hg'))
  have c3:wc.cell? ⟨b,3,none⟩=some (.slice am r.mems.length cm):=coh hR.blk 3
  have c4:wc.cell? ⟨b,4,none⟩=some (.slice (some ⟨g',0,none⟩) (r.log.length+1) cap'):=coh hR.blk 4
  clear hR hMv hg';by_cases hRl:R<(r.mems.length:Int)-1
  ·obtain⟨nx,hnx⟩:∃ nx,nextOf r.mems own=some nx:=by
    cases e:nextOf r.mems own with
    | none=>have:=hlast.2 e;omega
    | some nx=>exact⟨nx,rfl⟩
   rw[hnx] at HFw
   have HV:Hid (r.put own x=(r1,[r1.forward own nx r.log.length])):=hideA (by rw[HP.out,hnx])
   clear hlast;go_wp2_with fail;refine (HSt.out _ _ HR.out.1).mono ?_
   rintro e W ⟨rfl,q,rfl⟩;go_wp2_with fail;refine (HFw.out _ _ (HR.out.1.below (below_drewN (Below.refl _ _) q))).mono ?_
   rintro e Y ⟨vl2,rfl,ho,hbY⟩;have HY:=hideA (And.intro ho hbY)
   unfold mval
   obtain⟨a9,c9,hv9⟩:=osh ho
   subst hv9;clear ho hbY;go_wp2_with fail;go_ret;rw[HV.out];have hbw:Below wc.heap.size wc Y:=(below_drewN (Below.refl _ _) q).trans HY.out.2
   have hbA:Below Y.heap.size Y (Y.alloc (.cells (mcells (r1.forward own nx r.log.length,.slice none 0 0,.slice a9 1 c9)).toArray 134)):=(Below.refl _ Y).alloc (Nat.le_refl _) _
   have hbwA:=hbw.trans (hbA.mono hbw.size)
   have hws:=HR.out.2.1.size
   refine⟨_,_,_,rfl,HR.out.1.below hbwA,MsgsOwn.one _ (.slice none 0 0) (.slice a9 1 c9) (hnw _ _) (Nat.le_trans hws hbw.size) (World.ownsRow_nil _ _ _ _) (obs (okp HY.out.1 fun z _ hz=>hbA.block z hz) (Nat.zero_le _)),HR.out.2.1.ofBelow (hbwA.mono hws) hbwA.size,Grows.refl _ _,fun k e=>.inr ?_⟩
   have:g'=k:=by simpa [Value.ownBlock] using e
   have:=HR.out.2.2
   omega
  ·have hnx:nextOf r.mems own=none:=hlast.1 (by omega)
   have HV:Hid (r.put own x=r1.commitAll own):=hideA (by rw[HP.out,hnx])
   clear hlast;go_wp2_with fail;refine (HSt.out _ _ HR.out.1).mono ?_
   rintro e W ⟨rfl,q,rfl⟩;go_wp2_with fail;go_loopw [9] (fun v wr=>∃ k:Nat,r.commit≤k∧k≤r1.log.length∧MsgsOwn wr w.heap.size v ((placesFrom r.commit k).map (r1.reply own))∧RR wr b { r1 with commit:=k } (.slice am r.mems.length cm) (.slice (some ⟨g',0,none⟩) (r.log.length+1) cap')∧Moved w wr (fun k=>k=b)) (fun _ wr=>match wr.cell? ⟨b,6,none⟩ with|some u=>r1.log.length-(intOf u).toNat|none=>0)
   case atStart =>
    refine⟨r.commit,Nat.le_refl _,by have:=HR1.out.2;omega,by rw[placesFrom_self];exact MsgsOwn.nil _ _, ?_,HR.out.2.1.ofBelow (below_drewN (Below.refl w.heap.size wc) q) (Nat.le_refl _)⟩
    have:=HR.out.1.below (below_drewN (Below.refl wc.heap.size wc) q)
    rw[show ({ r1 with commit:=r.commit }:Rep)=r1 by rw[← HR1.out.1]]
    exact this
   case round =>
    obtain⟨k,hk1,hk2,hm,hRk,hMk⟩:=hrel;obtain⟨a9,c9,hv9⟩:=hm.shape;subst hv9;have d6:wr.cell? ⟨b,6,none⟩=some (.int .i64 (k:Int)):=coh hRk.blk 6
    have d4:wr.cell? ⟨b,4,none⟩=some (.slice (some ⟨g',0,none⟩) (r.log.length+1) cap'):=coh hRk.blk 4
    have hmk:Hid (r1.log.length=r.log.length+1):=hideA HR1.out.2
    have HRk:=hideA (And.intro hm (And.intro hRk hMk))
    by_cases hlt:k<r1.log.length
    ·have hk3:(k:Int)<((r.log.length+1:Nat):Int):=by have:=hmk.out;omega
     have HC:Hid (∀ W,Below wr.heap.size wr W→Calls Tryz.prog 220 #[.pointer (some ⟨b,0,none⟩),.int .i64 own,.int .i64 (k:Int)] W fun e w'=>e=.returned (mval (r1.reply own k) (.slice none 0 0) (.slice none 0 0))∧∃ v3 W3,(∀ ty,(Builtin.append_ #[97,97] ty #[.slice a9 ((placesFrom r.commit k).map (r1.reply own)).length c9,.slice (some ⟨w'.heap.size,0,none⟩) 1 1]).run Tryz.prog (w'.alloc (.cells (mcells (r1.reply own k,.slice none 0 0,.slice none 0 0)).toArray 134))=.ok v3 W3)∧(∃ a3 n3 c3,v3=.slice a3 n3 c3)∧MsgsOwn W3 w.heap.size v3 ((placesFrom r.commit (k+1)).map (r1.reply own))∧RR W3 b { r1 with commit:=k } (.slice am r.mems.length cm) (.slice (some ⟨g',0,none⟩) (r.log.length+1) cap')∧Moved w W3 (fun k=>k=b)):=hideA fun W hbW=>by
      refine (HRp.out W k _ hlt (hRk.below hbW)).mono ?_
      rintro e w' ⟨rfl,hb'⟩;refine⟨rfl, ?_⟩
      have hws:=hMk.size
      have hb2:=hbW.trans (hb'.mono hbW.size)
      have hbA:Below w'.heap.size w' (w'.alloc (.cells (mcells (r1.reply own k,.slice none 0 0,.slice none 0 0)).toArray 134)):=(Below.refl _ w').alloc (Nat.le_refl _) _
      have hb3:=hb2.trans (hbA.mono hb2.size)
      have hone:MsgsOwn (w'.alloc (.cells (mcells (r1.reply own k,.slice none 0 0,.slice none 0 0)).toArray 134)) 0 (.slice (some ⟨w'.heap.size,0,none⟩) 1 1) [r1.reply own k]:=MsgsOwn.one _ (.slice none 0 0) (.slice none 0 0) (hnw _ _) (Nat.zero_le _) (World.ownsRow_nil _ _ _ _) (World.ownsRow_nil _ _ _ _)
      have hmW:=hm.below hb3
      obtain⟨v3,W3,hr,h3,hb4,hM4⟩:=MsgsOwn.plus hmW hone (by rw[List.length_map,placesFrom_len];simp;omega) (Nat.le_trans hws hb3.size)
      obtain⟨a3,c3,hv3⟩:=h3.shape;refine⟨v3,W3,hr,⟨_,_,_,hv3⟩, ?_,(hRk.below hb3).offMsg hmW hM4,(hMk.ofBelow (hb3.mono hws) hb3.size).ofBelow hb4 hM4.size⟩
      rw[placesFrom_snoc _ _ hk1,List.map_append];exact h3
     clear hm hRk hMk;go_wp2_with fail;go_quiet (fail)
     go_wp2_with fail;refine (HC.out _ (below_drewN (Below.refl _ _) nq)).mono ?_
     rintro e Y ⟨rfl,v3,W3,hrun,⟨a3,n3,c3',hv3⟩,hm3,hR3,hM3⟩;subst hv3;have HQ:=hideA (And.intro hm3 (And.intro hR3 hM3))
     have HRn:=hideA hrun;have f6:W3.cell? ⟨b,6,none⟩=some (.int .i64 (k:Int)):=coh hR3.blk 6
     have g6:=foh hR3.blk 6
     have hwk:IntKind.i64.wrap ((k:Int)+1)=((k+1:Nat):Int):=by rw[IntKind.wrap_i64];omega
     unfold mval
     clear hm3 hR3 hM3 hrun d6 d4;go_wp2_with (at_builtin;refine wpList_append_run rfl (.tmp 55) (.tmp 63) 97 rfl _ _ _ _ (by simp[Act.eval]) (by simp[Act.eval]) HRn.out ?_)
     go_wp2_with fail;go_roundw
     case rel=>exact⟨k+1,by omega,by omega,HQ.out.1.beB HQ.out.2.1.blk 6 _,HQ.out.2.1.commit (k+1),HQ.out.2.2.setCell ⟨b,6,none⟩ rfl _⟩
     case measure =>
      have e1:(W3.setCell ⟨b,6,none⟩ (.int .i64 ((k:Int)+1))).cell? ⟨b,6,none⟩=some (.int .i64 ((k:Int)+1)):=coh (HQ.out.2.1.commit (k+1)).blk 6
      have e2:wr.cell? ⟨b,6,none⟩=some (.int .i64 (k:Int)):=coh HRk.out.2.1.blk 6
      rw[e1,e2];simp[intOf]
      omega
    ·obtain rfl:k=r1.log.length:=by omega
     have hk3:¬ ((r1.log.length:Nat):Int)<((r.log.length+1:Nat):Int):=by have:=hmk.out;omega
     have HC:Hid (∀ W,Below wr.heap.size wr W→Calls Tryz.prog 206 #[.pointer (some ⟨b,0,none⟩),.int .i64 own] W fun e w'=>∃ a2 n2 c2,e=.returned (.slice a2 n2 c2)∧∃ v3 W3,(∀ ty,(Builtin.append_ #[97,97] ty #[.slice a9 ((placesFrom r.commit r1.log.length).map (r1.reply own)).length c9,.slice a2 n2 c2]).run Tryz.prog w'=.ok v3 W3)∧(∃ a3 n3 c3,v3=.slice a3 n3 c3)∧MsgsOwn W3 w.heap.size v3 ((placesFrom r.commit r1.log.length).map (r1.reply own)++{ r1 with commit:=r1.log.length }.acks own)∧RR W3 b { r1 with commit:=r1.log.length } (.slice am r.mems.length cm) (.slice (some ⟨g',0,none⟩) (r.log.length+1) cap')∧Moved w W3 (fun k=>k=b)):=hideA fun W hbW=>by
      refine (HAk.out W _ _ (hRk.below hbW)).mono ?_
      rintro e w' ⟨v2,rfl,hm2,hb'⟩;obtain⟨a2,c2,hv2⟩:=hm2.shape;subst hv2;refine⟨a2,_,c2,rfl, ?_⟩
      have hws:=hMk.size
      have hb2:=hbW.trans (hb'.mono hbW.size)
      have hmW:=hm.below hb2
      have hal:=acks_len { r1 with commit:=r1.log.length } own
      obtain⟨v3,W3,hr,h3,hb4,hM4⟩:=MsgsOwn.plus hmW hm2 (by rw[List.length_map,placesFrom_len];have:=hmk.out;omega) (Nat.le_trans hws hb2.size)
      obtain⟨a3,c3,hv3⟩:=h3.shape;exact⟨v3,W3,hr,⟨_,_,_,hv3⟩,h3,(hRk.below hb2).offMsg hmW hM4,(hMk.ofBelow (hb2.mono hws) hb2.size).ofBelow hb4 hM4.size⟩
     clear hm hRk hMk;go_wp2_with fail;go_quiet (fail)
     go_wp2_with fail;refine (HC.out _ (below_drewN (Below.refl _ _) nq)).mono ?_
     rintro e Y ⟨a2,n2,c2,rfl,v3,W3,hrun,⟨a3,n3,c3',hv3⟩,hm3,hR3,hM3⟩;subst hv3;have HQ:=hideA (And.intro hm3 (And.intro hR3 hM3))
     have HRn:=hideA hrun;clear hm3 hR3 hM3 hrun d6 d4;go_wp2_with (at_builtin;refine wpList_append_run rfl (.tmp 72) (.tmp 75) 97 rfl _ _ _ _ (by simp[Act.eval]) (by simp[Act.eval]) HRn.out ?_)
     go_wp2_with fail;go_ret;rw[HV.out];refine⟨_,_,_,rfl,HQ.out.2.1, ?_,HQ.out.2.2,Grows.refl _ _,fun k e=>.inr ?_⟩
     ·show MsgsOwn W3 w.heap.size _ ((placesFrom r1.commit r1.log.length).map (r1.reply own)++_)
      rw[HR1.out.1];exact HQ.out.1
     ·have:g'=k:=by simpa [Value.ownBlock] using e
      have:=HR.out.2.2
      omega
end Go.Proofs.YtgieeeeeiggoeaaGreat
