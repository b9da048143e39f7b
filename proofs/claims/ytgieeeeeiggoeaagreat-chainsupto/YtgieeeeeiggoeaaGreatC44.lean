import Derived.Test.YtgieeeeeiggoeaaGreatC43
set_option maxRecDepth 100000
set_option maxHeartbeats 8000000
namespace Go.Proofs.YtgieeeeeiggoeaaGreat
open Go.RowKit Go.Shelf
theorem RRTo.msgs {w w':World}{b:Nat}{r:Rep}{vm vl v:Value}{ms:List Msg}(h:RR w b r vm vl)(hb:Below w.heap.size w w')(hm:MsgsOwn w' w.heap.size v ms):RRTo w b vm vl (.returned v) w' (r,ms) :=
 ⟨_,vm,vl,rfl,h.below hb,hm,(Moved.refl w _).below hb,Grows.refl _ _,Grows.refl _ _⟩
theorem RRTo.before {w w1 w':World}{b:Nat}{vm vl:Value}{e:Ending}{p:Rep × List Msg}(hb:Below w.heap.size w w1)(h:RRTo w1 b vm vl e w' p):RRTo w b vm vl e w' p:=by
 obtain⟨v,vm',vl',rfl,h1,h2,h3,h4,h5⟩:=h;have hs:=hb.size
 refine⟨v,vm',vl',rfl,h1,h2.base hs,((Moved.refl w _).below hb).trans h3 (fun k _ e=>e),fun k e=>(h4 k e).imp id (fun q=>by omega),fun k e=>(h5 k e).imp id (fun q=>by omega)⟩
theorem any_take_snoc (f:Ent→Bool)(l:List Ent)(k:Nat)(hk:k<l.length):(l.take (k+1)).any f=((l.take k).any f || f (l.getD k Ent.zero)):=by
 rw[List.take_succ_eq_append_getElem hk,List.any_append];have:l.getD k Ent.zero=l[k]:=by rw[List.getD_eq_getElem?_getD,List.getElem?_eq_getElem hk];rfl
 rw[this];simp
theorem findIdx_at (f:Ent→Bool)(l:List Ent)(k:Nat)(hk:k<l.length)(h0:(l.take k).any f=false)(h1:f (l.getD k Ent.zero)=true):l.any f=true∧l.findIdx f=k:=by
 have hg:l.getD k Ent.zero=l[k]:=by rw[List.getD_eq_getElem?_getD,List.getElem?_eq_getElem hk];rfl
 rw[hg] at h1
 refine⟨List.any_eq_true.2 ⟨l[k],List.getElem_mem hk,h1⟩, ?_⟩
 rw[List.findIdx_eq hk];refine⟨h1,fun j hj => ?_⟩
 have:=List.any_eq_false.1 h0 l[j] (by
  rw[List.mem_take_iff_getElem];exact⟨j,by omega,rfl⟩)
 simpa using this
theorem refAsked_any (b:Nat)(r:Rep)(vm vl:Value)(own:Int)(x:Ent)(w:World)(h:RR w b r vm vl)(hl:r.mems.length≤5)(hn:r.mems.Nodup)(hp:∀ x∈r.mems,0≤x)(hmem:own∈r.mems)(hb24:r.log.length≤24)(hcm:r.commit≤r.log.length)(hok:∀ y∈r.log++[x],0≤y.client∧y.client≤1000) :
  Calls Tryz.prog 210 #[.pointer (some ⟨b,0,none⟩),.int .i64 own,.int .i64 (rankOf r.mems own),.agg #[.int .i64 x.client,.int .i64 x.seq,.int .i64 x.kind,.int .i64 x.key,.int .i64 x.value]] w fun e w'=>RRTo w b vm vl e w' (r.asked own x):=by
 have hrk:(0<rankOf r.mems own)↔r.mems.headD 0≠own:=by
  rw[rankOf_yes hn hmem];cases hmm:r.mems with
  | nil=>rw[hmm] at hmem;cases hmem
  | cons a t =>
   rw[List.idxOf_cons];show _↔a≠own
   by_cases e:a=own
   ·simp[e]
   ·have e2:(a == own)=false:=by simpa using e
    rw[e2];refine⟨fun _=>e,fun _ => ?_⟩
    show (0:Int)<((t.idxOf own+1:Nat):Int)
    omega
 have hh0:r.mems.getD 0 0=r.mems.headD 0:=by cases r.mems<;>rfl
 have hpos:0<r.mems.length:=List.length_pos_of_mem hmem
 have HA:Hid (r.asked own x=if (r.mems.headD 0)≠own then (r,[{ kind:=1,src:=own,dst:=r.mems.headD 0,log:=[x] }])
  else if r.log.any (isReq x) then
   if r.log.findIdx (isReq x)<r.commit then (r,[r.reply own (r.log.findIdx (isReq x))]) else (r,[])
  else if 24≤r.log.length∨r.log.any (isLater x) then (r,[])
  else r.put own x):=hideA rfl
 obtain⟨B,hB,hbB,hMB⟩:=bm1 w #[.int .i64 x.client,.int .i64 x.seq,.int .i64 x.kind,.int .i64 x.key,.int .i64 x.value] 42
 have HR:=hideA h;have hRB:=h.below hbB
 obtain⟨al,cl,hvl⟩:=osh h.hl
 subst hvl;obtain⟨am,cm,hvm⟩:=osh h.hm
 subst hvm;have k0:B.cell? ⟨w.heap.size,0,none⟩=some (.int .i64 x.client):=coh hMB 0
 have k1:B.cell? ⟨w.heap.size,1,none⟩=some (.int .i64 x.seq):=coh hMB 1
 have k2:B.cell? ⟨w.heap.size,2,none⟩=some (.int .i64 x.kind):=coh hMB 2
 have k3:B.cell? ⟨w.heap.size,3,none⟩=some (.int .i64 x.key):=coh hMB 3
 have k4:B.cell? ⟨w.heap.size,4,none⟩=some (.int .i64 x.value):=coh hMB 4
 have b3:B.cell? ⟨b,3,none⟩=some (.slice am r.mems.length cm):=coh hRB.blk 3
 have b4:B.cell? ⟨b,4,none⟩=some (.slice al r.log.length cl):=coh hRB.blk 4
 have b6:B.cell? ⟨b,6,none⟩=some (.int .i64 (r.commit:Int)):=coh hRB.blk 6
 have HMB:=hideA hMB;by_cases h1:r.mems.headD 0≠own
 ·have hR0:=hrk.2 h1
  have HV:Hid (r.asked own x=(r,[{ kind:=1,src:=own,dst:=r.mems.headD 0,log:=[x] }])):=hideA (by rw[HA.out,if_pos h1])
  obtain⟨am',cm',hvm',hmv⟩:=hRB.rrp.mems;cases hvm'
  obtain⟨b2,off,rfl,hc⟩:=hmv 0 hpos
  rw[hh0,Nat.add_zero] at hc
  have hp1:(0:Int)<(r.mems.length:Int):=by omega
  generalize r.mems.headD 0=hd at *
  generalize rankOf r.mems own=R at *
  have y3:∀ o,(B.alloc o).cell? ⟨b,3,none⟩=some (.slice (some ⟨b2,off,none⟩) r.mems.length cm):=fun o=>cell_later ((Below.refl _ B).alloc (Nat.le_refl _) o) b3
  have yc:∀ o,(B.alloc o).cell? ⟨b2,off,none⟩=some (.int .i64 hd):=fun o=>cell_later ((Below.refl _ B).alloc (Nat.le_refl _) o) hc
  clear h hRB hMB hmv hrk HA;go_enter Tryz.func210,Tryz.ntmps210
  go_wp2_with fail;go_region
  go_wp2_with fail;go_ret;rw[HV.out];have hb1:Below B.heap.size B (B.alloc (.cells #[.int .i64 x.client,.int .i64 x.seq,.int .i64 x.kind,.int .i64 x.key,.int .i64 x.value] 42)):=(Below.refl _ B).alloc (Nat.le_refl _) _
  have hb2:=(hb1.alloc (by simp) (.cells #[.int .i64 1,.int .i64 own,.int .i64 hd,.int .i64 0,.int .i64 0,.int .i64 0,.int .i64 0,.int .i64 0,.slice none 0 0,.slice (some ⟨B.heap.size,0,none⟩) 1 1] 134)).drew
  refine RRTo.msgs HR.out (hbB.trans (hb2.mono hbB.size)) (MsgsOwn.one (g:=B.heap.size+1) _ (.slice none 0 0) (.slice (some ⟨B.heap.size,0,none⟩) 1 1) ?_ (by have:=hbB.size;omega) (World.ownsRow_nil _ _ _ _) ⟨rfl,.inr ⟨B.heap.size,1,#[.int .i64 x.client,.int .i64 x.seq,.int .i64 x.kind,.int .i64 x.key,.int .i64 x.value],rfl,Nat.zero_le _, ?_,Nat.le_refl _,by decide,rfl,rfl⟩⟩)
  ·exact heap_new2 _ _ _
  ·exact (Below.heap_alloc _ _ _ (by simp)).trans (hnw _ _)
 ·have hR0:¬ 0<rankOf r.mems own:=fun e=>h1 (hrk.1 e)
  have HV0:Hid (r.asked own x=if r.log.any (isReq x) then (if r.log.findIdx (isReq x)<r.commit then (r,[r.reply own (r.log.findIdx (isReq x))]) else (r,[])) else if 24≤r.log.length∨r.log.any (isLater x) then (r,[]) else r.put own x):=hideA (by rw[HA.out,if_neg h1])
  have HRB:=hideA hRB;have HRp:Hid (∀ W k,Below B.heap.size B W→k<r.log.length→Calls Tryz.prog 220 #[.pointer (some ⟨b,0,none⟩),.int .i64 own,.int .i64 (k:Int)] W fun e w'=>e=.returned (mval (r.reply own k) (.slice none 0 0) (.slice none 0 0))∧Below W.heap.size W w'):=hideA fun W k hb hk=>refReply_any b r _ _ own k W (hRB.below hb).rrp hk hb24 (hok _ (List.mem_append_left _ (by rw[List.getD_eq_getElem?_getD,List.getElem?_eq_getElem hk];exact List.getElem_mem hk)))
  have HAd:Hid (∀ W,Below B.heap.size B W→r.log.length<24→Calls Tryz.prog 211 #[.pointer (some ⟨b,0,none⟩),.int .i64 own,.agg #[.int .i64 x.client,.int .i64 x.seq,.int .i64 x.kind,.int .i64 x.key,.int .i64 x.value]] W fun e w'=>RRTo w b (.slice am r.mems.length cm) (.slice al r.log.length cl) e w' (r.put own x)):=hideA fun W hb h24=>(refAdds_any b r _ _ own x W (hRB.below hb) hl hn hp hmem h24 hcm hok).mono fun e w' hq=>RRTo.before (hbB.trans (hb.mono hbB.size)) hq
  generalize rankOf r.mems own=R at *
  clear h hRB hMB hrk HA h1;go_enter Tryz.func210,Tryz.ntmps210
  go_wp2_with fail;go_loopw [9,10] (fun gr i wr=>∃ k:Nat,k≤r.log.length∧i=.int .i64 k∧gr=.bool ((r.log.take k).any (isLater x))∧(r.log.take k).any (isReq x)=false∧Below B.heap.size B wr) (fun _ i _=>r.log.length-(intOf i).toNat)
  case atStart=>exact⟨0,Nat.zero_le _,rfl,rfl,rfl,Below.refl _ _⟩
  case round =>
   obtain⟨k,hk,rfl,rfl,hno,hb⟩:=hrel;have HNo:=hideA hno;have c4:=cell_later hb b4
   have c6:=cell_later hb b6
   have m0:=cell_later hb k0
   have m1:=cell_later hb k1
   have m2:=cell_later hb k2
   have m3:=cell_later hb k3
   have m4:=cell_later hb k4
   clear hno;by_cases hlt:k<r.log.length
   ·have hk0:(0:Int)≤(k:Int):=by omega
    have hk1:(k:Int)<(r.log.length:Int):=by omega
    obtain⟨al',cl',hvl',hlv⟩:=(HRB.out.below hb).rrp.log
    cases hvl'
    obtain⟨b1,o1,rfl,l0,l1,l2,l3,l4⟩:=hlv k hlt
    have HL:=hideA (any_take_snoc (isLater x) r.log k hlt)
    have HQ:=hideA (any_take_snoc (isReq x) r.log k hlt)
    have HFi:Hid (isReq x (r.log.getD k Ent.zero)=true→r.log.any (isReq x)=true∧r.log.findIdx (isReq x)=k):=hideA (findIdx_at (isReq x) r.log k hlt HNo.out)
    have HLd:Hid (∀ y,isLater x y=(decide (y.client=x.client) && decide (x.seq<y.seq))):=hideA fun _=>rfl
    have HQd:Hid (∀ y,isReq x y=(decide (y.client=x.client) && decide (y.seq=x.seq))):=hideA fun _=>rfl
    obtain⟨E,hE,hbE,hME⟩:=bm1 wr #[.int .i64 (r.log.getD k Ent.zero).client,.int .i64 (r.log.getD k Ent.zero).seq,.int .i64 (r.log.getD k Ent.zero).kind,.int .i64 (r.log.getD k Ent.zero).key,.int .i64 (r.log.getD k Ent.zero).value] 42
    have e0:=coh hME 0
    have e1:=coh hME 1
    have n0:=cell_later hbE m0
    have n1:=cell_later hbE m1
    have n6:=cell_later hbE c6
    have hbE2:Below B.heap.size B E:=hb.trans (hbE.mono hb.size)
    generalize r.log.getD k Ent.zero=y at *
    have e0':E.cell? ⟨wr.heap.size,0,none⟩=some (.int .i64 y.client):=e0
    have e1':E.cell? ⟨wr.heap.size,1,none⟩=some (.int .i64 y.seq):=e1
    clear hlv hME e0 e1;by_cases hc:y.client=x.client
    ·have hc':(y.client == x.client)=true:=by simp[hc]
     have HC:=hideA hc;clear hc;by_cases hs:y.seq=x.seq
     ·have hs':(y.seq == x.seq)=true:=by simp[hs]
      have HFd:=hideA (HFi.out (by rw[HQd.out];simp[HC.out,hs]))
      clear hs;by_cases hcm2:k<r.commit
      ·have hcm3:(k:Int)<(r.commit:Int):=by omega
       have HV:Hid (r.asked own x=(r,[r.reply own k])):=hideA (by rw[HV0.out,if_pos HFd.out.1,HFd.out.2,if_pos hcm2])
       go_wp2_with fail;refine (HRp.out _ k hbE2 hlt).mono ?_
       rintro e Y ⟨rfl,hbY⟩;unfold mval
       clear e0' e1' n0 n1 n6;go_wp2_with fail;go_ret;rw[HV.out];have hbw:=(hbB.trans (hbE2.mono hbB.size)).trans (hbY.mono (Nat.le_trans hbB.size hbE2.size))
       refine RRTo.msgs HR.out (hbw.alloc hbw.size _) (MsgsOwn.one (g:=Y.heap.size) _ (.slice none 0 0) (.slice none 0 0) (hnw _ _) hbw.size (World.ownsRow_nil _ _ _ _) (World.ownsRow_nil _ _ _ _))
      ·have hcm3:¬ (k:Int)<(r.commit:Int):=by omega
       have HV:Hid (r.asked own x=(r,[])):=hideA (by rw[HV0.out,if_pos HFd.out.1,HFd.out.2,if_neg hcm2])
       go_wp2_with fail;go_ret;rw[HV.out];exact RRTo.still HR.out (hbB.trans (hbE2.mono hbB.size))
     ·have hs':(y.seq == x.seq)=false:=by simp[hs]
      have HNx:Hid ((r.log.take (k+1)).any (isReq x)=false):=hideA (by rw[HQ.out,HNo.out,HQd.out];simp[hs])
      generalize (r.log.take k).any (isLater x)=gg at *
      by_cases hgt:x.seq<y.seq
      ·have HG:Hid ((r.log.take (k+1)).any (isLater x)=true):=hideA (by rw[HL.out,HLd.out];simp[HC.out,hgt])
       cases gg
       all_goals (
        go_wp2_with fail;go_roundw
        case rel=>exact⟨k+1,by omega,by go_num,by rw[HG.out],HNx.out,hbE2⟩
        case measure=>simp[intOf];omega)
      ·have HG:Hid ((r.log.take (k+1)).any (isLater x)=gg):=hideA (by rw[HL.out,HLd.out];simp[hgt])
       cases gg
       all_goals (
        go_wp2_with fail;go_roundw
        case rel=>exact⟨k+1,by omega,by go_num,by rw[HG.out],HNx.out,hbE2⟩
        case measure=>simp[intOf];omega)
    ·have hc':(y.client == x.client)=false:=by simp[hc]
     have HNx:Hid ((r.log.take (k+1)).any (isReq x)=false):=hideA (by rw[HQ.out,HNo.out,HQd.out];simp[hc])
     generalize (r.log.take k).any (isLater x)=gg at *
     have HG:Hid ((r.log.take (k+1)).any (isLater x)=gg):=hideA (by rw[HL.out,HLd.out];simp[hc])
     cases gg
     all_goals (
      go_wp2_with fail;go_roundw
      case rel=>exact⟨k+1,by omega,by go_num,by rw[HG.out],HNx.out,hbE2⟩
      case measure=>simp[intOf];omega)
   ·obtain rfl:k=r.log.length:=by omega
    have HN2:Hid (r.log.any (isReq x)=false):=hideA (by have:=HNo.out;rw[List.take_length] at this;exact this)
    have HL2:Hid ((r.log.take r.log.length).any (isLater x)=r.log.any (isLater x)):=hideA (by rw[List.take_length])
    generalize (r.log.take r.log.length).any (isLater x)=gg at *
    by_cases h24:24≤r.log.length
    ·have h24':(24:Int)≤(r.log.length:Int):=by omega
     have HV:Hid (r.asked own x=(r,[])):=hideA (by rw[HV0.out,HN2.out,if_neg (by simp),if_pos (.inl h24)])
     cases gg
     all_goals (
      go_wp2_with fail;go_ret;rw[HV.out];exact RRTo.still HR.out (hbB.trans (hb.mono hbB.size)))
    ·have h24':¬ (24:Int)≤(r.log.length:Int):=by omega
     cases gg with
     | true =>
      have HV:Hid (r.asked own x=(r,[])):=hideA (by rw[HV0.out,HN2.out,if_neg (by simp),if_pos (.inr HL2.out.symm)])
      go_wp2_with fail;go_ret;rw[HV.out];exact RRTo.still HR.out (hbB.trans (hb.mono hbB.size))
     | false =>
      have HV:Hid (r.asked own x=r.put own x):=hideA (by rw[HV0.out,HN2.out,if_neg (by simp),if_neg (fun e=>e.elim h24 (fun e=>by rw[← HL2.out] at e;cases e))])
      go_wp2_with fail;refine (HAd.out _ hb (by omega)).mono ?_
      rintro e W hq;have HW:=hideA hq;obtain⟨v,vm',vl',rfl,q1,q2,q3⟩:=hq;obtain⟨a9,c9,hv9⟩:=q2.shape;subst hv9;clear q1 q2 q3;go_wp2_with fail;go_ret;rw[HV.out];exact HW.out
structure RepFit (r:Rep)(own:Int):Prop where
 ml:r.mems.length≤5
 nd:r.mems.Nodup
 pos:∀ x∈r.mems,0≤x
 l24:r.log.length≤24
 cm:r.commit≤r.log.length
 cl:∀ y∈r.log,0≤y.client∧y.client≤1000
 ep:0≤r.epoch∧r.epoch≤100000
theorem prevEq {l:List Int}{x y:Int}(hy:0≤y):(y=(prevOf l x).getD (-1))↔prevOf l x=some y:=by
 cases e:prevOf l x with
 | none =>
  show y = -1↔_
  constructor
  ·intro h;omega
  ·intro h;cases h
 | some a =>
  show y=a↔_
  rw[Option.some.injEq];exact eq_comm
theorem nextEq {l:List Int}{x y:Int}(hy:0≤y):(y=(nextOf l x).getD (-1))↔nextOf l x=some y:=by
 cases e:nextOf l x with
 | none =>
  show y = -1↔_
  constructor
  ·intro h;omega
  ·intro h;cases h
 | some a =>
  show y=a↔_
  rw[Option.some.injEq];exact eq_comm
theorem nextNeg {l:List Int}{x:Int}(hp:∀ x∈l,0≤x):(nextOf l x).getD (-1)<0↔nextOf l x=none:=by
 cases e:nextOf l x with
 | none=>simp
 | some a =>
  have:=hp a (by unfold nextOf at e;exact List.mem_of_getElem? e)
  simp
  omega
theorem refTakes_rest (b:Nat)(r:Rep)(vm vl:Value)(own:Int)(m:Msg)(a1:Option Addr)(d1:Nat)(a2:Option Addr)(d2:Nat)(w:World)(h:RR w b r vm vl)(hf:RepFit r own)(hlg:LogOwn w (.slice a2 m.log.length d2) m.log)(hk:m.kind=1∨m.kind=2∨m.kind=3)(hone:m.kind=1∨m.kind=2→m.log.length=1)(hsr:0≤m.src)(hps:0≤m.pos)(hcl:∀ y∈m.log,0≤y.client∧y.client≤1000) :
  Calls Tryz.prog 172 #[.pointer (some ⟨b,0,none⟩),.int .i64 own,.agg #[.int .i64 m.kind,.int .i64 m.src,.int .i64 m.dst,.int .i64 m.epoch,.int .i64 m.ballot,.int .i64 m.vote,.int .i64 m.pos,.int .i64 m.value,.slice a1 m.mems.length d1,.slice a2 m.log.length d2]] w fun e w'=>RRTo w b vm vl e w' (r.take own m):=by
 obtain⟨B,hB,hbB,hMB⟩:=msg_box w m (.slice a1 m.mems.length d1) (.slice a2 m.log.length d2)
 have hRB:=h.below hbB
 have HR:=hideA h;obtain⟨al,cl,hvl⟩:=osh h.hl
 subst hvl;obtain⟨am,cm,hvm⟩:=osh h.hm
 subst hvm;have k0:B.cell? ⟨w.heap.size,0,none⟩=some (.int .i64 m.kind):=coh hMB 0
 have k1:B.cell? ⟨w.heap.size,1,none⟩=some (.int .i64 m.src):=coh hMB 1
 have k3:B.cell? ⟨w.heap.size,3,none⟩=some (.int .i64 m.epoch):=coh hMB 3
 have k6:B.cell? ⟨w.heap.size,6,none⟩=some (.int .i64 m.pos):=coh hMB 6
 have k9:B.cell? ⟨w.heap.size,9,none⟩=some (.slice a2 m.log.length d2):=coh hMB 9
 have b1:B.cell? ⟨b,1,none⟩=some (.int .i64 r.epoch):=coh hRB.blk 1
 have b4:B.cell? ⟨b,4,none⟩=some (.slice al r.log.length cl):=coh hRB.blk 4
 have b6:B.cell? ⟨b,6,none⟩=some (.int .i64 (r.commit:Int)):=coh hRB.blk 6
 have f6:=foh hRB.blk 6
 have HS:Hid (∀ q,Calls Tryz.prog 175 #[.pointer (some ⟨b,0,none⟩),.int .i64 own] (B.drewN q) fun e w'=>e=.returned (.tuple #[.int .i64 (rankOf r.mems own),.bool (r.live own)])∧∃ q,w'=B.drewN q):=hideA fun q=>by
  have:=refStands_any b r _ _ own (B.drewN q) (hRB.below (below_drewN (Below.refl _ _) q)).rrp hf.ml
  rw[live_rank hf.nd] at this
  refine this.mono ?_
  rintro e w' ⟨h1,q2,rfl⟩;exact⟨h1,_,World.drewN_drewN _ _ _⟩
 have HN1:Hid (∀ q,Calls Tryz.prog 209 #[.pointer (some ⟨b,0,none⟩),.int .i64 own,.int .i64 (-1)] (B.drewN q) fun e w'=>e=.returned (.int .i64 ((prevOf r.mems own).getD (-1)))∧∃ q,w'=B.drewN q):=hideA fun q=>by
  have:=refNeighbour_any b r _ _ own (-1) (B.drewN q) (hRB.below (below_drewN (Below.refl _ _) q)).rrp hf.ml (.inl rfl)
  rw[nbOf_prev hf.nd] at this
  refine this.mono ?_
  rintro e w' ⟨h1,q2,rfl⟩;exact⟨h1,_,World.drewN_drewN _ _ _⟩
 have HN2:Hid (own∈r.mems→∀ q,Calls Tryz.prog 209 #[.pointer (some ⟨b,0,none⟩),.int .i64 own,.int .i64 1] (B.drewN q) fun e w'=>e=.returned (.int .i64 ((nextOf r.mems own).getD (-1)))∧∃ q,w'=B.drewN q):=hideA fun hm q=>by
  have:=refNeighbour_any b r _ _ own 1 (B.drewN q) (hRB.below (below_drewN (Below.refl _ _) q)).rrp hf.ml (.inr rfl)
  rw[nbOf_next hf.nd hm] at this
  refine this.mono ?_
  rintro e w' ⟨h1,q2,rfl⟩;exact⟨h1,_,World.drewN_drewN _ _ _⟩
 have HAk:Hid (∀ q,Calls Tryz.prog 206 #[.pointer (some ⟨b,0,none⟩),.int .i64 own] (B.drewN q) fun e w'=>RRTo w b (.slice am r.mems.length cm) (.slice al r.log.length cl) e w' (r,r.acks own)):=hideA fun q=>(refAcks_any b r _ _ own (B.drewN q) (hRB.below (below_drewN (Below.refl _ _) q)).rrp hf.ml hf.nd hf.pos).mono (by
  rintro e w' ⟨v,rfl,hm,hb⟩;have hbq:=below_drewN hbB q
  exact RRTo.msgs HR.out (hbq.trans (hb.mono hbq.size)) (hm.base hbq.size))
 have HAk2:Hid (∀ q k,Calls Tryz.prog 206 #[.pointer (some ⟨b,0,none⟩),.int .i64 own] ((B.drewN q).setCell ⟨b,6,none⟩ (.int .i64 ((k:Nat):Int))) fun e w'=>RRTo w b (.slice am r.mems.length cm) (.slice al r.log.length cl) e w' ({ r with commit:=k }, { r with commit:=k }.acks own)):=hideA fun q k=>by
  have hR2:=(hRB.below (below_drewN (Below.refl _ _) q)).commit k
  refine (refAcks_any b { r with commit:=k } _ _ own _ hR2.rrp hf.ml hf.nd hf.pos).mono ?_
  rintro e w' ⟨v,rfl,hm,hb⟩;have hbq:=below_drewN hbB q
  have hM:=((Moved.refl w (fun z=>z=b)).below hbq).setCell ⟨b,6,none⟩ rfl (.int .i64 ((k:Nat):Int))
  exact⟨v,_,_,rfl,hR2.below hb,hm.base hM.size,hM.ofBelow (hb.mono hM.size) hb.size,Grows.refl _ _,Grows.refl _ _⟩
 have hlB:LogAt B (.slice a2 m.log.length d2) m.log:=LogAt.of_owns (okp hlg fun z _ hz=>hbB.block z hz)
 have HAs:Hid (∀ q y,m.log=[y]→own∈r.mems→Calls Tryz.prog 210 #[.pointer (some ⟨b,0,none⟩),.int .i64 own,.int .i64 (rankOf r.mems own),.agg #[.int .i64 y.client,.int .i64 y.seq,.int .i64 y.kind,.int .i64 y.key,.int .i64 y.value]] (B.drewN q) fun e w'=>RRTo w b (.slice am r.mems.length cm) (.slice al r.log.length cl) e w' (r.asked own y)):=hideA fun q y hy hm=>(refAsked_any b r _ _ own y (B.drewN q) (hRB.below (below_drewN (Below.refl _ _) q)) hf.ml hf.nd hf.pos hm hf.l24 hf.cm (fun z hz=>by
  rcases List.mem_append.1 hz with e|e
  ·exact hf.cl z e
  ·exact hcl z (by rw[hy];exact e))).mono fun e w' hq=>RRTo.before (below_drewN hbB q) hq
 have HAd:Hid (∀ q y,m.log=[y]→own∈r.mems→r.log.length<24→Calls Tryz.prog 211 #[.pointer (some ⟨b,0,none⟩),.int .i64 own,.agg #[.int .i64 y.client,.int .i64 y.seq,.int .i64 y.kind,.int .i64 y.key,.int .i64 y.value]] (B.drewN q) fun e w'=>RRTo w b (.slice am r.mems.length cm) (.slice al r.log.length cl) e w' (r.put own y)):=hideA fun q y hy hm h24=>(refAdds_any b r _ _ own y (B.drewN q) (hRB.below (below_drewN (Below.refl _ _) q)) hf.ml hf.nd hf.pos hm h24 hf.cm (fun z hz=>by
  rcases List.mem_append.1 hz with e|e
  ·exact hf.cl z e
  ·exact hcl z (by rw[hy];exact e))).mono fun e w' hq=>RRTo.before (below_drewN hbB q) hq
 have hend:∀ q,RRTo w b (.slice am r.mems.length cm) (.slice al r.log.length cl) (.returned (.slice none 0 0)) (B.drewN q) (r,[]):=fun q=>RRTo.still HR.out (below_drewN hbB q)
 have HEnd:=hideA hend;have hk7:(m.kind == 7)=false:=by rcases hk with e|e|e<;>(rw[e];rfl)
 have hk13:(m.kind == 13)=false:=by rcases hk with e|e|e<;>(rw[e];rfl)
 have HTk:Hid (r.take own m=if m.kind=1 then (if m.log.length=1∧r.live own then r.asked own (m.log.headD Ent.zero) else (r,[])) else if m.kind=2 then r.takeForward own m else r.takeAck own m):=hideA (by
  unfold Rep.take
  rcases hk with e|e|e<;>simp[e])
 have hn:r.mems.length≤5:=hf.ml
 cases hlv:r.live own with
 | false =>
  have HV:Hid (r.take own m=(r,[])):=hideA (by
   rw[HTk.out];split
   ·rw[if_neg (by rw[hlv];simp)]
   ·split
    ·unfold Rep.takeForward
     rw[if_neg (by rw[hlv];simp)]
    ·unfold Rep.takeAck
     rw[if_neg (by rw[hlv];simp)])
  rw[hlv] at HS
  clear h hRB hMB hlB hlg hlv hend;go_enter Tryz.func172,Tryz.ntmps172
  go_wp2_with fail;go_quiet (fail)
  go_wp2_with fail;refine (HS.out _).mono ?_
  rintro e W ⟨rfl,q,rfl⟩;go_wp2_with fail;go_ret;rw[HV.out];exact HEnd.out q
 | true =>
  have hmem:own∈r.mems:=by
   unfold Rep.live at hlv
   rw[Bool.and_eq_true,decide_eq_true_eq] at hlv
   exact hlv.1
  replace HN2:=hideA (HN2.out hmem)
  have HPq:Hid ((m.src=(prevOf r.mems own).getD (-1))↔prevOf r.mems own=some m.src):=hideA (prevEq hsr)
  have HNq:Hid ((m.src=(nextOf r.mems own).getD (-1))↔nextOf r.mems own=some m.src):=hideA (nextEq hsr)
  have HNn:Hid ((nextOf r.mems own).getD (-1)<0↔nextOf r.mems own=none):=hideA (nextNeg hf.pos)
  have HLv:=hideA hlv;rw[hlv] at HS
  have HFd:Hid (r.takeForward own m=if r.live own∧prevOf r.mems own=some m.src∧m.log.length=1∧m.epoch=r.epoch then
   (if m.pos=r.log.length∧r.log.length<24 then r.put own (m.log.headD Ent.zero)
   else if m.pos<r.log.length∧(nextOf r.mems own=none∨m.pos<r.commit) then (r,r.acks own)
   else (r,[])) else (r,[])):=hideA rfl
  have HAc:Hid (r.takeAck own m=if r.live own∧nextOf r.mems own=some m.src∧m.epoch=r.epoch∧(r.commit:Int)<m.pos∧m.pos≤r.log.length then
   ({ r with commit:=m.pos.toNat }, { r with commit:=m.pos.toNat }.acks own) else (r,[])):=hideA rfl
  have HOk:=hideA hone;generalize (prevOf r.mems own).getD (-1)=P at *
  generalize (nextOf r.mems own).getD (-1)=N at *
  generalize rankOf r.mems own=R at *
  clear h hRB hMB hlg hlv hend hone;rcases hk with hk|hk|hk
  ·obtain⟨y,hy⟩:∃ y,m.log=[y]:=List.length_eq_one_iff.1 (HOk.out (.inl hk))
   have hml:m.log.length=1:=by rw[hy];rfl
   obtain⟨a9,c9,hv9,hc9⟩:=hlB;cases hv9
   obtain⟨b9,o9,rfl,l0,l1,l2,l3,l4⟩:=hc9 0 (by omega)
   rw[show m.log.getD 0 Ent.zero=y by rw[hy];rfl,Nat.zero_mul,Nat.add_zero] at l0 l1 l2 l3 l4
   have HV:Hid (r.take own m=r.asked own y):=hideA (by rw[HTk.out,if_pos hk,if_pos ⟨hml,HLv.out⟩,hy];rfl)
   have hk1:(m.kind == 1)=true:=by simp[hk]
   have HAs':=hideA (fun q=>HAs.out q y hy hmem)
   have HML:=hideA hml;rw[hml] at k9 hB
   rw[hml];clear hk hc9 hy hml;go_enter Tryz.func172,Tryz.ntmps172
   go_wp2_with fail;go_quiet (fail)
   go_wp2_with fail;refine (HS.out _).mono ?_
   rintro e W ⟨rfl,q,rfl⟩;go_wp2_with fail;refine (HN1.out _).mono ?_
   rintro e W ⟨rfl,q2,rfl⟩;go_wp2_with fail;refine (HN2.out _).mono ?_
   rintro e W ⟨rfl,q3,rfl⟩;go_wp2_with fail;refine (HAs'.out _).mono ?_
   rintro e W hq;have HW:=hideA hq;obtain⟨v,vm',vl',rfl,z1,z2,z3⟩:=hq;obtain⟨a9,c9,hv9⟩:=z2.shape;subst hv9;clear z1 z2 z3;go_wp2_with fail;go_ret;rw[HV.out];exact HW.out
  ·obtain⟨y,hy⟩:∃ y,m.log=[y]:=List.length_eq_one_iff.1 (HOk.out (.inr hk))
   have hml:m.log.length=1:=by rw[hy];rfl
   obtain⟨a9,c9,hv9,hc9⟩:=hlB;cases hv9
   obtain⟨b9,o9,rfl,l0,l1,l2,l3,l4⟩:=hc9 0 (by omega)
   rw[show m.log.getD 0 Ent.zero=y by rw[hy];rfl,Nat.zero_mul,Nat.add_zero] at l0 l1 l2 l3 l4
   have HV0:Hid (r.take own m=r.takeForward own m):=hideA (by rw[HTk.out,if_neg (by omega),if_pos hk])
   have hk1:(m.kind == 1)=false:=by simp[hk]
   have hk2:(m.kind == 2)=true:=by simp[hk]
   have hk3:(m.kind == 3)=false:=by simp[hk]
   have HAd':=hideA (fun q=>HAd.out q y hy hmem)
   have HY:Hid (m.log.headD Ent.zero=y):=hideA (by rw[hy];rfl)
   have HML:=hideA hml;rw[hml] at k9 hB
   rw[hml];clear hk hc9 hy hml;by_cases hs:m.src=P
   ·have hs':(m.src == P)=true:=by simp[hs]
    have HSs:=hideA hs;clear hs;by_cases he:m.epoch=r.epoch
    ·have he':(m.epoch == r.epoch)=true:=by simp[he]
     have HV1:Hid (r.take own m=if m.pos=r.log.length∧r.log.length<24 then r.put own y else if m.pos<r.log.length∧(nextOf r.mems own=none∨m.pos<r.commit) then (r,r.acks own) else (r,[])):=hideA (by rw[HV0.out,HFd.out,if_pos ⟨HLv.out,HPq.out.1 HSs.out,HML.out,he⟩,HY.out])
     clear he;by_cases hp1:m.pos=(r.log.length:Int)
     ·have hp1':(m.pos == (r.log.length:Int))=true:=by simp[hp1]
      by_cases h24:m.pos<24
      ·have HV:Hid (r.take own m=r.put own y):=hideA (by rw[HV1.out,if_pos ⟨hp1,by omega⟩])
       have HAd2:=hideA (fun q=>HAd'.out q (by omega))
       clear hp1;go_enter Tryz.func172,Tryz.ntmps172
       go_wp2_with fail;go_quiet (fail)
       go_wp2_with fail;refine (HS.out _).mono ?_
       rintro e W ⟨rfl,q,rfl⟩;go_wp2_with fail;refine (HN1.out _).mono ?_
       rintro e W ⟨rfl,q2,rfl⟩;go_wp2_with fail;refine (HN2.out _).mono ?_
       rintro e W ⟨rfl,q3,rfl⟩;go_wp2_with fail;go_quiet (fail)
       go_wp2_with fail;go_quiet (fail)
       go_wp2_with fail;refine (HAd2.out _).mono ?_
       rintro e W hq;have HW:=hideA hq;obtain⟨v,vm',vl',rfl,z1,z2,z3⟩:=hq;obtain⟨a9,c9,hv9⟩:=z2.shape;subst hv9;clear z1 z2 z3;go_wp2_with fail;go_ret;rw[HV.out];exact HW.out
      ·have HV:Hid (r.take own m=(r,[])):=hideA (by rw[HV1.out,if_neg (by omega),if_neg (by omega)])
       have hp2:¬ m.pos<(r.log.length:Int):=by omega
       have hp3:decide (m.pos<(r.log.length:Int))=false:=decide_eq_false hp2
       have h25:decide (m.pos<24)=false:=decide_eq_false h24
       clear hp1;go_enter Tryz.func172,Tryz.ntmps172
       go_wp2_with fail;go_quiet (fail)
       go_wp2_with fail;refine (HS.out _).mono ?_
       rintro e W ⟨rfl,q,rfl⟩;go_wp2_with fail;refine (HN1.out _).mono ?_
       rintro e W ⟨rfl,q2,rfl⟩;go_wp2_with fail;refine (HN2.out _).mono ?_
       rintro e W ⟨rfl,q3,rfl⟩;go_wp2_with fail;go_quiet (fail)
       go_wp2_with fail;go_quiet (fail)
       go_wp2_with fail;go_quiet (fail)
       go_wp2_with fail;go_ret;rw[HV.out];(try simp only [World.drewN_drewN])
       exact HEnd.out _
     ·have hp1':(m.pos == (r.log.length:Int))=false:=by simp[hp1]
      by_cases hp2:m.pos<(r.log.length:Int)
      ·by_cases hN:N<0
       ·have HV:Hid (r.take own m=(r,r.acks own)):=hideA (by rw[HV1.out,if_neg (fun e=>hp1 e.1),if_pos ⟨hp2,.inl (HNn.out.1 hN)⟩])
        clear hp1;go_enter Tryz.func172,Tryz.ntmps172
        go_wp2_with fail;go_quiet (fail)
        go_wp2_with fail;refine (HS.out _).mono ?_
        rintro e W ⟨rfl,q,rfl⟩;go_wp2_with fail;refine (HN1.out _).mono ?_
        rintro e W ⟨rfl,q2,rfl⟩;go_wp2_with fail;refine (HN2.out _).mono ?_
        rintro e W ⟨rfl,q3,rfl⟩;go_wp2_with fail;go_quiet (fail)
        go_wp2_with fail;go_quiet (fail)
        go_wp2_with fail;go_quiet (fail)
        go_wp2_with fail;refine (HAk.out _).mono ?_
        rintro e W hq;have HW:=hideA hq;obtain⟨v,vm',vl',rfl,z1,z2,z3⟩:=hq;obtain⟨a9,c9,hv9⟩:=z2.shape;subst hv9;clear z1 z2 z3;go_wp2_with fail;go_ret;rw[HV.out];exact HW.out
       ·by_cases hc:m.pos<(r.commit:Int)
        ·have HV:Hid (r.take own m=(r,r.acks own)):=hideA (by rw[HV1.out,if_neg (fun e=>hp1 e.1),if_pos ⟨hp2,.inr hc⟩])
         clear hp1;go_enter Tryz.func172,Tryz.ntmps172
         go_wp2_with fail;go_quiet (fail)
         go_wp2_with fail;refine (HS.out _).mono ?_
         rintro e W ⟨rfl,q,rfl⟩;go_wp2_with fail;refine (HN1.out _).mono ?_
         rintro e W ⟨rfl,q2,rfl⟩;go_wp2_with fail;refine (HN2.out _).mono ?_
         rintro e W ⟨rfl,q3,rfl⟩;go_wp2_with fail;go_quiet (fail)
         go_wp2_with fail;go_quiet (fail)
         go_wp2_with fail;go_quiet (fail)
         go_wp2_with fail;refine (HAk.out _).mono ?_
         rintro e W hq;have HW:=hideA hq;obtain⟨v,vm',vl',rfl,z1,z2,z3⟩:=hq;obtain⟨a9,c9,hv9⟩:=z2.shape;subst hv9;clear z1 z2 z3;go_wp2_with fail;go_ret;rw[HV.out];exact HW.out
        ·have HV:Hid (r.take own m=(r,[])):=hideA (by rw[HV1.out,if_neg (fun e=>hp1 e.1),if_neg (fun e=>e.2.elim (fun z=>hN (HNn.out.2 z)) hc)])
         clear hp1;go_enter Tryz.func172,Tryz.ntmps172
         go_wp2_with fail;go_quiet (fail)
         go_wp2_with fail;refine (HS.out _).mono ?_
         rintro e W ⟨rfl,q,rfl⟩;go_wp2_with fail;refine (HN1.out _).mono ?_
         rintro e W ⟨rfl,q2,rfl⟩;go_wp2_with fail;refine (HN2.out _).mono ?_
         rintro e W ⟨rfl,q3,rfl⟩;go_wp2_with fail;go_quiet (fail)
         go_wp2_with fail;go_quiet (fail)
         go_wp2_with fail;go_quiet (fail)
         go_wp2_with fail;go_ret;rw[HV.out];(try simp only [World.drewN_drewN])
         exact HEnd.out _
      ·have HV:Hid (r.take own m=(r,[])):=hideA (by rw[HV1.out,if_neg (fun e=>hp1 e.1),if_neg (fun e=>hp2 e.1)])
       have hp3:decide (m.pos<(r.log.length:Int))=false:=decide_eq_false hp2
       clear hp1;go_enter Tryz.func172,Tryz.ntmps172
       go_wp2_with fail;go_quiet (fail)
       go_wp2_with fail;refine (HS.out _).mono ?_
       rintro e W ⟨rfl,q,rfl⟩;go_wp2_with fail;refine (HN1.out _).mono ?_
       rintro e W ⟨rfl,q2,rfl⟩;go_wp2_with fail;refine (HN2.out _).mono ?_
       rintro e W ⟨rfl,q3,rfl⟩;go_wp2_with fail;go_quiet (fail)
       go_wp2_with fail;go_quiet (fail)
       go_wp2_with fail;go_quiet (fail)
       go_wp2_with fail;go_ret;rw[HV.out];(try simp only [World.drewN_drewN])
       exact HEnd.out _
    ·have he':(m.epoch == r.epoch)=false:=by simp[he]
     have HV:Hid (r.take own m=(r,[])):=hideA (by rw[HV0.out,HFd.out,if_neg (fun e=>he e.2.2.2)])
     clear he;go_enter Tryz.func172,Tryz.ntmps172
     go_wp2_with fail;go_quiet (fail)
     go_wp2_with fail;refine (HS.out _).mono ?_
     rintro e W ⟨rfl,q,rfl⟩;go_wp2_with fail;refine (HN1.out _).mono ?_
     rintro e W ⟨rfl,q2,rfl⟩;go_wp2_with fail;refine (HN2.out _).mono ?_
     rintro e W ⟨rfl,q3,rfl⟩;go_wp2_with fail;go_quiet (fail)
     go_wp2_with fail;go_quiet (fail)
     go_wp2_with fail;go_ret;rw[HV.out];(try simp only [World.drewN_drewN])
     exact HEnd.out _
   ·have hs':(m.src == P)=false:=by simp[hs]
    have HV:Hid (r.take own m=(r,[])):=hideA (by rw[HV0.out,HFd.out,if_neg (fun e=>hs (HPq.out.2 e.2.1))])
    clear hs;go_enter Tryz.func172,Tryz.ntmps172
    go_wp2_with fail;go_quiet (fail)
    go_wp2_with fail;refine (HS.out _).mono ?_
    rintro e W ⟨rfl,q,rfl⟩;go_wp2_with fail;refine (HN1.out _).mono ?_
    rintro e W ⟨rfl,q2,rfl⟩;go_wp2_with fail;refine (HN2.out _).mono ?_
    rintro e W ⟨rfl,q3,rfl⟩;go_wp2_with fail;go_quiet (fail)
    go_wp2_with fail;go_quiet (fail)
    go_wp2_with fail;go_ret;rw[HV.out];(try simp only [World.drewN_drewN])
    exact HEnd.out _
  ·have HV0:Hid (r.take own m=r.takeAck own m):=hideA (by rw[HTk.out,if_neg (by omega),if_neg (by omega)])
   have hk1:(m.kind == 1)=false:=by simp[hk]
   have hk2:(m.kind == 2)=false:=by simp[hk]
   have hk3:(m.kind == 3)=true:=by simp[hk]
   clear hk hlB;by_cases hs:m.src=N
   ·have hs':(m.src == N)=true:=by simp[hs]
    have HSs:=hideA hs;clear hs;by_cases he:m.epoch=r.epoch
    ·have he':(m.epoch == r.epoch)=true:=by simp[he]
     have HV1:Hid (r.take own m=if (r.commit:Int)<m.pos∧m.pos≤r.log.length then ({ r with commit:=m.pos.toNat }, { r with commit:=m.pos.toNat }.acks own) else (r,[])):=hideA (by
      rw[HV0.out,HAc.out];by_cases hz:(r.commit:Int)<m.pos∧m.pos≤r.log.length
      ·rw[if_pos hz,if_pos ⟨HLv.out,HNq.out.1 HSs.out,he,hz⟩]
      ·rw[if_neg hz,if_neg (fun e=>hz e.2.2.2)])
     clear he;by_cases hc:(r.commit:Int)<m.pos
     ·by_cases hp2:m.pos≤(r.log.length:Int)
      ·have HV:Hid (r.take own m=({ r with commit:=m.pos.toNat }, { r with commit:=m.pos.toNat }.acks own)):=hideA (by rw[HV1.out,if_pos ⟨hc,hp2⟩])
       have HAk3:Hid (∀ q,Calls Tryz.prog 206 #[.pointer (some ⟨b,0,none⟩),.int .i64 own] ((B.drewN q).setCell ⟨b,6,none⟩ (.int .i64 m.pos)) fun e w'=>RRTo w b (.slice am r.mems.length cm) (.slice al r.log.length cl) e w' ({ r with commit:=m.pos.toNat }, { r with commit:=m.pos.toNat }.acks own)):=hideA fun q=>by
        have:=HAk2.out q m.pos.toNat
        rw[show ((m.pos.toNat:Nat):Int)=m.pos by omega] at this
        exact this
       go_enter Tryz.func172,Tryz.ntmps172
       go_wp2_with fail;go_quiet (fail)
       go_wp2_with fail;refine (HS.out _).mono ?_
       rintro e W ⟨rfl,q,rfl⟩;go_wp2_with fail;refine (HN1.out _).mono ?_
       rintro e W ⟨rfl,q2,rfl⟩;go_wp2_with fail;refine (HN2.out _).mono ?_
       rintro e W ⟨rfl,q3,rfl⟩;go_wp2_with fail;go_quiet (fail)
       go_wp2_with fail;go_quiet (fail)
       go_wp2_with fail;refine (HAk3.out _).mono ?_
       rintro e W hq;have HW:=hideA hq;obtain⟨v,vm',vl',rfl,z1,z2,z3⟩:=hq;obtain⟨a9,c9,hv9⟩:=z2.shape;subst hv9;clear z1 z2 z3;go_wp2_with fail;go_ret;rw[HV.out];exact HW.out
      ·have HV:Hid (r.take own m=(r,[])):=hideA (by rw[HV1.out,if_neg (fun e=>hp2 e.2)])
       go_enter Tryz.func172,Tryz.ntmps172
       go_wp2_with fail;go_quiet (fail)
       go_wp2_with fail;refine (HS.out _).mono ?_
       rintro e W ⟨rfl,q,rfl⟩;go_wp2_with fail;refine (HN1.out _).mono ?_
       rintro e W ⟨rfl,q2,rfl⟩;go_wp2_with fail;refine (HN2.out _).mono ?_
       rintro e W ⟨rfl,q3,rfl⟩;go_wp2_with fail;go_quiet (fail)
       go_wp2_with fail;go_quiet (fail)
       go_wp2_with fail;go_ret;rw[HV.out];(try simp only [World.drewN_drewN])
       exact HEnd.out _
     ·have HV:Hid (r.take own m=(r,[])):=hideA (by rw[HV1.out,if_neg (fun e=>hc e.1)])
      have hc3:decide ((r.commit:Int)<m.pos)=false:=decide_eq_false hc
      go_enter Tryz.func172,Tryz.ntmps172
      go_wp2_with fail;go_quiet (fail)
      go_wp2_with fail;refine (HS.out _).mono ?_
      rintro e W ⟨rfl,q,rfl⟩;go_wp2_with fail;refine (HN1.out _).mono ?_
      rintro e W ⟨rfl,q2,rfl⟩;go_wp2_with fail;refine (HN2.out _).mono ?_
      rintro e W ⟨rfl,q3,rfl⟩;go_wp2_with fail;go_quiet (fail)
      go_wp2_with fail;go_quiet (fail)
      go_wp2_with fail;go_ret;rw[HV.out];(try simp only [World.drewN_drewN])
      exact HEnd.out _
    ·have he':(m.epoch == r.epoch)=false:=by simp[he]
     have HV:Hid (r.take own m=(r,[])):=hideA (by rw[HV0.out,HAc.out,if_neg (fun e=>he e.2.2.1)])
     clear he;go_enter Tryz.func172,Tryz.ntmps172
     go_wp2_with fail;go_quiet (fail)
     go_wp2_with fail;refine (HS.out _).mono ?_
     rintro e W ⟨rfl,q,rfl⟩;go_wp2_with fail;refine (HN1.out _).mono ?_
     rintro e W ⟨rfl,q2,rfl⟩;go_wp2_with fail;refine (HN2.out _).mono ?_
     rintro e W ⟨rfl,q3,rfl⟩;go_wp2_with fail;go_quiet (fail)
     go_wp2_with fail;go_quiet (fail)
     go_wp2_with fail;go_ret;rw[HV.out];(try simp only [World.drewN_drewN])
     exact HEnd.out _
   ·have hs':(m.src == N)=false:=by simp[hs]
    have HV:Hid (r.take own m=(r,[])):=hideA (by rw[HV0.out,HAc.out,if_neg (fun e=>hs (HNq.out.2 e.2.1))])
    clear hs;go_enter Tryz.func172,Tryz.ntmps172
    go_wp2_with fail;go_quiet (fail)
    go_wp2_with fail;refine (HS.out _).mono ?_
    rintro e W ⟨rfl,q,rfl⟩;go_wp2_with fail;refine (HN1.out _).mono ?_
    rintro e W ⟨rfl,q2,rfl⟩;go_wp2_with fail;refine (HN2.out _).mono ?_
    rintro e W ⟨rfl,q3,rfl⟩;go_wp2_with fail;go_quiet (fail)
    go_wp2_with fail;go_quiet (fail)
    go_wp2_with fail;go_ret;rw[HV.out];(try simp only [World.drewN_drewN])
    exact HEnd.out _
end Go.Proofs.YtgieeeeeiggoeaaGreat
