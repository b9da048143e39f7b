import Derived.Test.YtgieeeeeiggoeaaGreatC45
import Derived.Test.YtgieeeeeiggoeaaGreatC47
import Derived.Test.YtgieeeeeiggoeaaGreatC46
import Derived.Test.YtgieeeeeiggoeaaGreatC41
set_option maxRecDepth 100000
set_option maxHeartbeats 4000000
namespace Go.Proofs.YtgieeeeeiggoeaaGreat
open Go.RowKit Go.Shelf
def whoOk (x:Ent):Bool:=decide (0≤x.client) && decide (x.client≤3) && decide (0≤x.seq) && decide (x.seq≤999)
def whatOk (x:Ent):Bool:=decide (0≤x.key) && decide (x.key≤15) && decide (0≤x.value) && decide (x.value≤999)
theorem ok_parts (x:Ent):x.ok=(whoOk x && whatOk x && (decide (x.kind=1) || (decide (x.kind=2) && decide (x.value=0)))):=by
 unfold Ent.ok whoOk whatOk
 simp only [Bool.and_assoc]
theorem refEntryOK_any (x:Ent)(w:World):Calls Tryz.prog 134 #[.agg #[.int .i64 x.client,.int .i64 x.seq,.int .i64 x.kind,.int .i64 x.key,.int .i64 x.value]] w fun e w'=>e=.returned (.bool x.ok)∧Below w.heap.size w w':=by
 obtain⟨B,hB,hbB,hMB⟩:=bm1 w #[.int .i64 x.client,.int .i64 x.seq,.int .i64 x.kind,.int .i64 x.key,.int .i64 x.value] 42
 have k0:B.cell? ⟨w.heap.size,0,none⟩=some (.int .i64 x.client):=coh hMB 0
 have k1:B.cell? ⟨w.heap.size,1,none⟩=some (.int .i64 x.seq):=coh hMB 1
 have k2:B.cell? ⟨w.heap.size,2,none⟩=some (.int .i64 x.kind):=coh hMB 2
 have k3:B.cell? ⟨w.heap.size,3,none⟩=some (.int .i64 x.key):=coh hMB 3
 have k4:B.cell? ⟨w.heap.size,4,none⟩=some (.int .i64 x.value):=coh hMB 4
 have HO:=hideA (ok_parts x)
 have HW1:Hid (whoOk x=(decide (0≤x.client) && decide (x.client≤3) && decide (0≤x.seq) && decide (x.seq≤999))):=hideA rfl
 have HW2:Hid (whatOk x=(decide (0≤x.key) && decide (x.key≤15) && decide (0≤x.value) && decide (x.value≤999))):=hideA rfl
 generalize whoOk x=wh at *
 generalize whatOk x=wt at *
 clear hMB;go_enter Tryz.func134,Tryz.ntmps134
 go_upto_region 1 with fail
 go_cut [1,2,3] (fun p1 p2 p3 wx=>p1=.pointer (some ⟨w.heap.size,0,none⟩)∧p2=.bool false∧p3=.bool wh∧wx=B)
 case first =>
  by_cases h1:0≤x.client
  ·by_cases h2:x.client≤3
   ·by_cases h3:0≤x.seq
    ·by_cases h4:x.seq≤999
     ·have HV:Hid (wh=true):=hideA (by rw[HW1.out];simp[h1,h2,h3,h4])
      go_wp2_with fail;go_meet;exact⟨rfl,rfl,by rw[HV.out],rfl⟩
     ·have HV:Hid (wh=false):=hideA (by rw[HW1.out];simp[h4])
      go_wp2_with fail;go_meet;exact⟨rfl,rfl,by rw[HV.out],rfl⟩
    ·have HV:Hid (wh=false):=hideA (by rw[HW1.out];simp[h3])
     go_wp2_with fail;go_meet;exact⟨rfl,rfl,by rw[HV.out],rfl⟩
   ·have HV:Hid (wh=false):=hideA (by rw[HW1.out];simp[h2])
    go_wp2_with fail;go_meet;exact⟨rfl,rfl,by rw[HV.out],rfl⟩
  ·have HV:Hid (wh=false):=hideA (by rw[HW1.out];simp[h1])
   go_wp2_with fail;go_meet;exact⟨rfl,rfl,by rw[HV.out],rfl⟩
 case rest =>
  obtain⟨rfl,rfl,rfl,rfl⟩:=hcut;go_upto_region 2 with fail
  go_cut [1,2,3,4] (fun p1 p2 p3 p4 wx=>p1=.pointer (some ⟨w.heap.size,0,none⟩)∧p2=.bool false∧p3=.bool wh∧p4=.bool wt∧wx=wc)
  case first =>
   by_cases h1:0≤x.key
   ·by_cases h2:x.key≤15
    ·by_cases h3:0≤x.value
     ·by_cases h4:x.value≤999
      ·have HV:Hid (wt=true):=hideA (by rw[HW2.out];simp[h1,h2,h3,h4])
       go_wp2_with fail;go_meet;exact⟨rfl,rfl,rfl,by rw[HV.out],rfl⟩
      ·have HV:Hid (wt=false):=hideA (by rw[HW2.out];simp[h4])
       go_wp2_with fail;go_meet;exact⟨rfl,rfl,rfl,by rw[HV.out],rfl⟩
     ·have HV:Hid (wt=false):=hideA (by rw[HW2.out];simp[h3])
      go_wp2_with fail;go_meet;exact⟨rfl,rfl,rfl,by rw[HV.out],rfl⟩
    ·have HV:Hid (wt=false):=hideA (by rw[HW2.out];simp[h2])
     go_wp2_with fail;go_meet;exact⟨rfl,rfl,rfl,by rw[HV.out],rfl⟩
   ·have HV:Hid (wt=false):=hideA (by rw[HW2.out];simp[h1])
    go_wp2_with fail;go_meet;exact⟨rfl,rfl,rfl,by rw[HV.out],rfl⟩
  case rest =>
   obtain⟨rfl,rfl,rfl,rfl,rfl⟩:=hcut;clear HW1 HW2;cases wh with
   | false =>
    have HV:Hid (x.ok=false):=hideA (by rw[HO.out];rfl)
    go_wp2_with fail;go_ret;exact⟨by rw[HV.out];rfl,hbB⟩
   | true =>
    cases wt with
    | false =>
     have HV:Hid (x.ok=false):=hideA (by rw[HO.out];rfl)
     go_wp2_with fail;go_ret;exact⟨by rw[HV.out];rfl,hbB⟩
    | true =>
     cases t1:(x.kind == 1) with
     | true =>
      have HV:Hid (x.ok=true):=hideA (by rw[HO.out];simp at t1;simp[t1])
      go_wp2_with fail;go_ret;exact⟨by rw[HV.out];rfl,hbB⟩
     | false =>
      cases t2:(x.kind == 2) with
      | false =>
       have HV:Hid (x.ok=false):=hideA (by rw[HO.out];simp at t1 t2;simp[t1,t2])
       go_wp2_with fail;go_ret;exact⟨by rw[HV.out];rfl,hbB⟩
      | true =>
       cases t3:(x.value == 0) with
       | true =>
        have HV:Hid (x.ok=true):=hideA (by rw[HO.out];simp at t2 t3;simp[t2,t3])
        go_wp2_with fail;go_ret;exact⟨by rw[HV.out];rfl,hbB⟩
       | false =>
        have HV:Hid (x.ok=false):=hideA (by rw[HO.out];simp at t1 t2 t3;simp[t2,t3])
        go_wp2_with fail;go_ret;exact⟨by rw[HV.out];rfl,hbB⟩
theorem refAsk_any {w:World}{F:Nat→Prop}{y:Nat}{c:Clu}{E:Int}{g:Gh}(d:Int)(x:Ent)(h:RefAt w F y c)(hg:Good c E g)(hi : -9223372036854775808≤d∧d≤9223372036854775807) :
  Calls Tryz.prog 82 #[.pointer (some ⟨y,0,none⟩),.int .i64 d,.agg #[.int .i64 x.client,.int .i64 x.seq,.int .i64 x.kind,.int .i64 x.key,.int .i64 x.value]] w fun r w'=>r=.returned (.int .i64 (c.ask d x).2)∧RefAfter w F y (c.ask d x).1 w':=by
 have HA:=hideA h;have hn:=hg.nodes.n5
 obtain⟨B,hB,hbB,hMB⟩:=bm1 w #[.int .i64 x.client,.int .i64 x.seq,.int .i64 x.kind,.int .i64 x.key,.int .i64 x.value] 42
 have k0:B.cell? ⟨w.heap.size,0,none⟩=some (.int .i64 x.client):=coh hMB 0
 have k1:B.cell? ⟨w.heap.size,1,none⟩=some (.int .i64 x.seq):=coh hMB 1
 have k2:B.cell? ⟨w.heap.size,2,none⟩=some (.int .i64 x.kind):=coh hMB 2
 have k3:B.cell? ⟨w.heap.size,3,none⟩=some (.int .i64 x.key):=coh hMB 3
 have k4:B.cell? ⟨w.heap.size,4,none⟩=some (.int .i64 x.value):=coh hMB 4
 have HK:Hid (Calls Tryz.prog 133 #[.pointer (some ⟨y,0,none⟩),.int .i64 d] B fun e w'=>e=.returned (.tuple #[.int .i64 (kindOf c.reps.length d).1,.int .i64 (kindOf c.reps.length d).2])∧w'=B):=hideA (by
  obtain⟨br,ba,bm,vr,va,vm,vb,vt,vv,vc,h⟩:=h.below hbB
  obtain⟨ar,cr,hvr⟩:=osh h.rr
  subst hvr;exact refKind_any y c.reps.length _ cr d B (coh h.blk 0) hn hi)
 have HE:=hideA (refEntryOK_any x B)
 have HMB:=hideA hMB;by_cases hr:c.isRep d
 ·have hkd:kindOf c.reps.length d=(1,d):=by unfold kindOf;rw[if_pos ⟨hr.1,hr.2⟩]
  rw[hkd] at HK
  cases hok:x.ok with
  | false =>
   have H:Hid (c.ask d x=(c,6)):=hideA (by unfold Clu.ask;rw[if_neg (by simpa using hr),if_pos hok])
   rw[hok] at HE
   clear h hMB hkd hr hok;go_enter Tryz.func82,Tryz.ntmps82
   go_wp2_with fail;refine HK.out.mono ?_
   rintro e W ⟨rfl,rfl⟩;go_wp2_with fail;refine HE.out.mono ?_
   rintro e W2 ⟨rfl,hb2⟩;go_wp2_with fail;go_ret;rw[H.out];exact⟨rfl,RefAfter.still HA.out (hbB.trans (hb2.mono hbB.size))⟩
  | true =>
   have H:Hid (c.ask d x=(c.send [{ kind:=1,src:=300+x.client,dst:=d,log:=[x] }],0)):=hideA (by unfold Clu.ask;rw[if_neg (by simpa using hr),if_neg (by rw[hok];simp)])
   rw[hok] at HE
   have hcl:=ok_client hok
   have hwr:IntKind.i64.wrap (300+x.client)=300+x.client:=by rw[IntKind.wrap_i64];omega
   have hsent:∀ m∈[({ kind:=1,src:=300+x.client,dst:=d,log:=[x] }:Msg)],m.ok=true:=by
    intro m hm;rw[List.mem_singleton] at hm
    subst hm;obtain⟨d0,d1,_⟩:=rep_dst hg.nodes hr
    have hwf:MsgWF c.reps.length E { kind:=1,src:=300+x.client,dst:=d,log:=[x] }:=request_wf hok hg.nodes.E0 (by omega) ⟨d0,d1⟩
    exact hwf.ok hg.nodes.n5 hg.nodes.E2000
   have HS:Hid (∀ Y,Below w.heap.size w Y→Calls Tryz.prog 135 #[.pointer (some ⟨y,0,none⟩),.slice (some ⟨Y.heap.size+1,0,none⟩) 1 1] ((Y.alloc (.cells #[.int .i64 x.client,.int .i64 x.seq,.int .i64 x.kind,.int .i64 x.key,.int .i64 x.value] 42)).alloc (.cells #[.int .i64 1,.int .i64 (300+x.client),.int .i64 d,.int .i64 0,.int .i64 0,.int .i64 0,.int .i64 0,.int .i64 0,.slice none 0 0,.slice (some ⟨Y.heap.size,0,none⟩) 1 1] 134)) fun e w'=>(∃ v,e=.returned v)∧RefAfter w F y (c.send [{ kind:=1,src:=300+x.client,dst:=d,log:=[x] }]) w'):=hideA fun Y hbY=>by
    have hbT:=((hbY.alloc hbY.size (.cells #[.int .i64 x.client,.int .i64 x.seq,.int .i64 x.kind,.int .i64 x.key,.int .i64 x.value] 42)).alloc (by have:=hbY.size;simp;omega) (.cells #[.int .i64 1,.int .i64 (300+x.client),.int .i64 d,.int .i64 0,.int .i64 0,.int .i64 0,.int .i64 0,.int .i64 0,.slice none 0 0,.slice (some ⟨Y.heap.size,0,none⟩) 1 1] 134))
    have hlg:LogOwn ((Y.alloc (.cells #[.int .i64 x.client,.int .i64 x.seq,.int .i64 x.kind,.int .i64 x.key,.int .i64 x.value] 42)).alloc (.cells #[.int .i64 1,.int .i64 (300+x.client),.int .i64 d,.int .i64 0,.int .i64 0,.int .i64 0,.int .i64 0,.int .i64 0,.slice none 0 0,.slice (some ⟨Y.heap.size,0,none⟩) 1 1] 134)) (.slice (some ⟨Y.heap.size,0,none⟩) 1 1) [x]:=by
     refine⟨rfl,.inr ⟨Y.heap.size,1,#[.int .i64 x.client,.int .i64 x.seq,.int .i64 x.kind,.int .i64 x.key,.int .i64 x.value],rfl,Nat.zero_le _, ?_,Nat.le_refl _,by decide,rfl,rfl⟩⟩
     exact (Below.heap_alloc _ _ _ (by simp)).trans (hnw _ _)
    have hms:MsgsOwn _ 0 (.slice (some ⟨Y.heap.size+1,0,none⟩) 1 1) [{ kind:=1,src:=300+x.client,dst:=d,log:=[x] }]:=MsgsOwn.one { kind:=1,src:=300+x.client,dst:=d,log:=[x] } (.slice none 0 0) (.slice (some ⟨Y.heap.size,0,none⟩) 1 1) (heap_new2 _ _ _) (Nat.zero_le _) (World.ownsRow_nil _ _ _ _) hlg
    refine (refSend_any 0 _ _ (HA.out.below hbT) hg.bag hms hsent (by simp)).mono ?_
    rintro e w' ⟨h1,hB⟩;exact⟨h1,RefAfter.before HA.out hbT hB.after⟩
   clear h hMB hkd hr hok hsent;go_enter Tryz.func82,Tryz.ntmps82
   go_wp2_with fail;refine HK.out.mono ?_
   rintro e W ⟨rfl,rfl⟩;go_wp2_with fail;refine HE.out.mono ?_
   rintro e W2 ⟨rfl,hb2⟩;have hb3:=hbB.trans (hb2.mono hbB.size)
   have n0:=cell_later hb2 k0
   have n1:=cell_later hb2 k1
   have n2:=cell_later hb2 k2
   have n3:=cell_later hb2 k3
   have n4:=cell_later hb2 k4
   clear k0 k1 k2 k3 k4;go_wp2_with fail;refine (HS.out _ hb3).mono ?_
   rintro e W3 ⟨⟨v,rfl⟩,hC⟩;have HC:=hideA hC;clear hC;go_wp2_with fail;go_ret;rw[H.out];exact⟨rfl,HC.out⟩
 ·have H:Hid (c.ask d x=(c,4)):=hideA (by unfold Clu.ask;rw[if_pos hr])
  have hk1:(kindOf c.reps.length d).1≠1:=by
   unfold kindOf
   rw[if_neg (fun e=>hr ⟨e.1,e.2⟩)]
   split
   ·show (2:Int)≠1;omega
   ·split
    ·show (3:Int)≠1;omega
    ·show (0:Int)≠1;omega
  generalize (kindOf c.reps.length d).1=q1 at *
  generalize (kindOf c.reps.length d).2=q2 at *
  have hk2:(q1 == 1)=false:=by simpa using hk1
  clear h hMB hr hk1;go_enter Tryz.func82,Tryz.ntmps82
  go_wp2_with fail;refine HK.out.mono ?_
  rintro e W ⟨rfl,rfl⟩;go_wp2_with fail;go_ret;rw[H.out];exact⟨rfl,RefAfter.still HA.out hbB⟩
theorem frame_len {c:Clu}{E:Int}{g:Gh}(hg:Good c E g){f:List UInt8 × Bool}(hf:f∈c.bag):f.1.length≤100000:=by
 obtain⟨m,hm,h2⟩:=hg.frames f hf
 have hl:m.frame.length≤1000:=by
  have h5:=hm.1.mems5 hg.nodes.n5
  have h24:=hm.1.log.1
  unfold Msg.frame frame
  rw[List.length_append,body_length,sumOf_length];have:m.head.length=7:=rfl
  omega
 rcases h2 with q|⟨_,_,q⟩
 ·rw[q];omega
 ·omega
theorem cluDeliver_any {w:World}{F:Nat→Prop}{x:Nat}{c:Clu}{E:Int}{g:Gh}(d:Int)(h:CAt w F x c)(hg:Good c E g)(ht:c.told.length≤2999999999999) :
  Calls Tryz.prog 31 #[.pointer (some ⟨x,0,none⟩),.int .i64 d] w fun r w'=>r=.returned (.int .i64 (c.deliver d).2)∧CAfter w F x (c.deliver d).1 w':=by
 have HA:=hideA h;obtain⟨gs,cap,b,Fn,vr,va,vm,vb,vt,h⟩:=h;have hf:=bagHas_any x _ vr va vm vb vt c.bag d w h.bag
 by_cases hh:c.hasFrame d
 ·have e:decide (0≤d∧d<(c.bag.length:Int))=true:=decide_eq_true hh
  rw[e] at hf
  have hd:d=((d.toNat:Nat):Int):=by have:=hh.1;omega
  have hfm:=frameAt_mem hh
  have H:Hid (c.deliver d=(arrOf (c.gone d) (c.frameAt d).1,0)):=hideA (by
   unfold Clu.deliver arrOf
   rw[if_pos hh];cases msgOf (c.frameAt d).1<;>rfl)
  have HT:=hideA (bagTake_any x _ vr va vm vb vt c.bag d.toNat w h.bag (by have:=hh.1;have:=hh.2;omega) hg.bag)
  have hg2:=hg.gone d
  have HR:Hid (∀ W F',CAt W F' x (c.gone d)→Calls Tryz.prog 63 #[.pointer (some ⟨x,0,none⟩),.agg #[.string (bs (c.frameAt d).1),.bool (c.frameAt d).2]] W fun r w'=>(∃ v,r=.returned v)∧CAfter W F' x (arrOf (c.gone d) (c.frameAt d).1) w'):=hideA fun W F' hA=>arrive_any (c.frameAt d).1 (c.frameAt d).2 (frame_len hg hfm) hA hg2 ht (fun m hm=>hg.msg hfm hm)
  have HI:=hideA h;rw[← hd] at HT
  have hfr:(c.bag.getD d.toNat ([],false))=c.frameAt d:=rfl
  rw[hfr] at HT
  have hgo:({ c with bag:=c.bag.eraseIdx d.toNat }:Clu)=c.gone d:=rfl
  clear h e hd hfr;generalize c.frameAt d=fr at *
  go_enter Tryz.func31,Tryz.ntmps31
  go_wp2_with fail;refine hf.mono ?_
  rintro e w1 ⟨rfl,rfl⟩;clear hf;go_wp2_with fail;refine HT.out.mono ?_
  rintro e W ⟨rfl,hB⟩;obtain⟨F1,q1,q2,q3⟩:=HI.out.bagAfter _ hB
  rw[hgo] at q1
  have HQ:=hideA (And.intro q1 (And.intro q2 q3))
  clear hB q1 q2 q3;go_wp2_with fail;refine (HR.out W F1 HQ.out.1).mono ?_
  rintro e Z ⟨⟨v,rfl⟩,hC⟩;have HC:=hideA hC;clear hC;go_wp2_with fail;go_ret;rw[H.out];exact⟨rfl,CAfter.trans HQ.out.2.1 HQ.out.2.2 HC.out⟩
 ·have e:decide (0≤d∧d<(c.bag.length:Int))=false:=decide_eq_false hh
  rw[e] at hf
  have H:Hid (c.deliver d=(c,8)):=hideA (by unfold Clu.deliver;rw[if_neg hh])
  clear h e;go_enter Tryz.func31,Tryz.ntmps31
  go_wp2_with fail;refine hf.mono ?_
  rintro e w1 ⟨rfl,rfl⟩;clear hf;go_wp2_with fail;go_ret;rw[H.out];exact⟨rfl,CAfter.still HA.out (Below.refl _ _)⟩
def Clu.plainBag (c:Clu):Prop:=∀ f∈c.bag,∀ m,msgOf f.1=some m→(c.isRep m.dst∨c.upOf m.dst=none)∧(c.isRep m.dst→m.kind=1∨m.kind=2∨m.kind=3)
theorem Good.told' {c:Clu}{E:Int}{g:Gh}(h:Good c E g)(m:Msg):Good (c.tell m) E g:=by
 have ht:Nodes (c.tell m) E g:=by unfold Clu.tell;split;exact h.nodes.bag _ _;exact h.nodes
 have hst:stOf (c.tell m)=stOf c:=by unfold Clu.tell;split<;>rfl
 have hrl:(c.tell m).reps=c.reps:=by unfold Clu.tell;split<;>rfl
 have hbg:(c.tell m).bag=c.bag:=by unfold Clu.tell;split<;>rfl
 refine⟨ht,by rw[hbg];exact h.bag,fun f hf => ?_⟩
 rw[hbg] at hf
 obtain⟨m0,h1,h2⟩:=h.frames f hf
 exact⟨m0,by unfold Sent;rw[hst,hrl];exact h1,h2⟩
theorem takes_fit {c:Clu}{E:Int}{g:Gh}(hg:Good c E g){m:Msg}(hs:Sent c E g m):(∀ z∈(c.takes m).2,z.ok=true)∧(c.takes m).2.length≤100∧(c.takes m).1.bag=c.bag:=by
 have hb:(c.takes m).1.bag=c.bag:=by
  unfold Clu.takes
  split
  ·split
   ·rfl
   ·split<;>rfl
  ·rfl
 obtain⟨E',g',hl,ho⟩:=hg.nodes.takes hs
 refine⟨fun z hz=>(ho z hz).1.ok hl.nodes.n5 hl.nodes.E2000, ?_,hb⟩
 by_cases hup:c.upOf m.dst=some true
 ·have hu2:=upOf_nod c m.dst
  rw[hup] at hu2
  cases hp:nodPlace c.reps.length m.dst with
  | none=>rw[hp] at hu2;cases hu2
  | some j =>
   rw[hp] at hu2
   have hu3:(c.nod j).up=true:=by simpa using hu2.symm
   have hj:=nodPlace_lt hp
   rw[takes_nod hp hu3] at hl ⊢
   have hk:=nodOK hg j hj
   rw[nodPlace_num hp] at hk
   refine nodTake_len hk fun s hsm=>⟨E', ?_⟩
   rcases nod_at hp with ⟨_,h2,_⟩|⟨_,_,h3,_⟩|⟨h1,h2,h3,h4,h5⟩
   ·rw[h2] at hsm;cases hsm
   ·rw[h3] at hsm;cases hsm
   ·have hS:=hl.nodes.S m.dst h3
    rw[h4] at hsm
    cases hsm
    rw[h4] at hS
    simp only [Nod.take] at hS
    rw[h5,mas_setMas hg.nodes.m2 h3 h3,if_pos rfl] at hS
    exact hS
 ·unfold Clu.takes
  rw[if_neg hup];simp
theorem refDeliver_any {w:World}{F:Nat→Prop}{y:Nat}{c:Clu}{E:Int}{g:Gh}(d:Int)(h:RefAt w F y c)(hg:Good c E g)(hpl:c.plainBag)(ht:c.told.length≤2999999999999) :
  Calls Tryz.prog 84 #[.pointer (some ⟨y,0,none⟩),.int .i64 d] w fun r w'=>r=.returned (.int .i64 (c.deliver d).2)∧RefAfter w F y (c.deliver d).1 w':=by
 have HA:=hideA h;have Hlt:Hid (∀ k,F k→k<w.heap.size):=hideA fun k e=>h.lt' e
 obtain⟨br,ba,bm,vr,va,vm,vb,vt,vv,vc,h⟩:=h;obtain⟨ab,cb,rfl⟩:=osh h.bag
 have c3:w.cell? ⟨y,3,none⟩=some (.slice ab c.bag.length cb):=coh h.blk 3
 by_cases hh:c.hasFrame d
 ·have hh1:=hh.1
  have hh2:=hh.2
  have hfm:=frameAt_mem hh
  have hfl:=frame_len hg hfm
  have hmsg:∀ m,msgOf (c.frameAt d).1=some m→Sent c E g m:=fun m hm=>hg.msg hfm hm
  have hplm:=hpl _ hfm
  have HDv:Hid (c.deliver d=match msgOf (c.frameAt d).1 with|none=>(c.gone d,0)|some m=>((c.gone d).arrive m,0)):=hideA (by unfold Clu.deliver;rw[if_pos hh];cases msgOf (c.frameAt d).1<;>rfl)
  obtain⟨k,rfl⟩:∃ k:Nat,d=(k:Int):=⟨d.toNat,by omega⟩
  have hkl:k<c.bag.length:=by omega
  obtain⟨g1,cap,hv, -, -⟩:=h.bag.form (by omega)
  cases hv
  have hf:c.bag[k]?=some (c.frameAt (k:Int)):=by
   unfold Clu.frameAt
   rw[Int.toNat_natCast,List.getD_eq_getElem?_getD,List.getElem?_eq_getElem hkl]
   rfl
  have f0:=World.ownsRow.cellAt h.bag (k*2) (by omega)
  rw[(frVat c.bag k _ hf).1] at f0
  have HG:=hideA (refGone_any k HA.out hg.bag hkl)
  have hg2:=hg.gone (k:Int)
  have HD:Hid (∀ W,Calls Tryz.prog 139 #[.string (bs (c.frameAt (k:Int)).1)] W fun e w'=>Below W.heap.size W w'∧∃ mem log,e=.returned ((decOf (c.frameAt (k:Int)).1).value mem log)∧w'.ownsRow (W.heap.size+1) 3 1 mem (decOf (c.frameAt (k:Int)).1).ms.length (ints (decOf (c.frameAt (k:Int)).1).ms)∧w'.ownsRow (W.heap.size+1) 42 5 log (decOf (c.frameAt (k:Int)).1).es.length (ints (entsNums (decOf (c.frameAt (k:Int)).1).es))):=hideA fun W=>refDecode_any (c.frameAt (k:Int)).1 W (by omega)
  have hmo:=msgOf_dec (c.frameAt (k:Int)).1
  have HVl:Hid (∀ mem log,(decOf (c.frameAt (k:Int)).1).value mem log=.tuple #[mval (decMsg (c.frameAt (k:Int)).1) mem log,.int .i64 (decOf (c.frameAt (k:Int)).1).err]∧(decOf (c.frameAt (k:Int)).1).ms=(decMsg (c.frameAt (k:Int)).1).mems∧(decOf (c.frameAt (k:Int)).1).es=(decMsg (c.frameAt (k:Int)).1).log):=hideA fun mem log=>⟨rfl,rfl,rfl⟩
  generalize decMsg (c.frameAt (k:Int)).1=m at *
  generalize (decOf (c.frameAt (k:Int)).1).err=er at *
  have hrep:(c.gone (k:Int)).reps=c.reps:=rfl
  have hbg:(c.gone (k:Int)).bag.length≤200:=hg2.bag
  generalize (c.frameAt (k:Int)).1=L at *
  have h3:¬ (k:Int)<0:=by omega
  have h5:(0:Int)≤(k:Int):=by omega
  clear hh h hf hpl;go_enter Tryz.func84,Tryz.ntmps84
  go_wp2_with fail;refine HG.out.mono ?_
  rintro e W ⟨⟨v,rfl⟩,hC⟩;have HC:=hideA hC;clear hC f0 c3;go_wp2_with fail;refine (HD.out W).mono ?_
  rintro e Y ⟨hbY,mem,log,rfl,o1,o2⟩;obtain⟨z1,z2,z3⟩:=HVl.out mem log
  rw[z2] at o1
  rw[z3] at o2
  rw[z1];clear z1 z2 z3;obtain⟨a1,d1,rfl⟩:=osh o1
  obtain⟨a2,d2,rfl⟩:=osh o2
  have HO:=hideA (And.intro o1 o2)
  clear o1 o2 HD HVl;unfold mval
  go_upto_region 6 with fail
  obtain⟨X,hX,hbYX,hM⟩:=msg_box Y m (.slice a1 m.mems.length d1) (.slice a2 m.log.length d2)
  rw[hX];clear hX;have hbX:=hbY.trans (hbYX.mono hbY.size)
  have gM:=fun j=>coh hM j
  have HM:=hideA hM;have HRX:=hideA (HC.out.1.below hbX)
  clear hM;cases her:(er == 0) with
  | false =>
   have N0:Hid (¬ er=0):=hideA (by simpa using her)
   have H:Hid (c.deliver (k:Int)=(c.gone (k:Int),0)):=hideA (by rw[HDv.out,hmo,if_neg N0.out])
   go_wp2_with fail;go_ret;rw[H.out];exact⟨rfl,RefAfter.trans Hlt.out HC.out.2.1 (RefAfter.still HC.out.1 hbX)⟩
  | true =>
   have P0:er=0:=by simpa using her
   subst P0;rw[if_pos rfl] at hmo
   have hsent:=hmsg m hmo
   have hwf:=hsent.1
   have hpm:=hplm m hmo
   have H:Hid (c.deliver (k:Int)=((c.gone (k:Int)).arrive m,0)):=hideA (by rw[HDv.out,hmo])
   have hg1:=hg2.told' m
   obtain⟨c1,hc1⟩:∃ c1,c1=(c.gone (k:Int)).tell m:=⟨_,rfl⟩
   have hr1:c1.reps=c.reps:=by rw[hc1];unfold Clu.tell;split<;>rfl
   have hu1:c1.upOf m.dst=c.upOf m.dst:=by rw[hc1,tell_up];rfl
   have hst1:stOf c1=stOf c:=by rw[hc1];unfold Clu.tell;split<;>rfl
   have hs1:Sent c1 E g m:=by unfold Sent;rw[hst1,hr1];exact hsent
   have hir:c1.isRep m.dst↔c.isRep m.dst:=by unfold Clu.isRep;rw[hr1]
   have harr:(c.gone (k:Int)).arrive m=(c1.takes m).1.send (c1.takes m).2:=by rw[hc1];rfl
   rw[← hc1] at hg1
   rw[harr] at H
   have HTl:Hid (Calls Tryz.prog 140 #[.pointer (some ⟨y,0,none⟩),.agg #[.int .i64 m.kind,.int .i64 m.src,.int .i64 m.dst,.int .i64 m.epoch,.int .i64 m.ballot,.int .i64 m.vote,.int .i64 m.pos,.int .i64 m.value,.slice a1 m.mems.length d1,.slice a2 m.log.length d2]] X fun r w'=>(∃ v,r=.returned v)∧OutAfter X (Gr F w W) y c1 w'):=hideA (by rw[hc1];exact refTold_any m a1 d1 a2 d2 HRX.out ht)
   have hfit:=takes_fit hg1 hs1
   have HlX:Hid (∀ k,Gr F w W k→k<W.heap.size):=hideA (Gr.lt Hlt.out HC.out.2.1.size)
   have hXs:=hbX.size
   have hYs:=hbY.size
   have HK:Hid (∀ X2,OutAfter X (Gr F w W) y c1 X2→(∀ j,X2.cell? ⟨Y.heap.size,j,none⟩=(#[.int .i64 m.kind,.int .i64 m.src,.int .i64 m.dst,.int .i64 m.epoch,.int .i64 m.ballot,.int .i64 m.vote,.int .i64 m.pos,.int .i64 m.value,.slice a1 m.mems.length d1,.slice a2 m.log.length d2]:Array Value)[j]?)∧LogOwn X2 (.slice a2 m.log.length d2) m.log∧RefAfter W (Gr F w W) y c1 X2):=hideA fun X2 hO=>by
    have key:∀ z,W.heap.size≤z→z<X.heap.size→X2.heap[z]?=X.heap[z]?:=fun z h1 h2=>hO.2.1.block z h2 (fun e=>by have:=HlX.out z e;omega)
    refine⟨fun j=>coh ((key _ hYs (Array.getElem?_eq_some_iff.1 HM.out).1).trans HM.out) j, ?_,RefAfter.before HC.out.1 hbX hO.after⟩
    have h1:=okp HO.out.2 (w':=X) fun z _ hz=>hbYX.block z hz
    exact obs (oon h1 fun z e=>key z (by have:=(h1.lt z e).1;omega) (Array.getElem?_eq_some_iff.1 (obc h1 e).choose_spec.1).1) (Nat.zero_le _)
   have HTk:Hid (∀ X2,OutAfter X (Gr F w W) y c1 X2→Calls Tryz.prog 141 #[.pointer (some ⟨y,0,none⟩),.agg #[.int .i64 m.kind,.int .i64 m.src,.int .i64 m.dst,.int .i64 m.epoch,.int .i64 m.ballot,.int .i64 m.vote,.int .i64 m.pos,.int .i64 m.value,.slice a1 m.mems.length d1,.slice a2 m.log.length d2]] X2 fun e w'=>∃ v,e=.returned v∧MsgsOwn w' X2.heap.size v (c1.takes m).2∧RefAfter W (Gr F w W) y (c1.takes m).1 w'):=hideA fun X2 hO=>by
    obtain⟨-,q2,q3⟩:=HK.out X2 hO
    refine (refTakesC_any m a1 d1 a2 d2 q3.1 hg1 (by rw[hr1];exact hwf) (by rw[hir,hu1];exact hpm.1) (fun e=>hpm.2 (hir.1 e)) q2).mono ?_
    rintro e w' ⟨v,rfl,h1,h2⟩;exact⟨v,rfl,h1,RefAfter.trans HlX.out q3.2 h2⟩
   have HSn:Hid (∀ X3 v base,MsgsOwn X3 base v (c1.takes m).2→RefAfter W (Gr F w W) y (c1.takes m).1 X3→Calls Tryz.prog 135 #[.pointer (some ⟨y,0,none⟩),v] X3 fun e w'=>(∃ v,e=.returned v)∧RefAfter w F y ((c1.takes m).1.send (c1.takes m).2) w'):=hideA fun X3 v base hm hR=>by
    refine (refSend_any base v _ hR.1 (by rw[hfit.2.2];exact hg1.bag) hm hfit.1 (by have:=hfit.2.1;omega)).mono ?_
    rintro e w' ⟨h1,h2⟩;exact⟨h1,RefAfter.trans Hlt.out HC.out.2.1 (RefAfter.trans HlX.out hR.2 h2.after)⟩
   clear hfit hg1 hs1 hir harr hc1 hr1 hu1 hst1 hsent hwf hpm hmsg hplm;go_wp2_with fail;refine HTl.out.mono ?_
   rintro e X2 ⟨⟨v2,rfl⟩,hO⟩;have HO2:=hideA hO;have gN:=(HK.out X2 hO).1
   clear hO gM;go_wp2_with fail;refine (HTk.out X2 HO2.out).mono ?_
   rintro e X3 ⟨v3,rfl,hm3,hR3⟩;obtain⟨a9,c9,hv9⟩:=hm3.shape;subst hv9;have H3:=hideA (And.intro hm3 hR3)
   clear hm3 hR3 gN;go_wp2_with fail;refine (HSn.out X3 _ _ H3.out.1 H3.out.2).mono ?_
   rintro e X4 ⟨⟨v4,rfl⟩,hR4⟩;have H4:=hideA hR4;clear hR4;go_wp2_with fail;go_ret;rw[H.out];exact⟨rfl,H4.out⟩
 ·have H:Hid (c.deliver d=(c,8)):=hideA (by unfold Clu.deliver;rw[if_neg hh])
  by_cases h3:d<0
  ·clear hh h
   go_enter Tryz.func84,Tryz.ntmps84
   go_wp2_with fail;go_ret;rw[H.out];exact⟨rfl,RefAfter.still HA.out (Below.refl _ _)⟩
  ·have h4:(c.bag.length:Int)≤d:=by
    unfold Clu.hasFrame at hh
    omega
   clear hh h;go_enter Tryz.func84,Tryz.ntmps84
   go_wp2_with fail;go_ret;rw[H.out];exact⟨rfl,RefAfter.still HA.out (Below.refl _ _)⟩
theorem LawIn.stepped {w0 w w':World}{B:Nat}{x5:Value}{M:Nat}{b:Bk}{ps qs:List Pr}{p p':Pr}{vC vI vL vT vA:Value}(h:LawIn w0 w B x5 M b (ps++p :: qs) vC vI vL vT vA)(hq:p'.q=p.q)(hM:Moved w w' p.F)(hP:PrAt w' p')(hF:∀ k,p'.F k→p.F k∨w.heap.size≤k) :
  LawIn w0 w' B x5 M b (ps++p' :: qs) vC vI vL vT vA:=by
 have hpm:p∈ps++p :: qs:=List.mem_append_right _ (List.mem_cons_self ..)
 have hs:=hM.size
 have hoff:=h.off p hpm
 have old:∀ r∈ps++p :: qs,∀ k,r.F k→k<w.heap.size:=fun r hr k hk=>h.ltP r hr k hk
 have hap:=List.pairwise_append.1 h.apart
 have hap2:=List.pairwise_cons.1 hap.2.1
 have sub:∀ r,r∈ps++p' :: qs→r=p'∨r∈ps∨r∈qs:=fun r hr=>by
  rcases List.mem_append.1 hr with e|e
  ·exact .inr (.inl e)
  ·rcases List.mem_cons.1 e with e|e
   ·exact .inl e
   ·exact .inr (.inr e)
 have others:∀ r,r∈ps∨r∈qs→r∈ps++p :: qs∧∀ k,r.F k→¬ p.F k:=fun r hr=>by
  rcases hr with e|e
  ·exact⟨List.mem_append_left _ e,fun k hk hk2=>hap.2.2 r e p (List.mem_cons_self ..) k hk hk2⟩
  ·exact⟨List.mem_append_right _ (List.mem_cons_of_mem _ e),fun k hk hk2=>hap2.1 r e k hk2 hk⟩
 refine⟨?_, ?_,fun r hr => ?_,fun r hr k hk => ?_,h.small, ?_,h.new, ?_⟩
 ·exact h.book.keep hs fun k hk=>hM.block k (hk.elim (fun e=>by rw[e];exact (Array.getElem?_eq_some_iff.1 h.book.blk).1) (fun e=>Bk.lt h.book e)) (fun e=>by
   have:=hoff k e
   rcases hk with q|q
   ·omega
   ·exact this.2.1 q)
 ·have hrow:w'.ownsRow (B+1) 104 1 vC (ps++p :: qs).length ((ps++p :: qs).map fun p=>Value.pointer (some ⟨p.q,0,none⟩)):=hM.owns h.row fun k hk hS=>(hoff k hS).2.2 hk
  have e1:(ps++p' :: qs).length=(ps++p :: qs).length:=by simp
  have e2:(ps++p' :: qs).map (fun p=>Value.pointer (some ⟨p.q,0,none⟩))=(ps++p :: qs).map (fun p=>Value.pointer (some ⟨p.q,0,none⟩)):=by simp[hq]
  rw[e1,e2];exact hrow
 ·rcases sub r hr with e|e
  ·rw[e];exact hP
  ·obtain⟨o1,o2⟩:=others r e
   exact (h.prs r o1).keep fun k hk=>hM.block k (old r o1 k hk) (o2 k hk)
 ·rcases sub r hr with e|e
  ·subst e
   rcases hF k hk with q|q
   ·exact hoff k q
   ·refine⟨by have:=h.book.bs;omega,fun e => ?_,fun e => ?_⟩
    ·have:=Bk.lt h.book e
     omega
    ·have:=(Array.getElem?_eq_some_iff.1 (obc h.row e).choose_spec.1).1
     omega
  ·exact h.off r (others r e).1 k hk
 ·exact h.be.trans (hM.to_below (fun k q=>by have:=(hoff k q).1;have:=h.new;omega) h.be.size)
 ·refine List.pairwise_append.2 ⟨hap.1,List.pairwise_cons.2 ⟨fun r hr k hk hk2 => ?_,hap2.2⟩,fun r hr s hs2 k hk hk2 => ?_⟩
  ·rcases hF k hk with q|q
   ·exact hap2.1 r hr k q hk2
   ·have:=old r (others r (.inr hr)).1 k hk2
    omega
  ·rcases List.mem_cons.1 hs2 with e|e
   ·subst e
    rcases hF k hk2 with q|q
    ·exact (others r (.inl hr)).2 k hk q
    ·have:=old r (others r (.inl hr)).1 k hk
     omega
   ·exact hap.2.2 r hr s (List.mem_cons_of_mem _ e) k hk hk2
theorem PrAt.both {w W1 W2:World}{p:Pr}{c':Clu}(hq:w.heap[p.q]?=some (.cells #[.pointer (some ⟨p.x,0,none⟩),.pointer (some ⟨p.y,0,none⟩)] 123)){FX FY:Nat→Prop}(hlt:∀ k,p.F k→k<w.heap.size)(hF:∀ k,k=p.q∨FX k∨FY k→p.F k)(hXY:∀ k,FX k→¬ FY k)(hqX:¬ FX p.q)(hqY:¬ FY p.q){F':Nat→Prop}
  (hX:CAt W1 F' p.x c') (hMX:Moved w W1 FX) (hF':∀ k,F' k→FX k∨w.heap.size≤k) (hY:RefAfter W1 FY p.y c' W2) :
  PrAt W2 { p with c:=c',F:=fun k=>p.F k∨(w.heap.size≤k∧k<W2.heap.size) }∧Moved w W2 p.F:=by
 have s1:=hMX.size
 have s2:=hY.2.size
 have hFXlt:∀ k,FX k→k<w.heap.size:=fun k e=>hlt k (hF k (.inr (.inl e)))
 have hFYlt:∀ k,FY k→k<w.heap.size:=fun k e=>hlt k (hF k (.inr (.inr e)))
 have hql:p.q<w.heap.size:=hlt _ (hF _ (.inl rfl))
 have hM:Moved w W2 p.F:=(hMX.wider (fun k e=>hF k (.inr (.inl e)))).trans (hY.2.wider (fun k e=>hF k (.inr (.inr e)))) (fun k _ e=>e)
 have hX2:CAt W2 F' p.x c':=by
  have hX':=hX
  obtain⟨gs,cap,b,Fn,vr,va,vm,vb,vt,h2⟩:=hX;refine⟨gs,cap,b,Fn,vr,va,vm,vb,vt,h2.keep fun k e=>hY.2.block k (h2.lt k e) (fun q => ?_)⟩
  rcases hF' k e with z|z
  ·exact hXY k z q
  ·have:=hFYlt k q
   omega
 refine⟨⟨F',Gr FY W1 W2, ?_,hX2,hY.1,fun k e => ?_,⟨fun k e1 e2 => ?_,fun e => ?_,fun e => ?_⟩,fun k e => ?_⟩,hM⟩
 ·exact (hY.2.block _ (by omega) hqY).trans ((hMX.block _ hql hqX).trans hq)
 ·rcases e with e|e|e
  ·exact .inl (hF k (.inl e))
  ·rcases hF' k e with z|z
   ·exact .inl (hF k (.inr (.inl z)))
   ·exact .inr ⟨z,hX2.lt' e⟩
  ·rcases e with e|e
   ·exact .inl (hF k (.inr (.inr e)))
   ·exact .inr ⟨by omega,e.2⟩
 ·rcases e2 with e2|e2
  ·rcases hF' k e1 with z|z
   ·exact hXY k z e2
   ·have:=hFYlt k e2
    omega
  ·have:=hX.lt' e1
   omega
 ·rcases hF' p.q e with z|z
  ·exact hqX z
  ·omega
 ·rcases e with e|e
  ·exact hqY e
  ·have h9:W1.heap.size≤p.q:=e.1
   omega
 ·rcases e with e|e
  ·have:=hlt k e
   show k<W2.heap.size
   omega
  ·exact e.2
end Go.Proofs.YtgieeeeeiggoeaaGreat
