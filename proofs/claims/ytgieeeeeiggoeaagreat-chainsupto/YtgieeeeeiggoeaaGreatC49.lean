import Derived.Test.YtgieeeeeiggoeaaGreatC48
import Derived.Deep.DeepCutAuto
import Derived.Test.YtgieeeeeiggoeaaGreatC37
import Derived.Test.YtgieeeeeiggoeaaGreatC40
import Derived.Test.YtgieeeeeiggoeaaGreatC47
import Derived.Test.YtgieeeeeiggoeaaGreatC32
set_option maxRecDepth 100000
set_option maxHeartbeats 4000000
namespace Go.Proofs.YtgieeeeeiggoeaaGreat
open Go.RowKit Go.Shelf
structure LOp where
 kind:Int
 cl:Int
 n:Int
 i:Int
 e:Ent
 a:Option Addr
 len:Nat
 cap:Nat
def LOp.next (o:LOp)(c:Clu):Clu × Int :=
 if o.kind=2 then c.ask o.n o.e else if o.kind=4 then c.tick o.n else if o.kind=5 then c.deliver o.i else if o.kind=6 then c.drop o.i else if o.kind=7 then c.double o.i
 else if o.kind=9 then c.crash o.n else if o.kind=10 then c.restart o.n else (c,0)
structure LOp.Fit (o:LOp):Prop where
 n : -9223372036854775808≤o.n∧o.n≤9223372036854775807
 i : -9223372036854775808≤o.i∧o.i≤9223372036854775807
structure Chn (c:Clu):Prop where
 good:∃ E g,Good c E g
 idle:c.idle
 bag:c.plainBag
theorem CAt.below' {w w':World}{F:Nat→Prop}{x:Nat}{c:Clu}(h:CAt w F x c)(hb:Below w.heap.size w w'):CAt w' F x c:=by
 obtain⟨gs,cap,b,Fn,vr,va,vm,vb,vt,h2⟩:=h;exact⟨gs,cap,b,Fn,vr,va,vm,vb,vt,h2.below hb⟩
theorem refCrash_any {w:World}{F:Nat→Prop}{y:Nat}{c:Clu}{E:Int}{g:Gh}(d:Int)(h:RefAt w F y c)(hg:Good c E g)(hi : -9223372036854775808≤d∧d≤9223372036854775807) :
  Calls Tryz.prog 87 #[.pointer (some ⟨y,0,none⟩),.int .i64 d] w fun r w'=>r=.returned (.int .i64 (c.crash d).2)∧RefAfter w F y (c.crash d).1 w':=by
 have HT:Hid (Calls Tryz.prog 143 #[.pointer (some ⟨y,0,none⟩),.int .i64 d,.bool false] w fun r w'=>r=.returned (.int .i64 (c.crash d).2)∧RefAfter w F y (c.crash d).1 w'):=hideA (refTurn_any d false h hg hi)
 clear h hg;go_enter Tryz.func87,Tryz.ntmps87
 go_wp2_with fail;refine HT.out.mono ?_
 rintro e W ⟨rfl,hC⟩;have HC:=hideA hC;clear hC;go_wp2_with fail;go_ret;exact⟨rfl,HC.out⟩
theorem refRestart_any {w:World}{F:Nat→Prop}{y:Nat}{c:Clu}{E:Int}{g:Gh}(d:Int)(h:RefAt w F y c)(hg:Good c E g)(hi : -9223372036854775808≤d∧d≤9223372036854775807) :
  Calls Tryz.prog 88 #[.pointer (some ⟨y,0,none⟩),.int .i64 d] w fun r w'=>r=.returned (.int .i64 (c.restart d).2)∧RefAfter w F y (c.restart d).1 w':=by
 have HT:Hid (Calls Tryz.prog 143 #[.pointer (some ⟨y,0,none⟩),.int .i64 d,.bool true] w fun r w'=>r=.returned (.int .i64 (c.restart d).2)∧RefAfter w F y (c.restart d).1 w'):=hideA (refTurn_any d true h hg hi)
 clear h hg;go_enter Tryz.func88,Tryz.ntmps88
 go_wp2_with fail;refine HT.out.mono ?_
 rintro e W ⟨rfl,hC⟩;have HC:=hideA hC;clear hC;go_wp2_with fail;go_ret;exact⟨rfl,HC.out⟩
theorem plain_set {w:World}{p:Pr}{cn:Clu}{en:Value}{fx fy:FuncId}{tx ty:List Value}(o:LOp)(h:PrAt w p)
  (hx:∀ W F,CAt W F p.x p.c→Calls Tryz.prog fx (.mk (.pointer (some ⟨p.x,0,none⟩) :: tx)) W fun r w1=>r=.returned en∧CAfter W F p.x cn w1)
  (hy:∀ W F,RefAt W F p.y p.c→Calls Tryz.prog fy (.mk (.pointer (some ⟨p.y,0,none⟩) :: ty)) W fun r w2=>r=.returned en∧RefAfter W F p.y cn w2) :
  ∃ B FX,w.alloc (.cells #[.int .i64 o.kind,.int .i64 o.cl,.int .i64 o.n,.int .i64 o.i,.int .i64 o.e.client,.int .i64 o.e.seq,.int .i64 o.e.kind,.int .i64 o.e.key,.int .i64 o.e.value,.slice o.a o.len o.cap] 71)=B∧B.cell? ⟨p.q,0,none⟩=some (.pointer (some ⟨p.x,0,none⟩))∧B.heap[w.heap.size]?=some (.cells #[.int .i64 o.kind,.int .i64 o.cl,.int .i64 o.n,.int .i64 o.i,.int .i64 o.e.client,.int .i64 o.e.seq,.int .i64 o.e.kind,.int .i64 o.e.key,.int .i64 o.e.value,.slice o.a o.len o.cap] 71) ∧
   Hid (∀ W,W=B.drew→Calls Tryz.prog fx (.mk (.pointer (some ⟨p.x,0,none⟩) :: tx)) W fun r w1=>r=.returned en∧CAfter B FX p.x cn w1) ∧
   Hid (∀ W1,CAfter B FX p.x cn W1→W1.cell? ⟨p.q,1,none⟩=some (.pointer (some ⟨p.y,0,none⟩))∧W1.heap[w.heap.size]?=some (.cells #[.int .i64 o.kind,.int .i64 o.cl,.int .i64 o.n,.int .i64 o.i,.int .i64 o.e.client,.int .i64 o.e.seq,.int .i64 o.e.kind,.int .i64 o.e.key,.int .i64 o.e.value,.slice o.a o.len o.cap] 71)) ∧
   Hid (∀ W1,CAfter B FX p.x cn W1→∀ W,W=W1.drew→Calls Tryz.prog fy (.mk (.pointer (some ⟨p.y,0,none⟩) :: ty)) W fun r w2=>r=.returned en∧PrAt w2 { p with c:=cn,F:=fun k=>p.F k∨(w.heap.size≤k∧k<w2.heap.size) }∧Moved w w2 p.F):=by
 obtain⟨B,hB,hbB,hMB⟩:=bm1 w #[.int .i64 o.kind,.int .i64 o.cl,.int .i64 o.n,.int .i64 o.i,.int .i64 o.e.client,.int .i64 o.e.seq,.int .i64 o.e.kind,.int .i64 o.e.key,.int .i64 o.e.value,.slice o.a o.len o.cap] 71
 obtain⟨FX,FY,hq,hX0,hY0,hF,⟨hXY,hqX,hqY⟩,hlt⟩:=h;have hBs:B.heap.size=w.heap.size+1:=by rw[← hB];simp
 have hX:CAt B FX p.x p.c:=hX0.below' hbB
 have hY:RefAt B FY p.y p.c:=hY0.below hbB
 have hql:p.q<w.heap.size:=(Array.getElem?_eq_some_iff.1 hq).1
 have hqB:=(hbB.block _ hql).trans hq
 have hltB:∀ k,p.F k→k<B.heap.size:=fun k e=>by have:=hlt k e;omega
 have HK:∀ W1,CAfter B FX p.x cn W1→W1.heap[p.q]?=some (.cells #[.pointer (some ⟨p.x,0,none⟩),.pointer (some ⟨p.y,0,none⟩)] 123)∧W1.heap[w.heap.size]?=some (.cells #[.int .i64 o.kind,.int .i64 o.cl,.int .i64 o.n,.int .i64 o.i,.int .i64 o.e.client,.int .i64 o.e.seq,.int .i64 o.e.kind,.int .i64 o.e.key,.int .i64 o.e.value,.slice o.a o.len o.cap] 71)∧RefAt W1 FY p.y p.c:=fun W1 hC=>by
  obtain⟨F',a1,a2,a3⟩:=hC;refine⟨(a2.block _ (by omega) hqX).trans hqB,(a2.block _ (by omega) (fun e => ?_)).trans hMB,hY.keep fun k hk=>a2.block k (hY.lt' hk) (fun e=>hXY k e hk)⟩
  have:=hlt _ (hF _ (.inr (.inl e)))
  omega
 refine⟨B,FX,hB,coh hqB 0,hMB,hideA fun W hW => ?_,hideA fun W1 hC=>⟨coh (HK W1 hC).1 1,(HK W1 hC).2.1⟩,hideA fun W1 hC W hW => ?_⟩
 ·subst hW
  have hb:Below B.heap.size B B.drew:=(Below.refl _ B).drew
  refine (hx _ _ (hX.below' hb)).mono ?_
  rintro e w1 ⟨h1,h2⟩;exact⟨h1,CAfter.trans ((Moved.refl B FX).below hb) (fun _ e=>.inl e) h2⟩
 ·subst hW
  have hR1:=(HK W1 hC).2.2
  have hb1:Below W1.heap.size W1 W1.drew:=(Below.refl _ W1).drew
  obtain⟨F',a1,a2,a3⟩:=hC;refine (hy _ _ (hR1.below hb1)).mono ?_
  rintro e w2 ⟨h1,h2⟩;have hboth:=PrAt.both hqB hltB hF hXY hqX hqY a1 a2 a3 (RefAfter.before hR1 hb1 h2)
  refine⟨h1, ?_,((Moved.refl w p.F).below hbB).trans hboth.2 (fun k _ e=>e)⟩
  obtain⟨GX,GY,z1,z2,z3,z4,z5,z6⟩:=hboth.1;refine⟨GX,GY,z1,z2,z3,fun k e => ?_,z5,fun k e => ?_⟩
  ·rcases z4 k e with q|q
   ·exact .inl q
   ·exact .inr ⟨by omega,q.2⟩
  ·rcases e with q|q
   ·exact z6 k (.inl q)
   ·exact q.2
set_option linter.unusedVariables false in
theorem plainAsk_any {w:World}{p:Pr}(o:LOp)(h:PrAt w p)(hch:Chn p.c)(ht:p.c.told.length≤2999999999999)(hfit:o.Fit)(hk:o.kind=2) :
  Calls Tryz.prog 42 #[.pointer (some ⟨p.q,0,none⟩),.agg #[.int .i64 o.kind,.int .i64 o.cl,.int .i64 o.n,.int .i64 o.i,.int .i64 o.e.client,.int .i64 o.e.seq,.int .i64 o.e.kind,.int .i64 o.e.key,.int .i64 o.e.value,.slice o.a o.len o.cap]] w fun e w'=>e=.returned (.bool true)∧PrAt w' { p with c:=(p.c.ask o.n o.e).1,F:=fun k=>p.F k∨(w.heap.size≤k∧k<w'.heap.size) }∧Moved w w' p.F:=by
 obtain⟨E,g,hg⟩:=hch.good;obtain⟨B,FX,hB,q0,hMB,HX,HK,HY⟩:=plain_set (cn:=(p.c.ask o.n o.e).1) (en:=.int .i64 (p.c.ask o.n o.e).2) (fx:=28) (fy:=82) (tx:=[.int .i64 o.n,.agg #[.int .i64 o.e.client,.int .i64 o.e.seq,.int .i64 o.e.kind,.int .i64 o.e.key,.int .i64 o.e.value]]) (ty:=[.int .i64 o.n,.agg #[.int .i64 o.e.client,.int .i64 o.e.seq,.int .i64 o.e.kind,.int .i64 o.e.key,.int .i64 o.e.value]]) o h (fun W F hX=>cluAsk_any o.n o.e hX hg) (fun W F hR=>refAsk_any o.n o.e hR hg hfit.n)
 have m0:B.cell? ⟨w.heap.size,0,none⟩=some (.int .i64 o.kind):=coh hMB 0
 have m2:B.cell? ⟨w.heap.size,2,none⟩=some (.int .i64 o.n):=coh hMB 2
 have m4:B.cell? ⟨w.heap.size,4,none⟩=some (.int .i64 o.e.client):=coh hMB 4
 have m5:B.cell? ⟨w.heap.size,5,none⟩=some (.int .i64 o.e.seq):=coh hMB 5
 have m6:B.cell? ⟨w.heap.size,6,none⟩=some (.int .i64 o.e.kind):=coh hMB 6
 have m7:B.cell? ⟨w.heap.size,7,none⟩=some (.int .i64 o.e.key):=coh hMB 7
 have m8:B.cell? ⟨w.heap.size,8,none⟩=some (.int .i64 o.e.value):=coh hMB 8
 have mixed:Tryz.prog.follows Departure.mixedOrders=true:=by kernel_rfl
 rw[hk] at m0 hB ⊢
 generalize (p.c.ask o.n o.e).2=en at *
 generalize (p.c.ask o.n o.e).1=cn at *
 clear hMB;go_enter Tryz.func42,Tryz.ntmps42
 go_upto_region 5 with fail
 go_cut [3,5,6] (fun p3 p5 p6 wx=>p3=.pointer (some ⟨w.heap.size,0,none⟩)∧p5=.int .i64 en∧p6=.int .i64 0∧CAfter B FX p.x cn wx)
 case first =>
  go_region_law (first|(rw[if_pos (by simp[Region.wanted])];go_simp;go_at_call 28;refine (HX.out _ rfl).mono ?_;rintro e W1 ⟨rfl,hC⟩;have HC:=hideA hC;clear hC))
  all_goals (
   go_wp2_with fail;go_meet;exact⟨rfl,rfl,rfl,HC.out⟩)
 case rest =>
  obtain⟨rfl,rfl,rfl,hC⟩:=hcut;have hz:=(HK.out wc hC).2
  have q1:=(HK.out wc hC).1
  have n2:=coh hz 2
  have n4:=coh hz 4
  have n5:=coh hz 5
  have n6:=coh hz 6
  have n7:=coh hz 7
  have n8:=coh hz 8
  have HY2:=hideA (HY.out wc hC)
  clear hC hz m0 m2 m4 m5 m6 m7 m8 q0 HX HK HY;go_wp2_with fail;go_region_law (first|(rw[if_pos (by simp[Region.wanted])];go_simp;go_at_call 82;refine (HY2.out _ rfl).mono ?_;rintro e W2 ⟨rfl,hC⟩;have HC:=hideA hC;clear hC))
  all_goals (
   go_wp2_with fail;go_ret;exact⟨by simp,HC.out⟩)
set_option linter.unusedVariables false in
theorem plainTick_any {w:World}{p:Pr}(o:LOp)(h:PrAt w p)(hch:Chn p.c)(ht:p.c.told.length≤2999999999999)(hfit:o.Fit)(hk:o.kind=4) :
  Calls Tryz.prog 42 #[.pointer (some ⟨p.q,0,none⟩),.agg #[.int .i64 o.kind,.int .i64 o.cl,.int .i64 o.n,.int .i64 o.i,.int .i64 o.e.client,.int .i64 o.e.seq,.int .i64 o.e.kind,.int .i64 o.e.key,.int .i64 o.e.value,.slice o.a o.len o.cap]] w fun e w'=>e=.returned (.bool true)∧PrAt w' { p with c:=(p.c.tick o.n).1,F:=fun k=>p.F k∨(w.heap.size≤k∧k<w'.heap.size) }∧Moved w w' p.F:=by
 obtain⟨E,g,hg⟩:=hch.good;obtain⟨B,FX,hB,q0,hMB,HX,HK,HY⟩:=plain_set (cn:=(p.c.tick o.n).1) (en:=.int .i64 (p.c.tick o.n).2) (fx:=73) (fy:=83) (tx:=[.int .i64 o.n]) (ty:=[.int .i64 o.n]) o h (fun W F hX=>cluTick_any o.n hX hg) (fun W F hR=>refTick_any o.n hR hg hch.idle hfit.n)
 have m0:B.cell? ⟨w.heap.size,0,none⟩=some (.int .i64 o.kind):=coh hMB 0
 have m2:B.cell? ⟨w.heap.size,2,none⟩=some (.int .i64 o.n):=coh hMB 2
 have mixed:Tryz.prog.follows Departure.mixedOrders=true:=by kernel_rfl
 rw[hk] at m0 hB ⊢
 generalize (p.c.tick o.n).2=en at *
 generalize (p.c.tick o.n).1=cn at *
 clear hMB;go_enter Tryz.func42,Tryz.ntmps42
 go_upto_region 8 with fail
 go_cut [3,5,6] (fun p3 p5 p6 wx=>p3=.pointer (some ⟨w.heap.size,0,none⟩)∧p5=.int .i64 en∧p6=.int .i64 0∧CAfter B FX p.x cn wx)
 case first =>
  go_region_law (first|(rw[if_pos (by simp[Region.wanted])];go_simp;go_at_call 73;refine (HX.out _ rfl).mono ?_;rintro e W1 ⟨rfl,hC⟩;have HC:=hideA hC;clear hC))
  all_goals (
   go_wp2_with fail;go_meet;exact⟨rfl,rfl,rfl,HC.out⟩)
 case rest =>
  obtain⟨rfl,rfl,rfl,hC⟩:=hcut;have hz:=(HK.out wc hC).2
  have q1:=(HK.out wc hC).1
  have n2:=coh hz 2
  have HY2:=hideA (HY.out wc hC)
  clear hC hz m0 m2 q0 HX HK HY;go_wp2_with fail;go_region_law (first|(rw[if_pos (by simp[Region.wanted])];go_simp;go_at_call 83;refine (HY2.out _ rfl).mono ?_;rintro e W2 ⟨rfl,hC⟩;have HC:=hideA hC;clear hC))
  all_goals (
   go_wp2_with fail;go_ret;exact⟨by simp,HC.out⟩)
set_option linter.unusedVariables false in
theorem plainDeliver_any {w:World}{p:Pr}(o:LOp)(h:PrAt w p)(hch:Chn p.c)(ht:p.c.told.length≤2999999999999)(hfit:o.Fit)(hk:o.kind=5) :
  Calls Tryz.prog 42 #[.pointer (some ⟨p.q,0,none⟩),.agg #[.int .i64 o.kind,.int .i64 o.cl,.int .i64 o.n,.int .i64 o.i,.int .i64 o.e.client,.int .i64 o.e.seq,.int .i64 o.e.kind,.int .i64 o.e.key,.int .i64 o.e.value,.slice o.a o.len o.cap]] w fun e w'=>e=.returned (.bool true)∧PrAt w' { p with c:=(p.c.deliver o.i).1,F:=fun k=>p.F k∨(w.heap.size≤k∧k<w'.heap.size) }∧Moved w w' p.F:=by
 obtain⟨E,g,hg⟩:=hch.good;obtain⟨B,FX,hB,q0,hMB,HX,HK,HY⟩:=plain_set (cn:=(p.c.deliver o.i).1) (en:=.int .i64 (p.c.deliver o.i).2) (fx:=31) (fy:=84) (tx:=[.int .i64 o.i]) (ty:=[.int .i64 o.i]) o h (fun W F hX=>cluDeliver_any o.i hX hg ht) (fun W F hR=>refDeliver_any o.i hR hg hch.bag ht)
 have m0:B.cell? ⟨w.heap.size,0,none⟩=some (.int .i64 o.kind):=coh hMB 0
 have m3:B.cell? ⟨w.heap.size,3,none⟩=some (.int .i64 o.i):=coh hMB 3
 have mixed:Tryz.prog.follows Departure.mixedOrders=true:=by kernel_rfl
 rw[hk] at m0 hB ⊢
 generalize (p.c.deliver o.i).2=en at *
 generalize (p.c.deliver o.i).1=cn at *
 clear hMB;go_enter Tryz.func42,Tryz.ntmps42
 go_upto_region 11 with fail
 go_cut [3,5,6] (fun p3 p5 p6 wx=>p3=.pointer (some ⟨w.heap.size,0,none⟩)∧p5=.int .i64 en∧p6=.int .i64 0∧CAfter B FX p.x cn wx)
 case first =>
  go_region_law (first|(rw[if_pos (by simp[Region.wanted])];go_simp;go_at_call 31;refine (HX.out _ rfl).mono ?_;rintro e W1 ⟨rfl,hC⟩;have HC:=hideA hC;clear hC))
  all_goals (
   go_wp2_with fail;go_meet;exact⟨rfl,rfl,rfl,HC.out⟩)
 case rest =>
  obtain⟨rfl,rfl,rfl,hC⟩:=hcut;have hz:=(HK.out wc hC).2
  have q1:=(HK.out wc hC).1
  have n2:=coh hz 3
  have HY2:=hideA (HY.out wc hC)
  clear hC hz m0 m3 q0 HX HK HY;go_wp2_with fail;go_region_law (first|(rw[if_pos (by simp[Region.wanted])];go_simp;go_at_call 84;refine (HY2.out _ rfl).mono ?_;rintro e W2 ⟨rfl,hC⟩;have HC:=hideA hC;clear hC))
  all_goals (
   go_wp2_with fail;go_ret;exact⟨by simp,HC.out⟩)
set_option linter.unusedVariables false in
theorem plainDrop_any {w:World}{p:Pr}(o:LOp)(h:PrAt w p)(hch:Chn p.c)(ht:p.c.told.length≤2999999999999)(hfit:o.Fit)(hk:o.kind=6) :
  Calls Tryz.prog 42 #[.pointer (some ⟨p.q,0,none⟩),.agg #[.int .i64 o.kind,.int .i64 o.cl,.int .i64 o.n,.int .i64 o.i,.int .i64 o.e.client,.int .i64 o.e.seq,.int .i64 o.e.kind,.int .i64 o.e.key,.int .i64 o.e.value,.slice o.a o.len o.cap]] w fun e w'=>e=.returned (.bool true)∧PrAt w' { p with c:=(p.c.drop o.i).1,F:=fun k=>p.F k∨(w.heap.size≤k∧k<w'.heap.size) }∧Moved w w' p.F:=by
 obtain⟨E,g,hg⟩:=hch.good;obtain⟨B,FX,hB,q0,hMB,HX,HK,HY⟩:=plain_set (cn:=(p.c.drop o.i).1) (en:=.int .i64 (p.c.drop o.i).2) (fx:=78) (fy:=85) (tx:=[.int .i64 o.i]) (ty:=[.int .i64 o.i]) o h (fun W F hX=>cluDrop_any o.i hX hg) (fun W F hR=>refDrop_any o.i hR hg.bag)
 have m0:B.cell? ⟨w.heap.size,0,none⟩=some (.int .i64 o.kind):=coh hMB 0
 have m3:B.cell? ⟨w.heap.size,3,none⟩=some (.int .i64 o.i):=coh hMB 3
 have mixed:Tryz.prog.follows Departure.mixedOrders=true:=by kernel_rfl
 rw[hk] at m0 hB ⊢
 generalize (p.c.drop o.i).2=en at *
 generalize (p.c.drop o.i).1=cn at *
 clear hMB;go_enter Tryz.func42,Tryz.ntmps42
 go_upto_region 14 with fail
 go_cut [3,5,6] (fun p3 p5 p6 wx=>p3=.pointer (some ⟨w.heap.size,0,none⟩)∧p5=.int .i64 en∧p6=.int .i64 0∧CAfter B FX p.x cn wx)
 case first =>
  go_region_law (first|(rw[if_pos (by simp[Region.wanted])];go_simp;go_at_call 78;refine (HX.out _ rfl).mono ?_;rintro e W1 ⟨rfl,hC⟩;have HC:=hideA hC;clear hC))
  all_goals (
   go_wp2_with fail;go_meet;exact⟨rfl,rfl,rfl,HC.out⟩)
 case rest =>
  obtain⟨rfl,rfl,rfl,hC⟩:=hcut;have hz:=(HK.out wc hC).2
  have q1:=(HK.out wc hC).1
  have n2:=coh hz 3
  have HY2:=hideA (HY.out wc hC)
  clear hC hz m0 m3 q0 HX HK HY;go_wp2_with fail;go_region_law (first|(rw[if_pos (by simp[Region.wanted])];go_simp;go_at_call 85;refine (HY2.out _ rfl).mono ?_;rintro e W2 ⟨rfl,hC⟩;have HC:=hideA hC;clear hC))
  all_goals (
   go_wp2_with fail;go_ret;exact⟨by simp,HC.out⟩)
set_option linter.unusedVariables false in
theorem plainDouble_any {w:World}{p:Pr}(o:LOp)(h:PrAt w p)(hch:Chn p.c)(ht:p.c.told.length≤2999999999999)(hfit:o.Fit)(hk:o.kind=7) :
  Calls Tryz.prog 42 #[.pointer (some ⟨p.q,0,none⟩),.agg #[.int .i64 o.kind,.int .i64 o.cl,.int .i64 o.n,.int .i64 o.i,.int .i64 o.e.client,.int .i64 o.e.seq,.int .i64 o.e.kind,.int .i64 o.e.key,.int .i64 o.e.value,.slice o.a o.len o.cap]] w fun e w'=>e=.returned (.bool true)∧PrAt w' { p with c:=(p.c.double o.i).1,F:=fun k=>p.F k∨(w.heap.size≤k∧k<w'.heap.size) }∧Moved w w' p.F:=by
 obtain⟨E,g,hg⟩:=hch.good;obtain⟨B,FX,hB,q0,hMB,HX,HK,HY⟩:=plain_set (cn:=(p.c.double o.i).1) (en:=.int .i64 (p.c.double o.i).2) (fx:=79) (fy:=86) (tx:=[.int .i64 o.i]) (ty:=[.int .i64 o.i]) o h (fun W F hX=>cluDouble_any o.i hX hg) (fun W F hR=>refDouble_any o.i hR hg.bag)
 have m0:B.cell? ⟨w.heap.size,0,none⟩=some (.int .i64 o.kind):=coh hMB 0
 have m3:B.cell? ⟨w.heap.size,3,none⟩=some (.int .i64 o.i):=coh hMB 3
 have mixed:Tryz.prog.follows Departure.mixedOrders=true:=by kernel_rfl
 rw[hk] at m0 hB ⊢
 generalize (p.c.double o.i).2=en at *
 generalize (p.c.double o.i).1=cn at *
 clear hMB;go_enter Tryz.func42,Tryz.ntmps42
 go_upto_region 17 with fail
 go_cut [3,5,6] (fun p3 p5 p6 wx=>p3=.pointer (some ⟨w.heap.size,0,none⟩)∧p5=.int .i64 en∧p6=.int .i64 0∧CAfter B FX p.x cn wx)
 case first =>
  go_region_law (first|(rw[if_pos (by simp[Region.wanted])];go_simp;go_at_call 79;refine (HX.out _ rfl).mono ?_;rintro e W1 ⟨rfl,hC⟩;have HC:=hideA hC;clear hC))
  all_goals (
   go_wp2_with fail;go_meet;exact⟨rfl,rfl,rfl,HC.out⟩)
 case rest =>
  obtain⟨rfl,rfl,rfl,hC⟩:=hcut;have hz:=(HK.out wc hC).2
  have q1:=(HK.out wc hC).1
  have n2:=coh hz 3
  have HY2:=hideA (HY.out wc hC)
  clear hC hz m0 m3 q0 HX HK HY;go_wp2_with fail;go_region_law (first|(rw[if_pos (by simp[Region.wanted])];go_simp;go_at_call 86;refine (HY2.out _ rfl).mono ?_;rintro e W2 ⟨rfl,hC⟩;have HC:=hideA hC;clear hC))
  all_goals (
   go_wp2_with fail;go_ret;exact⟨by simp,HC.out⟩)
set_option linter.unusedVariables false in
theorem plainCrash_any {w:World}{p:Pr}(o:LOp)(h:PrAt w p)(hch:Chn p.c)(ht:p.c.told.length≤2999999999999)(hfit:o.Fit)(hk:o.kind=9) :
  Calls Tryz.prog 42 #[.pointer (some ⟨p.q,0,none⟩),.agg #[.int .i64 o.kind,.int .i64 o.cl,.int .i64 o.n,.int .i64 o.i,.int .i64 o.e.client,.int .i64 o.e.seq,.int .i64 o.e.kind,.int .i64 o.e.key,.int .i64 o.e.value,.slice o.a o.len o.cap]] w fun e w'=>e=.returned (.bool true)∧PrAt w' { p with c:=(p.c.crash o.n).1,F:=fun k=>p.F k∨(w.heap.size≤k∧k<w'.heap.size) }∧Moved w w' p.F:=by
 obtain⟨E,g,hg⟩:=hch.good;obtain⟨B,FX,hB,q0,hMB,HX,HK,HY⟩:=plain_set (cn:=(p.c.crash o.n).1) (en:=.int .i64 (p.c.crash o.n).2) (fx:=75) (fy:=87) (tx:=[.int .i64 o.n]) (ty:=[.int .i64 o.n]) o h (fun W F hX=>cluCrash_any o.n hX) (fun W F hR=>refCrash_any o.n hR hg hfit.n)
 have m0:B.cell? ⟨w.heap.size,0,none⟩=some (.int .i64 o.kind):=coh hMB 0
 have m2:B.cell? ⟨w.heap.size,2,none⟩=some (.int .i64 o.n):=coh hMB 2
 have mixed:Tryz.prog.follows Departure.mixedOrders=true:=by kernel_rfl
 rw[hk] at m0 hB ⊢
 generalize (p.c.crash o.n).2=en at *
 generalize (p.c.crash o.n).1=cn at *
 clear hMB;go_enter Tryz.func42,Tryz.ntmps42
 go_upto_region 20 with fail
 go_cut [3,5,6] (fun p3 p5 p6 wx=>p3=.pointer (some ⟨w.heap.size,0,none⟩)∧p5=.int .i64 en∧p6=.int .i64 0∧CAfter B FX p.x cn wx)
 case first =>
  go_region_law (first|(rw[if_pos (by simp[Region.wanted])];go_simp;go_at_call 75;refine (HX.out _ rfl).mono ?_;rintro e W1 ⟨rfl,hC⟩;have HC:=hideA hC;clear hC))
  all_goals (
   go_wp2_with fail;go_meet;exact⟨rfl,rfl,rfl,HC.out⟩)
 case rest =>
  obtain⟨rfl,rfl,rfl,hC⟩:=hcut;have hz:=(HK.out wc hC).2
  have q1:=(HK.out wc hC).1
  have n2:=coh hz 2
  have HY2:=hideA (HY.out wc hC)
  clear hC hz m0 m2 q0 HX HK HY;go_wp2_with fail;go_region_law (first|(rw[if_pos (by simp[Region.wanted])];go_simp;go_at_call 87;refine (HY2.out _ rfl).mono ?_;rintro e W2 ⟨rfl,hC⟩;have HC:=hideA hC;clear hC))
  all_goals (
   go_wp2_with fail;go_ret;exact⟨by simp,HC.out⟩)
set_option linter.unusedVariables false in
theorem plainRestart_any {w:World}{p:Pr}(o:LOp)(h:PrAt w p)(hch:Chn p.c)(ht:p.c.told.length≤2999999999999)(hfit:o.Fit)(hk:o.kind=10) :
  Calls Tryz.prog 42 #[.pointer (some ⟨p.q,0,none⟩),.agg #[.int .i64 o.kind,.int .i64 o.cl,.int .i64 o.n,.int .i64 o.i,.int .i64 o.e.client,.int .i64 o.e.seq,.int .i64 o.e.kind,.int .i64 o.e.key,.int .i64 o.e.value,.slice o.a o.len o.cap]] w fun e w'=>e=.returned (.bool true)∧PrAt w' { p with c:=(p.c.restart o.n).1,F:=fun k=>p.F k∨(w.heap.size≤k∧k<w'.heap.size) }∧Moved w w' p.F:=by
 obtain⟨E,g,hg⟩:=hch.good;obtain⟨B,FX,hB,q0,hMB,HX,HK,HY⟩:=plain_set (cn:=(p.c.restart o.n).1) (en:=.int .i64 (p.c.restart o.n).2) (fx:=76) (fy:=88) (tx:=[.int .i64 o.n]) (ty:=[.int .i64 o.n]) o h (fun W F hX=>cluRestart_any o.n hX hg) (fun W F hR=>refRestart_any o.n hR hg hfit.n)
 have m0:B.cell? ⟨w.heap.size,0,none⟩=some (.int .i64 o.kind):=coh hMB 0
 have m2:B.cell? ⟨w.heap.size,2,none⟩=some (.int .i64 o.n):=coh hMB 2
 have mixed:Tryz.prog.follows Departure.mixedOrders=true:=by kernel_rfl
 rw[hk] at m0 hB ⊢
 generalize (p.c.restart o.n).2=en at *
 generalize (p.c.restart o.n).1=cn at *
 clear hMB;go_enter Tryz.func42,Tryz.ntmps42
 go_upto_region 23 with fail
 go_cut [3,5,6] (fun p3 p5 p6 wx=>p3=.pointer (some ⟨w.heap.size,0,none⟩)∧p5=.int .i64 en∧p6=.int .i64 0∧CAfter B FX p.x cn wx)
 case first =>
  go_region_law (first|(rw[if_pos (by simp[Region.wanted])];go_simp;go_at_call 76;refine (HX.out _ rfl).mono ?_;rintro e W1 ⟨rfl,hC⟩;have HC:=hideA hC;clear hC))
  all_goals (
   go_wp2_with fail;go_meet;exact⟨rfl,rfl,rfl,HC.out⟩)
 case rest =>
  obtain⟨rfl,rfl,rfl,hC⟩:=hcut;have hz:=(HK.out wc hC).2
  have q1:=(HK.out wc hC).1
  have n2:=coh hz 2
  have HY2:=hideA (HY.out wc hC)
  clear hC hz m0 m2 q0 HX HK HY;go_wp2_with fail;go_region_law (first|(rw[if_pos (by simp[Region.wanted])];go_simp;go_at_call 88;refine (HY2.out _ rfl).mono ?_;rintro e W2 ⟨rfl,hC⟩;have HC:=hideA hC;clear hC))
  all_goals (
   go_wp2_with fail;go_ret;exact⟨by simp,HC.out⟩)
def plainMsg (n:Nat)(m:Msg):Prop:=((0≤m.dst∧m.dst<(n:Int))∧(m.kind=1∨m.kind=2∨m.kind=3))∨300≤m.dst
def Clu.pB (c:Clu):Prop:=∀ f∈c.bag,∀ m,msgOf f.1=some m→plainMsg c.reps.length m
theorem pB_plain {c:Clu}(h:c.pB)(hn:c.reps.length≤5):c.plainBag:=fun f hf m hm=>by
 rcases h f hf m hm with ⟨q1,q2⟩|q
 ·exact⟨.inl ⟨q1.1,q1.2⟩,fun _=>q2⟩
 ·have n1:¬ c.isRep m.dst:=fun e=>by have:=e.2;omega
  refine⟨.inr ?_,fun e=>absurd e n1⟩
  unfold Clu.upOf
  rw[if_neg n1,if_neg (fun e=>by have:=e.2;omega),if_neg (fun e=>by have:=e.2;omega)]
theorem acks_plain {r:Rep}{own:Int}{n:Nat}(h:∀ x∈r.mems,0≤x∧x<(n:Int)):∀ z∈r.acks own,plainMsg n z:=by
 intro z hz;unfold Rep.acks at hz
 cases e:prevOf r.mems own with
 | none=>rw[e] at hz;cases hz
 | some a =>
  rw[e] at hz
  rw[List.mem_singleton] at hz
  subst hz;refine .inl ⟨h a ?_,.inr (.inr rfl)⟩
  unfold prevOf at e
  split at e
  ·cases e
  ·split at e
   ·exact List.mem_of_getElem? e
   ·cases e
theorem forward_plain {r:Rep}{own nx:Int}{p n:Nat}(h:∀ x∈r.mems,0≤x∧x<(n:Int))(hx:nextOf r.mems own=some nx):plainMsg n (r.forward own nx p) :=
 .inl ⟨h nx (by unfold nextOf at hx;exact List.mem_of_getElem? hx),.inr (.inl rfl)⟩
theorem getD_client {l:List Ent}{p:Nat}(h:∀ y∈l,0≤y.client):0≤(l.getD p Ent.zero).client:=by
 rw[List.getD_eq_getElem?_getD]
 cases e:l[p]? with
 | none=>exact Int.le_refl _
 | some y=>exact h y (List.mem_of_getElem? e)
theorem reply_plain {r:Rep}{own:Int}{p n:Nat}(h:∀ y∈r.log,0≤y.client):plainMsg n (r.reply own p) :=
 .inr (by have:=getD_client (p:=p) h;show 300≤300+(r.log.getD p Ent.zero).client;omega)
theorem put_plain {r:Rep}{own:Int}{x:Ent}{n:Nat}(h:∀ x∈r.mems,0≤x∧x<(n:Int))(hl:∀ y∈r.log++[x],0≤y.client):∀ z∈(r.put own x).2,plainMsg n z:=by
 intro z hz;unfold Rep.put at hz
 cases e:nextOf r.mems own with
 | some nx =>
  rw[e] at hz
  rw[List.mem_singleton] at hz
  subst hz;exact forward_plain (r:={ r with log:=r.log++[x] }) h e
 | none =>
  rw[e] at hz
  unfold Rep.commitAll at hz
  rcases List.mem_append.1 hz with q|q
  ·obtain⟨p,_,rfl⟩:=List.mem_map.1 q
   exact reply_plain (r:={ r with log:=r.log++[x] }) hl
  ·exact acks_plain (r:={ { r with log:=r.log++[x] } with commit:=(r.log++[x]).length }) h z q
theorem take_plain {r:Rep}{own:Int}{m:Msg}{n:Nat}(h:∀ x∈r.mems,0≤x∧x<(n:Int))(hne:r.mems≠[])(hl:∀ y∈r.log,0≤y.client)(hm:∀ y∈m.log,0≤y.client)(hk:m.kind=1∨m.kind=2∨m.kind=3):∀ z∈(r.take own m).2,plainMsg n z:=by
 have hh:0≤(m.log.headD Ent.zero).client:=by
  cases e:m.log with
  | nil=>exact Int.le_refl _
  | cons a t=>exact hm a (by rw[e];exact List.mem_cons_self ..)
 have hl2:∀ y∈r.log++[m.log.headD Ent.zero],0≤y.client:=fun y hy=>by
  rcases List.mem_append.1 hy with q|q
  ·exact hl y q
  ·rw[List.mem_singleton.1 q];exact hh
 intro z hz;unfold Rep.take at hz
 split at hz
 ·split at hz
  ·unfold Rep.asked at hz
   split at hz
   ·rw[List.mem_singleton] at hz
    subst hz;refine .inl ⟨h _ ?_,.inl rfl⟩
    cases e:r.mems with
    | nil=>exact absurd e hne
    | cons a t=>exact List.mem_cons_self ..
   ·split at hz
    ·split at hz
     ·rw[List.mem_singleton] at hz
      subst hz;exact reply_plain hl
     ·cases hz
    ·split at hz
     ·cases hz
     ·exact put_plain h hl2 z hz
  ·cases hz
 ·split at hz
  ·unfold Rep.takeForward at hz
   split at hz
   ·split at hz
    ·exact put_plain h hl2 z hz
    ·split at hz
     ·exact acks_plain h z hz
     ·cases hz
   ·cases hz
  ·split at hz
   ·unfold Rep.takeAck at hz
    split at hz
    ·exact acks_plain (r:={ r with commit:=m.pos.toNat }) h z hz
    ·cases hz
   ·omega
theorem tick_plain {r:Rep}{own:Int}{n:Nat}(h:∀ x∈r.mems,0≤x∧x<(n:Int)):∀ z∈r.tick own,plainMsg n z:=by
 intro z hz;unfold Rep.tick at hz
 split at hz
 ·cases e:nextOf r.mems own with
  | none=>rw[e] at hz;exact acks_plain h z hz
  | some nx =>
   rw[e] at hz
   obtain⟨p,_,rfl⟩:=List.mem_map.1 hz
   exact forward_plain h e
 ·cases hz
theorem pB_send {c:Clu}{ms:List Msg}(h:c.pB)(hok:∀ m∈ms,m.ok=true)(hp:∀ m∈ms,plainMsg c.reps.length m):(c.send ms).pB:=by
 intro f hf m hm;rcases List.mem_append.1 (List.mem_of_mem_take hf) with q|q
 ·exact h f q m hm
 ·obtain⟨m0,h0,rfl⟩:=List.mem_map.1 q
  have:=msgOf_frame m0 (hok m0 h0)
  have hm2:msgOf m0.frame=some m:=hm
  rw[this] at hm2
  have e:m0=m:=Option.some.inj hm2
  rw[← e];exact hp m0 h0
structure Kept (c:Clu)(T:Nat):Prop where
 good:∃ E g,Good c E g
 idle:c.idle
 bag:c.pB
 told:c.told.length≤T
theorem Kept.chn {c:Clu}{T:Nat}(h:Kept c T):Chn c:=by
 obtain⟨E,g,hg⟩:=h.good;exact⟨⟨E,g,hg⟩,h.idle,pB_plain h.bag hg.nodes.n5⟩
theorem Kept.first (n:Nat)(h1:1≤n)(h5:n≤5):Kept (Clu.first n) 0 :=
 ⟨⟨_,_,first_good n h1 h5⟩,fun k hk=>by rw[first_mas hk];rfl,fun f hf=>by simp[Clu.first] at hf,by simp[Clu.first]⟩
theorem memsRange {c:Clu}{E:Int}{g:Gh}(hg:Good c E g){d:Int}(hd:c.isRep d):(∀ x∈(c.rep d).mems,0≤x∧x<(c.reps.length:Int))∧(c.rep d).mems≠[]∧∀ y∈(c.rep d).log,0≤y.client:=by
 have h:=hg.nodes.R d hd
 obtain⟨h1,_,h3⟩:=(memsOk_iff _ _).1 h.mems
 exact⟨h1,h3,fun y hy=>(ok_client (h.log.2 y hy)).1⟩
theorem StepOK.kept {c c':Clu}{E:Int}{g:Gh}{T:Nat}(h:StepOK c E g c')(hi:c'.idle)(hb:c'.pB)(ht:c'.told.length≤T):Kept c' T:=by
 obtain⟨E',g',hg,_⟩:=h;exact⟨⟨E',g',hg⟩,hi,hb,ht⟩
theorem pB_less {c c':Clu}(h:c.pB)(hr:c'.reps.length=c.reps.length)(hs:∀ f∈c'.bag,f∈c.bag):c'.pB:=fun f hf m hm=>by
 rw[hr];exact h f (hs f hf) m hm
theorem takes_plain {c:Clu}{E:Int}{g:Gh}(hg:Good c E g)(hid:c.idle)(hb:c.pB){m:Msg}(hs:Sent c E g m)(hp:plainMsg c.reps.length m):((c.takes m).1.send (c.takes m).2).idle∧((c.takes m).1.send (c.takes m).2).pB∧((c.takes m).1.send (c.takes m).2).told=c.told:=by
 have hn:=hg.nodes.n5
 have hfit:=takes_fit hg hs
 by_cases hup:c.upOf m.dst=some true
 ·have hr:c.isRep m.dst:=by
   rcases hp with ⟨q,_⟩|q
   ·exact⟨q.1,q.2⟩
   ·have n1:¬ c.isRep m.dst:=fun e=>by have:=e.2;omega
    unfold Clu.upOf at hup
    rw[if_neg n1,if_neg (fun e=>by have:=e.2;omega),if_neg (fun e=>by have:=e.2;omega)] at hup
    cases hup
  have hk:m.kind=1∨m.kind=2∨m.kind=3:=by
   rcases hp with ⟨_,q⟩|q
   ·exact q
   ·have:=hr.2
    omega
  have ht:c.takes m=(c.setRep m.dst ((c.rep m.dst).take m.dst m).1,((c.rep m.dst).take m.dst m).2):=by unfold Clu.takes;rw[if_pos hup,if_pos hr]
  rw[ht] at hfit ⊢
  obtain⟨h1,h2,h3⟩:=memsRange hg hr
  refine⟨hid,pB_send (c:=c.setRep m.dst _) (pB_less hb List.length_set (fun f hf=>hf)) hfit.1 (fun z hz => ?_),rfl⟩
  have e1:(c.setRep m.dst ((c.rep m.dst).take m.dst m).1).reps.length=c.reps.length:=List.length_set
  rw[e1];exact take_plain h1 h2 h3 (fun y hy=>(ok_client (hs.1.log.2 y hy)).1) hk z hz
 ·have ht:c.takes m=(c,[]):=by unfold Clu.takes;rw[if_neg hup]
  rw[ht];rw[send_nil _ hg.bag];exact⟨hid,hb,rfl⟩
theorem Kept.next {c:Clu}{T:Nat}(h:Kept c T)(o:LOp):Kept (o.next c).1 (T+1):=by
 have hc:=h.chn
 obtain⟨⟨E,g,hg⟩,hid,hb,ht⟩:=h;have hsame:Kept c (T+1):=⟨⟨E,g,hg⟩,hid,hb,by omega⟩
 unfold LOp.next
 split
 ·by_cases hr:c.isRep o.n
  ·by_cases he:o.e.ok=true
   ·refine⟨⟨E,_,(hg.ask o.n o.e hr he).1⟩, ?_, ?_, ?_⟩
    ·unfold Clu.ask
     rw[if_neg (by simpa using hr),if_neg (by rw[he];simp)]
     exact hid
    ·unfold Clu.ask
     rw[if_neg (by simpa using hr),if_neg (by rw[he];simp)]
     refine pB_send hb (fun m hm => ?_) (fun m hm => ?_)
     ·rw[List.mem_singleton] at hm
      subst hm;obtain⟨d0,d1,_⟩:=rep_dst hg.nodes hr
      have hcl:=ok_client he
      exact (request_wf he hg.nodes.E0 (by omega) ⟨d0,d1⟩:MsgWF c.reps.length E _).ok hg.nodes.n5 hg.nodes.E2000
     ·rw[List.mem_singleton] at hm
      subst hm;exact .inl ⟨⟨hr.1,hr.2⟩,.inl rfl⟩
    ·unfold Clu.ask
     rw[if_neg (by simpa using hr),if_neg (by rw[he];simp)]
     show c.told.length≤T+1
     omega
   ·have:c.ask o.n o.e=(c,6):=by unfold Clu.ask;rw[if_neg (by simpa using hr),if_pos (by simpa using he)]
    rw[this];exact hsame
  ·have:c.ask o.n o.e=(c,4):=by unfold Clu.ask;rw[if_pos hr]
   rw[this];exact hsame
 ·split
  ·have hst:=hg.tick o.n
   have htk:c.tick o.n=match c.upOf o.n with|none=>(c,4)|some false=>(c,5)|some true=>(c.send (c.ticks o.n),0):=rfl
   cases hu:c.upOf o.n with
   | none=>rw[hu] at htk;rw[htk];exact hsame
   | some b =>
    cases b with
    | false=>rw[hu] at htk;rw[htk];exact hsame
    | true =>
     rw[hu] at htk
     rw[htk] at hst ⊢
     refine hst.kept hid (pB_send hb (fun m hm=>(hg.nodes.ticks o.n m hm).1.ok hg.nodes.n5 hg.nodes.E2000) (fun m hm => ?_)) (by show c.told.length≤T+1;omega)
     unfold Clu.ticks at hm
     split at hm
     ·rename_i hr
      exact tick_plain (memsRange hg hr).1 m hm
     ·split at hm
      ·rename_i hr
       rw[asks_idle (hid _ hr)] at hm
       cases hm
      ·cases hm
  ·split
   ·have hst:=hg.deliver o.i
    by_cases hh:c.hasFrame o.i
    ·have hfm:=frameAt_mem hh
     cases hmo:msgOf (c.frameAt o.i).1 with
     | none =>
      have e:c.deliver o.i=(c.gone o.i,0):=by unfold Clu.deliver;rw[if_pos hh,hmo]
      rw[e] at hst ⊢
      exact hst.kept hid (pB_less hb rfl (fun f hf=>List.mem_of_mem_eraseIdx hf)) (by show c.told.length≤T+1;omega)
     | some m =>
      have e:c.deliver o.i=((c.gone o.i).arrive m,0):=by unfold Clu.deliver;rw[if_pos hh,hmo]
      rw[e] at hst ⊢
      have hsent:=hg.msg hfm hmo
      have hpm:=hb _ hfm m hmo
      have hg1:=(hg.gone o.i).told' m
      have hr1:((c.gone o.i).tell m).reps=c.reps:=by unfold Clu.tell;split<;>rfl
      have hst1:stOf ((c.gone o.i).tell m)=stOf c:=by unfold Clu.tell;split<;>rfl
      have hs1:Sent ((c.gone o.i).tell m) E g m:=by unfold Sent;rw[hst1,hr1];exact hsent
      have hid1:((c.gone o.i).tell m).idle:=by unfold Clu.tell;split<;>exact hid
      have hb1:((c.gone o.i).tell m).pB:=pB_less hb (by rw[hr1]) (fun f hf=>by
       have:((c.gone o.i).tell m).bag=(c.gone o.i).bag:=by unfold Clu.tell;split<;>rfl
       rw[this] at hf
       exact List.mem_of_mem_eraseIdx hf)
      have htl:((c.gone o.i).tell m).told.length≤T+1:=by
       unfold Clu.tell
       split
       ·show (c.told++[_]).length≤T+1
        rw[List.length_append];simp
        omega
       ·show c.told.length≤T+1
        omega
      obtain⟨q1,q2,q3⟩:=takes_plain hg1 hid1 hb1 hs1 (by rw[hr1];exact hpm)
      exact hst.kept q1 q2 (by show (((c.gone o.i).tell m).takes m).1.told.length≤T+1;have q4:(((c.gone o.i).tell m).takes m).1.told=((c.gone o.i).tell m).told:=q3;rw[q4];exact htl)
    ·have e:c.deliver o.i=(c,8):=by unfold Clu.deliver;rw[if_neg hh]
     rw[e];exact hsame
   ·split
    ·have hst:=hg.drop o.i
     by_cases hh:c.hasFrame o.i
     ·have e:c.drop o.i=(c.gone o.i,0):=by unfold Clu.drop;rw[if_pos hh]
      rw[e] at hst ⊢
      exact hst.kept hid (pB_less hb rfl (fun f hf=>List.mem_of_mem_eraseIdx hf)) (by show c.told.length≤T+1;omega)
     ·have e:c.drop o.i=(c,8):=by unfold Clu.drop;rw[if_neg hh]
      rw[e];exact hsame
    ·split
     ·have hst:=hg.double o.i
      by_cases hh:c.hasFrame o.i
      ·have e:c.double o.i=({ c with bag:=(c.bag++[c.frameAt o.i]).take 200 },0):=by unfold Clu.double;rw[if_pos hh]
       rw[e] at hst ⊢
       refine hst.kept hid (pB_less hb rfl (fun f hf => ?_)) (by show c.told.length≤T+1;omega)
       rcases List.mem_append.1 (List.mem_of_mem_take hf) with q|q
       ·exact q
       ·rw[List.mem_singleton.1 q]
        exact frameAt_mem hh
      ·have e:c.double o.i=(c,8):=by unfold Clu.double;rw[if_neg hh]
       rw[e];exact hsame
     ·have key:∀ tu,StepOK c E g (c.turn o.n tu).1→Kept (c.turn o.n tu).1 (T+1):=fun tu hst=>by
       have hn:=hg.nodes.n5
       rcases who c o.n hn with ⟨i,hil,hd,_,hu⟩|⟨i,hil,hd,_,hu⟩|⟨i,hil,hd,_,hu⟩|⟨_,hu⟩
       ·by_cases e:(c.rep i).up=tu
        ·rw[turn_same (tu:=tu) (by rw[hu,e])]
         exact hsame
        ·have hup:(c.rep i).up = !tu:=by cases h1:(c.rep i).up<;>cases tu<;>simp_all
         rw[hd] at hst ⊢
         rw[turn_rep hil hup] at hst ⊢
         exact hst.kept hid (pB_less hb List.length_set (fun f hf=>hf)) (by show c.told.length≤T+1;omega)
       ·by_cases e:(c.acc (100+(i:Int))).up=tu
        ·rw[turn_same (tu:=tu) (by rw[hu,e])]
         exact hsame
        ·have hup:(c.acc (100+(i:Int))).up = !tu:=by cases h1:(c.acc (100+(i:Int))).up<;>cases tu<;>simp_all
         rw[hd] at hst ⊢
         rw[turn_acc hn hil hup] at hst ⊢
         exact hst.kept hid (pB_less hb rfl (fun f hf=>hf)) (by show c.told.length≤T+1;omega)
       ·by_cases e:(c.mas (200+(i:Int))).up=tu
        ·rw[turn_same (tu:=tu) (by rw[hu,e])]
         exact hsame
        ·have hup:(c.mas (200+(i:Int))).up = !tu:=by cases h1:(c.mas (200+(i:Int))).up<;>cases tu<;>simp_all
         have hms:isMas (200+(i:Int)):=by unfold isMas;omega
         rw[hd] at hst ⊢
         rw[turn_mas hn hil hup] at hst ⊢
         refine hst.kept (fun k hk => ?_) (pB_less hb rfl (fun f hf=>hf)) (by show c.told.length≤T+1;omega)
         show ((c.setMas (200+(i:Int)) _).mas k).does=0
         rw[mas_setMas hg.nodes.m2 hms hk];split
         ·rfl
         ·exact hid k hk
       ·rw[turn_no hu]
        exact hsame
      split
      ·exact key false (hg.crash o.n)
      ·split
       ·exact key true (hg.restart o.n)
       ·exact hsame
end Go.Proofs.YtgieeeeeiggoeaaGreat
