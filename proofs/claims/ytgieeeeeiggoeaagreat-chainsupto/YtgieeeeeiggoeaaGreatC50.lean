import Derived.Test.YtgieeeeeiggoeaaGreatC49
import Derived.Test.YtgieeeeeiggoeaaGreatC09
import Derived.Test.YtgieeeeeiggoeaaGreatC02
import Derived.Test.YtgieeeeeiggoeaaGreatC41
set_option maxRecDepth 100000
set_option maxHeartbeats 16000000
namespace Go.Proofs.YtgieeeeeiggoeaaGreat
open Go.RowKit Go.Shelf
theorem pickL_any (c n:Int)(w:World)(hn:0<n)(hn2:n≤10000000)(h0 : -9223372036854775808≤c)(h1:c≤9223372036854775807) :
  Calls Tryz.prog 44 #[.int .i64 c,.int .i64 n] w fun e w'=>e=.returned (.int .i64 (pickI c n))∧w'=w:=by
 by_cases hc:c<0
 ·have H:Hid (pickI c n=(-(c+1)) % n):=hideA (by unfold pickI;rw[if_pos hc])
  go_enter Tryz.func44,Tryz.ntmps44
  go_wp2
  go_ret;refine⟨ret_int ?_,rfl⟩
  rw[H.out, ← Int.neg_tmod,Int.tmod_eq_emod_of_nonneg (by omega)]
 ·have H:Hid (pickI c n=c % n):=hideA (by unfold pickI;rw[if_neg hc])
  go_enter Tryz.func44,Tryz.ntmps44
  go_wp2
  go_ret;exact⟨ret_int (by rw[H.out]),rfl⟩
theorem pickI_range (c n:Int)(hn:0<n):0≤pickI c n∧pickI c n<n:=by
 unfold pickI
 split
 ·exact⟨Int.emod_nonneg _ (by omega),Int.emod_lt_of_pos _ hn⟩
 ·exact⟨Int.emod_nonneg _ (by omega),Int.emod_lt_of_pos _ hn⟩
theorem split_at {α : Type}(l:List α)(j:Nat)(x : α)(h:l[j]?=some x):l=l.take j++x :: l.drop (j+1):=by
 have hj:=(List.getElem?_eq_some_iff.1 h).1
 have hx:=(List.getElem?_eq_some_iff.1 h).2
 conv=>lhs;rw[← List.take_append_drop j l]
 rw[List.drop_eq_getElem_cons hj,hx]
theorem lawPlain_any {w0 w:World}{B:Nat}{x5:Value}{M T:Nat}{ps:List Pr}{p:Pr}{j:Nat}(o:LOp)(h:LawAt w0 w B x5 M ps)(hj:ps[j]?=some p)(hk:∀ p∈ps,Kept p.c T)(hT:T≤2999999999999)(hfit:o.Fit)(hkd:o.kind=2∨o.kind=4∨o.kind=5∨o.kind=6∨o.kind=7∨o.kind=9∨o.kind=10) :
  Calls Tryz.prog 42 #[.pointer (some ⟨p.q,0,none⟩),.agg #[.int .i64 o.kind,.int .i64 o.cl,.int .i64 o.n,.int .i64 o.i,.int .i64 o.e.client,.int .i64 o.e.seq,.int .i64 o.e.kind,.int .i64 o.e.key,.int .i64 o.e.value,.slice o.a o.len o.cap]] w fun e w'=>e=.returned (.bool true)∧∃ ps',LawAt w0 w' B x5 M ps'∧(∀ p∈ps',Kept p.c (T+1))∧ps'.length=ps.length∧ps'.map Pr.q=ps.map Pr.q:=by
 have hp:p∈ps:=List.mem_of_getElem? hj
 have hkp:=hk p hp
 have ht:=hkp.told
 have hch:=hkp.chn
 obtain⟨b,vC,vI,vL,vT,vA,h⟩:=h;have hP:=h.prs p hp
 have key:Calls Tryz.prog 42 #[.pointer (some ⟨p.q,0,none⟩),.agg #[.int .i64 o.kind,.int .i64 o.cl,.int .i64 o.n,.int .i64 o.i,.int .i64 o.e.client,.int .i64 o.e.seq,.int .i64 o.e.kind,.int .i64 o.e.key,.int .i64 o.e.value,.slice o.a o.len o.cap]] w fun e w'=>e=.returned (.bool true)∧PrAt w' { p with c:=(o.next p.c).1,F:=fun k=>p.F k∨(w.heap.size≤k∧k<w'.heap.size) }∧Moved w w' p.F:=by
  unfold LOp.next
  rcases hkd with e|e|e|e|e|e|e
  ·rw[if_pos e]
   exact plainAsk_any o hP hch (by omega) hfit e
  ·rw[if_neg (by omega),if_pos e]
   exact plainTick_any o hP hch (by omega) hfit e
  ·rw[if_neg (by omega),if_neg (by omega),if_pos e]
   exact plainDeliver_any o hP hch (by omega) hfit e
  ·rw[if_neg (by omega),if_neg (by omega),if_neg (by omega),if_pos e]
   exact plainDrop_any o hP hch (by omega) hfit e
  ·rw[if_neg (by omega),if_neg (by omega),if_neg (by omega),if_neg (by omega),if_pos e]
   exact plainDouble_any o hP hch (by omega) hfit e
  ·rw[if_neg (by omega),if_neg (by omega),if_neg (by omega),if_neg (by omega),if_neg (by omega),if_pos e]
   exact plainCrash_any o hP hch (by omega) hfit e
  ·rw[if_neg (by omega),if_neg (by omega),if_neg (by omega),if_neg (by omega),if_neg (by omega),if_neg (by omega),if_pos e]
   exact plainRestart_any o hP hch (by omega) hfit e
 refine key.mono ?_
 rintro e w' ⟨rfl,hP',hM'⟩;have hsp:=split_at ps j p hj
 refine⟨rfl,ps.take j++{ p with c:=(o.next p.c).1,F:=fun k=>p.F k∨(w.heap.size≤k∧k<w'.heap.size) } :: ps.drop (j+1),⟨b,vC,vI,vL,vT,vA, ?_⟩,fun r hr => ?_, ?_, ?_⟩
 ·rw[hsp] at h
  exact h.stepped rfl hM' hP' (fun k e=>e.imp id (fun q=>q.1))
 ·rcases List.mem_append.1 hr with q|q
  ·have:=hk r (List.mem_of_mem_take q)
   exact⟨this.good,this.idle,this.bag,by have:=this.told;omega⟩
  ·rcases List.mem_cons.1 q with q|q
   ·rw[q]
    exact hkp.next o
   ·have:=hk r (List.mem_of_mem_drop q)
    exact⟨this.good,this.idle,this.bag,by have:=this.told;omega⟩
 ·have:ps.length=(ps.take j++p :: ps.drop (j+1)).length:=by rw[← hsp]
  rw[this];simp
 ·conv=>rhs;rw[hsp]
  simp
theorem law_first {w X:World}(x5:Value)(hb:Below w.heap.size w X)(hM:X.heap[w.heap.size]?=some (.cells #[.slice none 0 0,.slice none 0 0,.slice none 0 0,.slice none 0 0,.slice none 0 0,x5] 67)):LawAt w X w.heap.size x5 0 []:=by
 have hs:=(Array.getElem?_eq_some_iff.1 hM).1
 refine⟨⟨[],[],[],[]⟩,.slice none 0 0,.slice none 0 0,.slice none 0 0,.slice none 0 0,.slice none 0 0,⟨⟨hM,World.ownsRow_nil _ _ _ _,World.ownsRow_nil _ _ _ _,World.ownsRow_nil _ _ _ _,World.ownsRow_nil _ _ _ _,fun i p hp=>absurd hp (by simp),fun i p hp=>absurd hp (by simp),fun i p hp=>absurd hp (by simp),fun i p hp=>absurd hp (by simp),Nat.lt_succ_self _,hs,⟨rfl,rfl,rfl,rfl⟩⟩,World.ownsRow_nil _ _ _ _,fun p hp=>absurd hp (by simp),fun p hp=>absurd hp (by simp),⟨Nat.le_refl _,Nat.le_refl _,Nat.le_refl _,Nat.le_refl _⟩,hb,Nat.le_refl _,List.Pairwise.nil⟩⟩
theorem Kept.more {c:Clu}{T T':Nat}(h:Kept c T)(hT:T≤T'):Kept c T':=⟨h.good,h.idle,h.bag,Nat.le_trans h.told hT⟩
structure StepFit (ps:List Pr)(T M:Nat)(o:LOp):Prop where
 kept:∀ p∈ps,Kept p.c T
 pos:0<ps.length
 len:ps.length≤2000000
 m:M≤10000000
 t:T≤1000000000
 fit:o.Fit
 cl : -9223372036854775808≤o.cl∧o.cl≤9223372036854775807
theorem LawAt.below {w0 w w':World}{B:Nat}{x5:Value}{M:Nat}{ps:List Pr}(h:LawAt w0 w B x5 M ps)(hb:Below w.heap.size w w'):LawAt w0 w' B x5 M ps:=by
 obtain⟨b,vC,vI,vL,vT,vA,h⟩:=h;exact⟨b,vC,vI,vL,vT,vA,h.below hb⟩
theorem LawAt.mask {w0 w:World}{B:Nat}{x5:Value}{M:Nat}{ps:List Pr}(h:LawAt w0 w B x5 M ps):w.cell? ⟨B,5,none⟩=some x5:=by
 obtain⟨b,vC,vI,vL,vT,vA,h⟩:=h;exact coh h.book.blk 5
set_option linter.unusedVariables false in
theorem step1_any {w0 w:World}{B M T:Nat}{ps:List Pr}(o:LOp)(h:LawAt w0 w B (.int .i64 63222) M ps)(hs:StepFit ps T M o)(hk:o.kind=1) :
  Calls Tryz.prog 23 #[.pointer (some ⟨B,0,none⟩),.agg #[.int .i64 o.kind,.int .i64 o.cl,.int .i64 o.n,.int .i64 o.i,.int .i64 o.e.client,.int .i64 o.e.seq,.int .i64 o.e.kind,.int .i64 o.e.key,.int .i64 o.e.value,.slice o.a o.len o.cap]] w fun e w'=>e=.returned (.bool true)∧∃ ps',LawAt w0 w' B (.int .i64 63222) (M+8) ps'∧(∀ p∈ps',Kept p.c (T+1))∧ps.length≤ps'.length∧ps'.length≤ps.length+1:=by
 obtain⟨X,hX,hbX,hMX⟩:=bm1 w #[.int .i64 o.kind,.int .i64 o.cl,.int .i64 o.n,.int .i64 o.i,.int .i64 o.e.client,.int .i64 o.e.seq,.int .i64 o.e.kind,.int .i64 o.e.key,.int .i64 o.e.value,.slice o.a o.len o.cap] 71
 have m0:X.cell? ⟨w.heap.size,0,none⟩=some (.int .i64 o.kind):=coh hMX 0
 have m1:X.cell? ⟨w.heap.size,1,none⟩=some (.int .i64 o.cl):=coh hMX 1
 have m2:X.cell? ⟨w.heap.size,2,none⟩=some (.int .i64 o.n):=coh hMX 2
 have gM:=fun j=>coh hMX j
 have hLX:=h.below hbX
 have c5:=hLX.mask
 have HL:=hideA hLX;have HS:=hideA hs;rw[hk] at m0 hX gM ⊢
 have HO:Hid (∀ q,Calls Tryz.prog 41 #[.pointer (some ⟨B,0,none⟩),.int .i64 o.n] (X.drewN q) fun e w'=>e=.returned (.bool true)∧∃ ps',LawAt w0 w' B (.int .i64 63222) (M+8) ps'∧(∀ p∈ps',Kept p.c (T+1))∧ps.length≤ps'.length∧ps'.length≤ps.length+1):=hideA fun q=>by
  refine (lawOpened_any o.n (hLX.below (below_drewN (Below.refl _ _) q)) (by have:=hs.len;omega)).mono ?_
  rintro e w' ⟨rfl,ps',h1,h2⟩;refine⟨rfl,ps',h1.less (by omega), ?_, ?_⟩
  ·intro p hp
   rcases h2 with ⟨q1,q2,p2,q3,q4⟩|⟨-,q4⟩
   ·rw[q4] at hp
    rcases List.mem_append.1 hp with z|z
    ·exact (hs.kept p z).more (by omega)
    ·rw[List.mem_singleton.1 z,q3]
     exact (Kept.first _ (by omega) (by omega)).more (by omega)
   ·rw[q4] at hp
    exact (hs.kept p hp).more (by omega)
  ·rcases h2 with ⟨q1,q2,p2,q3,q4⟩|⟨-,q4⟩<;>(rw[q4];simp)
 clear h hLX hs hMX;go_enter Tryz.func23,Tryz.ntmps23
 go_wp2_with fail;go_quiet (fail)
 go_wp2_with fail;refine (HO.out _).mono ?_
 rintro e W ⟨rfl,hq⟩;have HQ:=hideA hq;clear hq;go_wp2_with fail;go_ret;exact⟨rfl,HQ.out⟩
set_option linter.unusedVariables false in
theorem stepOff_any {w0 w:World}{B M T:Nat}{ps:List Pr}(o:LOp)(h:LawAt w0 w B (.int .i64 63222) M ps)(hs:StepFit ps T M o)(hk:o.kind=3∨o.kind=8∨o.kind=11) :
  Calls Tryz.prog 23 #[.pointer (some ⟨B,0,none⟩),.agg #[.int .i64 o.kind,.int .i64 o.cl,.int .i64 o.n,.int .i64 o.i,.int .i64 o.e.client,.int .i64 o.e.seq,.int .i64 o.e.kind,.int .i64 o.e.key,.int .i64 o.e.value,.slice o.a o.len o.cap]] w fun e w'=>e=.returned (.bool true)∧∃ ps',LawAt w0 w' B (.int .i64 63222) (M+8) ps'∧(∀ p∈ps',Kept p.c (T+1))∧ps.length≤ps'.length∧ps'.length≤ps.length+1:=by
 obtain⟨X,hX,hbX,hMX⟩:=bm1 w #[.int .i64 o.kind,.int .i64 o.cl,.int .i64 o.n,.int .i64 o.i,.int .i64 o.e.client,.int .i64 o.e.seq,.int .i64 o.e.kind,.int .i64 o.e.key,.int .i64 o.e.value,.slice o.a o.len o.cap] 71
 have m0:X.cell? ⟨w.heap.size,0,none⟩=some (.int .i64 o.kind):=coh hMX 0
 have m1:X.cell? ⟨w.heap.size,1,none⟩=some (.int .i64 o.cl):=coh hMX 1
 have m2:X.cell? ⟨w.heap.size,2,none⟩=some (.int .i64 o.n):=coh hMX 2
 have gM:=fun j=>coh hMX j
 have hLX:=h.below hbX
 have c5:=hLX.mask
 have HL:=hideA hLX;have HS:=hideA hs;clear h hLX hs hMX;rcases hk with hk|hk|hk
 all_goals (
  rw[hk] at m0 hX gM ⊢
  go_enter Tryz.func23,Tryz.ntmps23
  go_wp2_with fail;go_quiet (fail)
  go_wp2_with fail;go_ret;exact⟨rfl,ps,(HL.out.below (below_drewN (Below.refl _ _) _)).less (by omega),fun p hp=>(HS.out.kept p hp).more (by omega),Nat.le_refl _,by omega⟩)
set_option linter.unusedVariables false in
theorem stepPlain_any {w0 w:World}{B M T:Nat}{ps:List Pr}(o:LOp)(h:LawAt w0 w B (.int .i64 63222) M ps)(hs:StepFit ps T M o)(hk:o.kind=2∨o.kind=4∨o.kind=5∨o.kind=6∨o.kind=7∨o.kind=9∨o.kind=10) :
  Calls Tryz.prog 23 #[.pointer (some ⟨B,0,none⟩),.agg #[.int .i64 o.kind,.int .i64 o.cl,.int .i64 o.n,.int .i64 o.i,.int .i64 o.e.client,.int .i64 o.e.seq,.int .i64 o.e.kind,.int .i64 o.e.key,.int .i64 o.e.value,.slice o.a o.len o.cap]] w fun e w'=>e=.returned (.bool true)∧∃ ps',LawAt w0 w' B (.int .i64 63222) (M+8) ps'∧(∀ p∈ps',Kept p.c (T+1))∧ps.length≤ps'.length∧ps'.length≤ps.length+1:=by
 obtain⟨X,hX,hbX,hMX⟩:=bm1 w #[.int .i64 o.kind,.int .i64 o.cl,.int .i64 o.n,.int .i64 o.i,.int .i64 o.e.client,.int .i64 o.e.seq,.int .i64 o.e.kind,.int .i64 o.e.key,.int .i64 o.e.value,.slice o.a o.len o.cap] 71
 have m0:X.cell? ⟨w.heap.size,0,none⟩=some (.int .i64 o.kind):=coh hMX 0
 have m1:X.cell? ⟨w.heap.size,1,none⟩=some (.int .i64 o.cl):=coh hMX 1
 have m2:X.cell? ⟨w.heap.size,2,none⟩=some (.int .i64 o.n):=coh hMX 2
 have gM:=fun j=>coh hMX j
 have hLX:=h.below hbX
 have c5:=hLX.mask
 have HL:=hideA hLX;have HS:=hideA hs;obtain⟨aC,cC,r0,rC⟩:=hLX.row;have hpr:=pickI_range o.cl (ps.length:Int) (by have:=hs.pos;omega)
 obtain⟨j,hjp⟩:∃ j:Nat,pickI o.cl (ps.length:Int)=(j:Int):=⟨(pickI o.cl (ps.length:Int)).toNat,by omega⟩
 have hjl:j<ps.length:=by omega
 obtain⟨p,hj⟩:∃ p,ps[j]?=some p:=⟨_,List.getElem?_eq_getElem hjl⟩
 have hpm:p∈ps:=List.mem_of_getElem? hj
 obtain⟨gC,hga,rj⟩:=rC j p hj
 subst hga;have HP:Hid (∀ q,Calls Tryz.prog 44 #[.int .i64 o.cl,.int .i64 (ps.length:Int)] (X.drewN q) fun e w'=>e=.returned (.int .i64 (j:Int))∧w'=X.drewN q):=hideA fun q=>by
  rw[← hjp];exact pickL_any o.cl (ps.length:Int) (X.drewN q) (by have:=hs.pos;omega) (by have:=hs.len;omega) hs.cl.1 hs.cl.2
 have hj1:(j:Int)<(ps.length:Int):=by omega
 have hj0:(0:Int)≤(j:Int):=by omega
 have HO:Hid (∀ q,Calls Tryz.prog 42 #[.pointer (some ⟨p.q,0,none⟩),.agg #[.int .i64 o.kind,.int .i64 o.cl,.int .i64 o.n,.int .i64 o.i,.int .i64 o.e.client,.int .i64 o.e.seq,.int .i64 o.e.kind,.int .i64 o.e.key,.int .i64 o.e.value,.slice o.a o.len o.cap]] (X.drewN q) fun e w'=>e=.returned (.bool true)∧∃ ps',LawAt w0 w' B (.int .i64 63222) (M+8) ps'∧(∀ p∈ps',Kept p.c (T+1))∧ps.length≤ps'.length∧ps'.length≤ps.length+1):=hideA fun q=>by
  have hLq:=hLX.below (below_drewN (Below.refl X.heap.size X) q)
  refine (lawPlain_any o hLq hj hs.kept (by have:=hs.t;omega) hs.fit (by omega)).mono ?_
  rintro e w' ⟨rfl,ps',h1,h2,h3, -⟩;exact⟨rfl,ps',h1.less (by omega),h2,by omega,by omega⟩
 clear h hLX hs hMX hpr hjp rC hj;rcases hk with hk|hk|hk|hk|hk|hk|hk
 all_goals (
  rw[hk] at m0 hX gM HO ⊢
  go_enter Tryz.func23,Tryz.ntmps23
  go_wp2_with fail;go_quiet (fail)
  go_wp2_with fail;go_upto_region 5 with fail
  go_cut [3,5] (fun p3 p5 wx=>p3=.pointer (some ⟨w.heap.size,0,none⟩)∧p5=.pointer (some ⟨p.q,0,none⟩)∧∃ q,wx=X.drewN q)
  case first =>
   go_region_law (first|(rw[if_pos (by simp[Region.wanted])];go_simp;go_at_call 44;refine (HP.out _).mono ?_;rintro e W1 ⟨rfl,rfl⟩))
   all_goals (
    go_wp2_with fail;go_meet;exact⟨rfl,rfl,_,rfl⟩)
  case rest =>
   obtain⟨rfl,rfl,q,rfl⟩:=hcut;go_wp2_with fail;refine (HO.out q).mono ?_
   rintro e W ⟨rfl,hq⟩;have HQ:=hideA hq;clear hq;go_wp2_with fail;go_ret;exact⟨rfl,HQ.out⟩)
set_option linter.unusedVariables false in
theorem stepBook_any {w0 w:World}{B M T:Nat}{ps:List Pr}(o:LOp)(h:LawAt w0 w B (.int .i64 63222) M ps)(hs:StepFit ps T M o)(hk:o.kind=12∨o.kind=13∨o.kind=14∨o.kind=15) :
  Calls Tryz.prog 23 #[.pointer (some ⟨B,0,none⟩),.agg #[.int .i64 o.kind,.int .i64 o.cl,.int .i64 o.n,.int .i64 o.i,.int .i64 o.e.client,.int .i64 o.e.seq,.int .i64 o.e.kind,.int .i64 o.e.key,.int .i64 o.e.value,.slice o.a o.len o.cap]] w fun e w'=>e=.returned (.bool true)∧∃ ps',LawAt w0 w' B (.int .i64 63222) (M+8) ps'∧(∀ p∈ps',Kept p.c (T+1))∧ps.length≤ps'.length∧ps'.length≤ps.length+1:=by
 obtain⟨X,hX,hbX,hMX⟩:=bm1 w #[.int .i64 o.kind,.int .i64 o.cl,.int .i64 o.n,.int .i64 o.i,.int .i64 o.e.client,.int .i64 o.e.seq,.int .i64 o.e.kind,.int .i64 o.e.key,.int .i64 o.e.value,.slice o.a o.len o.cap] 71
 have m0:X.cell? ⟨w.heap.size,0,none⟩=some (.int .i64 o.kind):=coh hMX 0
 have m1:X.cell? ⟨w.heap.size,1,none⟩=some (.int .i64 o.cl):=coh hMX 1
 have m2:X.cell? ⟨w.heap.size,2,none⟩=some (.int .i64 o.n):=coh hMX 2
 have gM:=fun j=>coh hMX j
 have hLX:=h.below hbX
 have c5:=hLX.mask
 have HL:=hideA hLX;have HS:=hideA hs;obtain⟨aC,cC,r0,rC⟩:=hLX.row;have hpr:=pickI_range o.cl (ps.length:Int) (by have:=hs.pos;omega)
 obtain⟨j,hjp⟩:∃ j:Nat,pickI o.cl (ps.length:Int)=(j:Int):=⟨(pickI o.cl (ps.length:Int)).toNat,by omega⟩
 have hjl:j<ps.length:=by omega
 obtain⟨p,hj⟩:∃ p,ps[j]?=some p:=⟨_,List.getElem?_eq_getElem hjl⟩
 have hpm:p∈ps:=List.mem_of_getElem? hj
 obtain⟨gC,hga,rj⟩:=rC j p hj
 subst hga;have HP:Hid (∀ q,Calls Tryz.prog 44 #[.int .i64 o.cl,.int .i64 (ps.length:Int)] (X.drewN q) fun e w'=>e=.returned (.int .i64 (j:Int))∧w'=X.drewN q):=hideA fun q=>by
  rw[← hjp];exact pickL_any o.cl (ps.length:Int) (X.drewN q) (by have:=hs.pos;omega) (by have:=hs.len;omega) hs.cl.1 hs.cl.2
 have hj1:(j:Int)<(ps.length:Int):=by omega
 have hj0:(0:Int)≤(j:Int):=by omega
 have HO12:Hid (∀ q,Calls Tryz.prog 43 #[.pointer (some ⟨B,0,none⟩),.pointer (some ⟨p.q,0,none⟩)] (X.drewN q) fun e w'=>e=.returned (.bool true)∧∃ ps',LawAt w0 w' B (.int .i64 63222) (M+8) ps'∧(∀ p∈ps',Kept p.c (T+1))∧ps.length≤ps'.length∧ps'.length≤ps.length+1):=hideA fun q=>by
  have hLq:=hLX.below (below_drewN (Below.refl X.heap.size X) q)
  obtain⟨E,g,hg⟩:=(hs.kept p hpm).good
  refine (lawBag_any hLq hpm hg (by have:=hs.m;omega)).mono ?_
  rintro e w' ⟨rfl,h1⟩;exact⟨rfl,ps,h1.less (by omega),fun p hp=>(hs.kept p hp).more (by omega),Nat.le_refl _,by omega⟩
 have HO13:Hid (∀ q,Calls Tryz.prog 46 #[.pointer (some ⟨B,0,none⟩),.pointer (some ⟨p.q,0,none⟩),.int .i64 o.n] (X.drewN q) fun e w'=>e=.returned (.bool true)∧∃ ps',LawAt w0 w' B (.int .i64 63222) (M+8) ps'∧(∀ p∈ps',Kept p.c (T+1))∧ps.length≤ps'.length∧ps'.length≤ps.length+1):=hideA fun q=>by
  have hLq:=hLX.below (below_drewN (Below.refl X.heap.size X) q)
  obtain⟨E,g,hg⟩:=(hs.kept p hpm).good
  refine (lawStatus_any o.n hLq hpm hg (by have:=hs.m;omega) hs.fit.n).mono ?_
  rintro e w' ⟨rfl,h1⟩;exact⟨rfl,ps,h1.less (by omega),fun p hp=>(hs.kept p hp).more (by omega),Nat.le_refl _,by omega⟩
 have HO14:Hid (∀ q,Calls Tryz.prog 47 #[.pointer (some ⟨B,0,none⟩),.pointer (some ⟨p.q,0,none⟩),.int .i64 o.n] (X.drewN q) fun e w'=>e=.returned (.bool true)∧∃ ps',LawAt w0 w' B (.int .i64 63222) (M+8) ps'∧(∀ p∈ps',Kept p.c (T+1))∧ps.length≤ps'.length∧ps'.length≤ps.length+1):=hideA fun q=>by
  have hLq:=hLX.below (below_drewN (Below.refl X.heap.size X) q)
  obtain⟨E,g,hg⟩:=(hs.kept p hpm).good
  refine (lawBallots_any o.n hLq hpm hg (by have:=hs.m;omega) hs.fit.n).mono ?_
  rintro e w' ⟨rfl,h1⟩;exact⟨rfl,ps,h1.less (by omega),fun p hp=>(hs.kept p hp).more (by omega),Nat.le_refl _,by omega⟩
 have HO15:Hid (∀ q,Calls Tryz.prog 48 #[.pointer (some ⟨B,0,none⟩),.pointer (some ⟨p.q,0,none⟩)] (X.drewN q) fun e w'=>e=.returned (.bool true)∧∃ ps',LawAt w0 w' B (.int .i64 63222) (M+8) ps'∧(∀ p∈ps',Kept p.c (T+1))∧ps.length≤ps'.length∧ps'.length≤ps.length+1):=hideA fun q=>by
  have hLq:=hLX.below (below_drewN (Below.refl X.heap.size X) q)
  obtain⟨E,g,hg⟩:=(hs.kept p hpm).good
  refine (lawAnswers_any hLq hpm (by have:=(hs.kept p hpm).told;have:=hs.t;omega) (by have:=hs.m;omega)).mono ?_
  rintro e w' ⟨rfl,h1⟩;exact⟨rfl,ps,h1.less (by omega),fun p hp=>(hs.kept p hp).more (by omega),Nat.le_refl _,by omega⟩
 clear h hLX hs hMX hpr hjp rC hj;rcases hk with hk|hk|hk|hk
 all_goals (
  rw[hk] at m0 hX gM ⊢
  go_enter Tryz.func23,Tryz.ntmps23
  go_wp2_with fail;go_quiet (fail)
  go_wp2_with fail;go_upto_region 5 with fail
  go_cut [3,5] (fun p3 p5 wx=>p3=.pointer (some ⟨w.heap.size,0,none⟩)∧p5=.pointer (some ⟨p.q,0,none⟩)∧∃ q,wx=X.drewN q)
  case first =>
   go_region_law (first|(rw[if_pos (by simp[Region.wanted])];go_simp;go_at_call 44;refine (HP.out _).mono ?_;rintro e W1 ⟨rfl,rfl⟩))
   all_goals (
    go_wp2_with fail;go_meet;exact⟨rfl,rfl,_,rfl⟩)
  case rest =>
   obtain⟨rfl,rfl,q,rfl⟩:=hcut;go_wp2_with fail;first|refine (HO12.out q).mono ?_|refine (HO13.out q).mono ?_|refine (HO14.out q).mono ?_|refine (HO15.out q).mono ?_
   rintro e W ⟨rfl,hq⟩;have HQ:=hideA hq;clear hq;go_wp2_with fail;go_ret;exact⟨rfl,HQ.out⟩)
set_option linter.unusedVariables false in
theorem stepLow_any {w0 w:World}{B M T:Nat}{ps:List Pr}(o:LOp)(h:LawAt w0 w B (.int .i64 63222) M ps)(hs:StepFit ps T M o)(hk:o.kind<1) :
  Calls Tryz.prog 23 #[.pointer (some ⟨B,0,none⟩),.agg #[.int .i64 o.kind,.int .i64 o.cl,.int .i64 o.n,.int .i64 o.i,.int .i64 o.e.client,.int .i64 o.e.seq,.int .i64 o.e.kind,.int .i64 o.e.key,.int .i64 o.e.value,.slice o.a o.len o.cap]] w fun e w'=>e=.returned (.bool true)∧∃ ps',LawAt w0 w' B (.int .i64 63222) (M+8) ps'∧(∀ p∈ps',Kept p.c (T+1))∧ps.length≤ps'.length∧ps'.length≤ps.length+1:=by
 obtain⟨X,hX,hbX,hMX⟩:=bm1 w #[.int .i64 o.kind,.int .i64 o.cl,.int .i64 o.n,.int .i64 o.i,.int .i64 o.e.client,.int .i64 o.e.seq,.int .i64 o.e.kind,.int .i64 o.e.key,.int .i64 o.e.value,.slice o.a o.len o.cap] 71
 have m0:X.cell? ⟨w.heap.size,0,none⟩=some (.int .i64 o.kind):=coh hMX 0
 have hLX:=h.below hbX
 have HL:=hideA hLX;have HS:=hideA hs;have d1:decide (o.kind<1)=true:=decide_eq_true hk
 clear h hLX hs hMX;go_enter Tryz.func23,Tryz.ntmps23
 go_wp2_with fail;go_quiet (fail)
 go_wp2_with fail;go_ret;exact⟨rfl,ps,(HL.out.below (below_drewN (Below.refl _ _) _)).less (by omega),fun p hp=>(HS.out.kept p hp).more (by omega),Nat.le_refl _,by omega⟩
set_option linter.unusedVariables false in
theorem stepHigh_any {w0 w:World}{B M T:Nat}{ps:List Pr}(o:LOp)(h:LawAt w0 w B (.int .i64 63222) M ps)(hs:StepFit ps T M o)(hk:15<o.kind) :
  Calls Tryz.prog 23 #[.pointer (some ⟨B,0,none⟩),.agg #[.int .i64 o.kind,.int .i64 o.cl,.int .i64 o.n,.int .i64 o.i,.int .i64 o.e.client,.int .i64 o.e.seq,.int .i64 o.e.kind,.int .i64 o.e.key,.int .i64 o.e.value,.slice o.a o.len o.cap]] w fun e w'=>e=.returned (.bool true)∧∃ ps',LawAt w0 w' B (.int .i64 63222) (M+8) ps'∧(∀ p∈ps',Kept p.c (T+1))∧ps.length≤ps'.length∧ps'.length≤ps.length+1:=by
 obtain⟨X,hX,hbX,hMX⟩:=bm1 w #[.int .i64 o.kind,.int .i64 o.cl,.int .i64 o.n,.int .i64 o.i,.int .i64 o.e.client,.int .i64 o.e.seq,.int .i64 o.e.kind,.int .i64 o.e.key,.int .i64 o.e.value,.slice o.a o.len o.cap] 71
 have m0:X.cell? ⟨w.heap.size,0,none⟩=some (.int .i64 o.kind):=coh hMX 0
 have hLX:=h.below hbX
 have HL:=hideA hLX;have HS:=hideA hs;have hn:¬ o.kind<1:=by omega
 have d1:decide (o.kind<1)=false:=decide_eq_false hn
 have d2:decide (15<o.kind)=true:=decide_eq_true hk
 clear h hLX hs hMX;go_enter Tryz.func23,Tryz.ntmps23
 go_wp2_with fail;go_quiet (fail)
 go_wp2_with fail;go_ret;exact⟨rfl,ps,(HL.out.below (below_drewN (Below.refl _ _) _)).less (by omega),fun p hp=>(HS.out.kept p hp).more (by omega),Nat.le_refl _,by omega⟩
theorem lawStep_any {w0 w:World}{B M T:Nat}{ps:List Pr}(o:LOp)(h:LawAt w0 w B (.int .i64 63222) M ps)(hs:StepFit ps T M o) :
  Calls Tryz.prog 23 #[.pointer (some ⟨B,0,none⟩),.agg #[.int .i64 o.kind,.int .i64 o.cl,.int .i64 o.n,.int .i64 o.i,.int .i64 o.e.client,.int .i64 o.e.seq,.int .i64 o.e.kind,.int .i64 o.e.key,.int .i64 o.e.value,.slice o.a o.len o.cap]] w fun e w'=>e=.returned (.bool true)∧∃ ps',LawAt w0 w' B (.int .i64 63222) (M+8) ps'∧(∀ p∈ps',Kept p.c (T+1))∧ps.length≤ps'.length∧ps'.length≤ps.length+1:=by
 by_cases h0:o.kind<1
 ·exact stepLow_any o h hs h0
 by_cases h16:15<o.kind
 ·exact stepHigh_any o h hs h16
 by_cases h1:o.kind=1
 ·exact step1_any o h hs h1
 by_cases h3:o.kind=3∨o.kind=8∨o.kind=11
 ·exact stepOff_any o h hs h3
 by_cases h12:o.kind=12∨o.kind=13∨o.kind=14∨o.kind=15
 ·exact stepBook_any o h hs h12
 exact stepPlain_any o h hs (by omega)
theorem lawWhole_any {w0 w:World}{B:Nat}{x5:Value}{M:Nat}{ps:List Pr}(h:LawAt w0 w B x5 M ps)(hM:M≤1000000000) :
  Calls Tryz.prog 24 #[.pointer (some ⟨B,1,none⟩)] w fun e w'=>e=.returned (.bool true)∧LawAt w0 w' B x5 M ps:=by
 have hL:=h
 obtain⟨b,vC,vI,vL,vT,vA,h⟩:=h;have hs:=h.small
 refine (h.book.whole (by omega) (by omega) (by omega) (by omega)).mono ?_
 rintro e w' ⟨rfl,hb⟩;exact⟨rfl,hL.below hb⟩
theorem lawKnown_any {w0 w:World}{B:Nat}{x5:Value}(h:LawAt w0 w B x5 0 []) :
  Calls Tryz.prog 22 #[.pointer (some ⟨B,0,none⟩)] w fun e w'=>e=.returned (.bool true)∧∃ ps',LawAt w0 w' B x5 4 ps'∧(∀ p∈ps',Kept p.c 1)∧ps'.length=1:=by
 have H1:=hideA (lawOpened_any 3 h (by simp))
 clear h;go_enter Tryz.func22,Tryz.ntmps22
 go_wp2_with fail;refine H1.out.mono ?_
 rintro e W1 ⟨rfl,ps1,hL1,hps1⟩;obtain⟨p,hp1,hps1'⟩:∃ p,p.c=Clu.first 3∧ps1=[p]:=by
  rcases hps1 with ⟨-, -,p,q1,q2⟩|⟨q, -⟩
  ·exact⟨p,q1,by simpa using q2⟩
  ·exact absurd ⟨by omega,by omega⟩ q
 subst hps1';obtain⟨aC,cC,c0,rC⟩:=hL1.row;obtain⟨gC,hga,rj⟩:=rC 0 p rfl
 subst hga;have HPl:Hid (Calls Tryz.prog 42 #[.pointer (some ⟨p.q,0,none⟩),.agg #[.int .i64 2,.int .i64 0,.int .i64 0,.int .i64 0,.int .i64 3,.int .i64 999,.int .i64 1,.int .i64 15,.int .i64 1,.slice none 0 0]] W1 fun e w'=>e=.returned (.bool true)∧∃ p',p'.q=p.q∧LawAt w0 w' B x5 0 [p']∧Kept p'.c 1):=hideA (by
  refine (lawPlain_any ⟨2,0,0,0,⟨3,999,1,15,1⟩,none,0,0⟩ hL1 (j:=0) rfl (T:=0) (fun r hr=>by rw[List.mem_singleton] at hr;rw[hr,hp1];exact Kept.first 3 (by omega) (by omega)) (by omega) ⟨by decide,by decide⟩ (.inl rfl)).mono ?_
  rintro e w' ⟨rfl,ps',h1,h2,h3,h4⟩;match ps',h3 with
  | [p'],_ =>
   refine⟨rfl,p', ?_,h1,h2 p' (List.mem_singleton.2 rfl)⟩
   simpa using h4)
 clear hL1 hps1 rC;go_wp2_with fail;refine HPl.out.mono ?_
 rintro e W2 ⟨rfl,p',hq,hL2,hK⟩;have HB:Hid (Calls Tryz.prog 43 #[.pointer (some ⟨B,0,none⟩),.pointer (some ⟨p.q,0,none⟩)] W2 fun e w'=>e=.returned (.bool true)∧LawAt w0 w' B x5 4 [p']):=hideA (by
  obtain⟨E,g,hg⟩:=hK.good;rw[← hq];exact lawBag_any hL2 (List.mem_singleton.2 rfl) hg (by omega))
 have HKp:=hideA hK;clear hL2 hK hq c0 rj;go_wp2_with fail;refine HB.out.mono ?_
 rintro e W3 ⟨rfl,hL3⟩;have HL3:=hideA hL3;clear hL3;go_wp2_with fail;go_ret;exact⟨rfl,[p'],HL3.out,fun r hr=>by rw[List.mem_singleton] at hr;rw[hr];exact HKp.out,rfl⟩
def OpsAt (w:World)(v:Value)(l:List LOp):Prop :=
 ∃ a c,v=.slice a l.length c∧∀ i o,l[i]?=some o→∃ b off,a=some ⟨b,off,none⟩∧b<w.heap.size∧(∀ t,t<10→w.cell? ⟨b,off+i*10+t,none⟩=(#[.int .i64 o.kind,.int .i64 o.cl,.int .i64 o.n,.int .i64 o.i,.int .i64 o.e.client,.int .i64 o.e.seq,.int .i64 o.e.kind,.int .i64 o.e.key,.int .i64 o.e.value,.slice o.a o.len o.cap]:Array Value)[t]?)∧o.Fit∧(-9223372036854775808≤o.cl∧o.cl≤9223372036854775807)
theorem upTo_any (v:Value)(l:List LOp)(w:World)(hv:OpsAt w v l)(hl:l.length≤1048576) :
  Calls Tryz.prog 10 #[v,.int .i64 63222] w fun e w'=>e=.returned (.int .i64 (-1))∧Below w.heap.size w w':=by
 obtain⟨a,cp,rfl,hv⟩:=hv;have HV:=hideA hv;obtain⟨X,hX,hbX,hM⟩:=bm1 w #[.slice none 0 0,.slice none 0 0,.slice none 0 0,.slice none 0 0,.slice none 0 0,.int .i64 63222] 67
 have hLX:=law_first (.int .i64 63222) hbX hM
 have HK:=hideA (lawKnown_any hLX)
 generalize hB:w.heap.size=B at *
 clear hv hM hLX;go_enter Tryz.func10,Tryz.ntmps10
 go_wp2_with fail;refine HK.out.mono ?_
 rintro e W1 ⟨rfl,ps1,hL1,hk1,hn1⟩;have H1:=hideA (And.intro hL1 (And.intro hk1 hn1))
 clear hL1 hk1 hn1;go_wp2_with fail;go_loopw [6,7] (fun ok i wr=>∃ k:Nat,k≤l.length∧i=.int .i64 k∧(∃ ob:Bool,ok=.bool ob)∧∃ ps,LawAt w wr B (.int .i64 63222) (4+8*k) ps∧(∀ p∈ps,Kept p.c (1+k))∧1≤ps.length∧ps.length≤1+k) (fun _ i _=>l.length-(intOf i).toNat)
 case atStart=>exact⟨0,Nat.zero_le _,rfl,⟨_,rfl⟩,ps1,H1.out.1,H1.out.2.1,by have:=H1.out.2.2;omega,by have:=H1.out.2.2;omega⟩
 case round =>
  obtain⟨k,hk,rfl,⟨ob,rfl⟩,ps,hL,hkp,hp1,hp2⟩:=hrel;have HL:=hideA (And.intro hL (And.intro hkp (And.intro hp1 hp2)))
  have hbe:Below w.heap.size w wr:=by
   obtain⟨b,vC,vI,vL,vT,vA,h⟩:=hL;exact h.be
  by_cases hlt:k<l.length
  ·have hk0:(0:Int)≤(k:Int):=by omega
   have hk1:(k:Int)<(l.length:Int):=by omega
   obtain⟨o,ho⟩:∃ o,l[k]?=some o:=⟨_,List.getElem?_eq_getElem hlt⟩
   obtain⟨b,off,rfl,hbl,hcell,hfit,hcl⟩:=HV.out k o ho
   have HSt:=hideA (lawStep_any (M:=4+8*k) (T:=1+k) o hL ⟨hkp,by omega,by omega,by omega,by omega,hfit,hcl⟩)
   have cw:∀ t,t<10→wr.cell? ⟨b,off+k*10+t,none⟩=(#[.int .i64 o.kind,.int .i64 o.cl,.int .i64 o.n,.int .i64 o.i,.int .i64 o.e.client,.int .i64 o.e.seq,.int .i64 o.e.kind,.int .i64 o.e.key,.int .i64 o.e.value,.slice o.a o.len o.cap]:Array Value)[t]?:=fun t ht=>by
    have hc:=hcell t ht
    have hlt2:t<10:=ht
    obtain⟨u,hu⟩:∃ u,(#[.int .i64 o.kind,.int .i64 o.cl,.int .i64 o.n,.int .i64 o.i,.int .i64 o.e.client,.int .i64 o.e.seq,.int .i64 o.e.kind,.int .i64 o.e.key,.int .i64 o.e.value,.slice o.a o.len o.cap]:Array Value)[t]?=some u:=⟨_,Array.getElem?_eq_getElem hlt2⟩
    rw[hu] at hc ⊢
    exact cell_later hbe hc
   have q0:=cw 0 (by omega)
   have q1:=cw 1 (by omega)
   have q2:=cw 2 (by omega)
   have q3:=cw 3 (by omega)
   have q4:=cw 4 (by omega)
   have q5:=cw 5 (by omega)
   have q6:=cw 6 (by omega)
   have q7:=cw 7 (by omega)
   have q8:=cw 8 (by omega)
   have q9:=cw 9 (by omega)
   simp only [Nat.add_zero] at q0
   clear cw hcell hL hkp;go_wp2_with fail;refine HSt.out.mono ?_
   rintro e W2 ⟨rfl,ps',hL2,hk2,hn2,hn3⟩;have HW:=hideA (lawWhole_any hL2 (by omega))
   have H2:=hideA (And.intro hk2 (And.intro hn2 hn3))
   clear hL2 hk2 q0 q1 q2 q3 q4 q5 q6 q7 q8 q9;go_wp2_with fail;refine HW.out.mono ?_
   rintro e W3 ⟨rfl,hL3⟩;have HL3:=hideA hL3;clear hL3;go_wp2_with fail;go_roundw
   case rel =>
    refine⟨k+1,by omega,by go_num,⟨_,rfl⟩,ps',HL3.out.less (by omega),fun p hp=>(H2.out.1 p hp).more (by omega), ?_, ?_⟩
    ·have:=H2.out.2.1;omega
    ·have:=H2.out.2.2;omega
   case measure=>simp[intOf];omega
  ·obtain rfl:k=l.length:=by omega
   have HAs:=hideA (lawAsked_any hL (fun p hp=>⟨(hkp p hp).good,by have:=(hkp p hp).told;omega⟩) (by omega) (by omega))
   clear hL hkp;go_wp2_with fail;refine HAs.out.mono ?_
   rintro e W4 ⟨rfl,hb4⟩;go_wp2_with fail;go_ret;exact⟨rfl,by rw[← hB];exact hb4⟩
theorem chain_any (w:World):Calls Tryz.prog 11 #[] w fun e w'=>e=.returned (.int .i64 63222)∧w'=w:=by
 go_enter Tryz.func11,Tryz.ntmps11
 go_wp2_with fail;go_ret;exact⟨rfl,rfl⟩
theorem chains_any (v:Value)(l:List LOp)(w:World)(hv:OpsAt w v l)(hl:l.length≤1048576) :
  Calls Tryz.prog 3 #[v] w fun e w'=>e=.returned (.bool true)∧Below w.heap.size w w':=by
 have HU:=hideA (upTo_any v l w hv hl)
 have HC:=hideA (chain_any w)
 obtain⟨a,cp,rfl,hv⟩:=hv;clear hv;go_enter Tryz.func3,Tryz.ntmps3
 go_wp2_with fail;refine HC.out.mono ?_
 rintro e W ⟨rfl,rfl⟩;go_wp2_with fail;refine HU.out.mono ?_
 rintro e W2 ⟨rfl,hb⟩;go_wp2_with fail;go_ret;exact⟨rfl,hb⟩
end Go.Proofs.YtgieeeeeiggoeaaGreat
