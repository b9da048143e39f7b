import Derived.Test.YtgieeeeeiggoeaaGreatC33
import Derived.BigRegion
import Derived.Lib.SmallJoins
import Derived.Test.YtgieeeeeiggoeaaGreatC08
import Derived.Test.YtgieeeeeiggoeaaGreatC13
import Derived.Deep.AppendLies
import Derived.Deep.RegionLaw
import Derived.Test.YtgieeeeeiggoeaaGreatC09
import Derived.Test.YtgieeeeeiggoeaaGreatC02
import Derived.Test.YtgieeeeeiggoeaaGreatC28
import Derived.Test.YtgieeeeeiggoeaaGreatC18
import Derived.Test.YtgieeeeeiggoeaaGreatC05
import Derived.Test.YtgieeeeeiggoeaaGreatC36
set_option maxRecDepth 100000
set_option maxHeartbeats 8000000
namespace Go.Proofs.YtgieeeeeiggoeaaGreat
open Go.RowKit
def AnsAt (w:World)(a:Option Addr)(l:List Ans):Prop:=∀ (i:Nat) (x:Ans),l[i]?=some x→∃ b,a=some ⟨b,0,none⟩ ∧
 w.cell? ⟨b,i*3,none⟩=some (.int .i64 x.client)∧w.cell? ⟨b,i*3+1,none⟩=some (.int .i64 x.seq)∧w.cell? ⟨b,i*3+2,none⟩=some (.int .i64 x.value)
theorem ansAt_of {w:World}{base:Nat}{v:Value}{l:List Ans}(h:w.ownsRow base 113 3 v l.length (ints (ansNums l))):∃ a c,v=.slice a l.length c∧AnsAt w a l:=by
 obtain⟨a,c,rfl⟩:=osh h
 refine⟨a,c,rfl, ?_⟩
 intro i x hx;have hi:=(List.getElem?_eq_some_iff.1 hx).1
 obtain⟨g,cap,hv,_,_⟩:=h.form (by omega)
 cases hv
 have at_:∀ j,j<3→∀ z,x.nums[j]?=some z→w.cell? ⟨g,i*3+j,none⟩=some (.int .i64 z):=by
  intro j hj z hz;rw[World.ownsRow.cellAt h (i*3+j) (by omega)]
  unfold ints
  rw[List.getElem?_map,ansNums_at l i j x hx hj,hz]
  rfl
 exact⟨g,rfl,at_ 0 (by omega) _ rfl,at_ 1 (by omega) _ rfl,at_ 2 (by omega) _ rfl⟩
end Go.Proofs.YtgieeeeeiggoeaaGreat
namespace Go.Proofs.YtgieeeeeiggoeaaGreat
open Go.RowKit Go.Shelf
def TxtsAt (w:World)(v:Value)(l:List (List UInt8)):Prop :=
 ∃ a c,v=.slice a l.length c∧∀ i x,l[i]?=some x→∃ g,a=some ⟨g,0,none⟩∧w.cell? ⟨g,i,none⟩=some (.string (bs x))
theorem TxtsAt.of_owns {w:World}{base:Nat}{v:Value}{l:List (List UInt8)}(h:w.ownsRow base 9 1 v l.length (strs l)):TxtsAt w v l:=by
 obtain⟨a,c,rfl⟩:=osh h
 refine⟨a,c,rfl,fun i x hx => ?_⟩
 have hi:=(List.getElem?_eq_some_iff.1 hx).1
 obtain⟨g,cap,hv, -, -⟩:=h.form (by omega)
 cases hv
 refine⟨g,rfl, ?_⟩
 rw[World.ownsRow.cellAt h i (by omega)]
 unfold strs
 rw[List.getElem?_map,hx]
 rfl
theorem sameTexts_any (a b:Value)(l:List (List UInt8))(w:World)(ha:TxtsAt w a l)(hb:TxtsAt w b l)(hl:l.length≤1000000000) :
  Calls Tryz.prog 91 #[a,b] w fun e w'=>e=.returned (.bool true)∧∃ q,w'=w.drewN q:=by
 obtain⟨x,c,rfl,ha⟩:=ha;obtain⟨y,d,rfl,hb⟩:=hb;have HA:=hideA ha;have HB:=hideA hb;clear ha hb;go_enter Tryz.func91,Tryz.ntmps91
 go_wp2_with fail;go_loopw [5] (fun i wr=>∃ k q:Nat,k≤l.length∧i=.int .i64 k∧wr=w.drewN q) (fun i _=>l.length-(intOf i).toNat)
 case atStart=>exact⟨0,0,Nat.zero_le _,rfl,rfl⟩
 case round =>
  obtain⟨k,q,hk,rfl,rfl⟩:=hrel;have hl0:(0:Int)≤(k:Int):=by omega
  by_cases hlt:k<l.length
  ·obtain⟨b1,rfl,c1⟩:=HA.out k _ (List.getElem?_eq_getElem hlt)
   obtain⟨b2,rfl,c2⟩:=HB.out k _ (List.getElem?_eq_getElem hlt)
   generalize l[k]=v at *
   have hl1:(k:Int)<(l.length:Int):=by omega
   go_wp2_with fail;go_quiet (fail)
   go_wp2_with fail;exact⟨⟨k+1,_,by omega,by go_num,rfl⟩,by simp[intOf];omega⟩
  ·go_wp2_with fail
   go_ret;exact⟨rfl,q,rfl⟩
theorem sameAnswers_any (xa ya:Option Addr)(ca cb:Nat)(l:List Ans)(w:World)(ha:AnsAt w xa l)(hb:AnsAt w ya l)(hl:l.length≤1000000000) :
  Calls Tryz.prog 104 #[.slice xa l.length ca,.slice ya l.length cb] w fun e w'=>e=.returned (.bool true)∧∃ q,w'=w.drewN q:=by
 have HA:=hideA ha;have HB:=hideA hb;clear ha hb;go_enter Tryz.func104,Tryz.ntmps104
 go_wp2_with fail;go_loopw [5] (fun i wr=>∃ k q:Nat,k≤l.length∧i=.int .i64 k∧wr=w.drewN q) (fun i _=>l.length-(intOf i).toNat)
 case atStart=>exact⟨0,0,Nat.zero_le _,rfl,rfl⟩
 case round =>
  obtain⟨k,q,hk,rfl,rfl⟩:=hrel;have hl0:(0:Int)≤(k:Int):=by omega
  by_cases hlt:k<l.length
  ·obtain⟨b1,rfl,c1,c2,c3⟩:=HA.out k _ (List.getElem?_eq_getElem hlt)
   obtain⟨b2,rfl,d1,d2,d3⟩:=HB.out k _ (List.getElem?_eq_getElem hlt)
   generalize l[k]=v at *
   have hl1:(k:Int)<(l.length:Int):=by omega
   go_wp2_with fail;go_quiet (fail)
   go_wp2_with fail;exact⟨⟨k+1,_,by omega,by go_num,rfl⟩,by simp[intOf];omega⟩
  ·go_wp2_with fail
   go_ret;exact⟨rfl,q,rfl⟩
structure Pr where
 q:Nat
 x:Nat
 y:Nat
 c:Clu
 F:Nat→Prop
def PrAt (w:World)(p:Pr):Prop :=
 ∃ FX FY,w.heap[p.q]?=some (.cells #[.pointer (some ⟨p.x,0,none⟩),.pointer (some ⟨p.y,0,none⟩)] 123)∧CAt w FX p.x p.c∧RefAt w FY p.y p.c∧(∀ k,k=p.q∨FX k∨FY k→p.F k)∧((∀ k,FX k→¬ FY k)∧¬ FX p.q∧¬ FY p.q)∧∀ k,p.F k→k<w.heap.size
theorem PrAt.keep {w w':World}{p:Pr}(h:PrAt w p)(hk:∀ k,p.F k→w'.heap[k]?=w.heap[k]?):PrAt w' p:=by
 obtain⟨FX,FY,h1,h2,h3,h4,h5,h6⟩:=h;refine⟨FX,FY,(hk _ (h4 _ (.inl rfl))).trans h1, ?_,h3.keep fun k e=>hk k (h4 k (.inr (.inr e))),h4,h5,fun k e=>lt_of_keep (h6 k e) (hk k e)⟩
 obtain⟨gs,cap,b,Fn,vr,va,vm,vb,vt,h2⟩:=h2;exact⟨gs,cap,b,Fn,vr,va,vm,vb,vt,h2.keep fun k e=>hk k (h4 k (.inr (.inl e)))⟩
structure LawIn (w0 w:World)(B:Nat)(x5:Value)(M:Nat)(b:Bk)(ps:List Pr)(vC vI vL vT vA:Value):Prop where
 book:BookIn w B (B+1) vC x5 b vI vL vT vA
 row:w.ownsRow (B+1) 104 1 vC ps.length (ps.map fun p=>Value.pointer (some ⟨p.q,0,none⟩))
 prs:∀ p∈ps,PrAt w p
 off:∀ p∈ps,∀ k,p.F k→B+1≤k∧¬ b.own vI vL vT vA k∧vC.ownBlock≠some k
 small:b.lI.length≤M∧b.lL.length≤M∧b.lT.length≤M∧b.lA.length≤M
 be:Below w0.heap.size w0 w
 new:w0.heap.size≤B
 apart:ps.Pairwise (fun p q=>∀ k,p.F k→¬ q.F k)
def LawAt (w0 w:World)(B:Nat)(x5:Value)(M:Nat)(ps:List Pr):Prop:=∃ b vC vI vL vT vA,LawIn w0 w B x5 M b ps vC vI vL vT vA
theorem Bk.lt {w:World}{B base:Nat}{x0 x5:Value}{b:Bk}{vI vL vT vA:Value}(h:BookIn w B base x0 x5 b vI vL vT vA){k:Nat}(hk:b.own vI vL vT vA k):k<w.heap.size:=by
 have key:∀ {base size n:Nat} {e:TypeId} {v:Value} {xs:List Value},w.ownsRow base e size v n xs→v.ownBlock=some k→k<w.heap.size:=fun hr e=>(Array.getElem?_eq_some_iff.1 (obc hr e).choose_spec.1).1
 rcases hk with q|q|q|q|⟨p,hp,q⟩|⟨p,hp,q⟩|⟨p,hp,q⟩|⟨p,hp,q⟩
 ·exact key h.rI q
 ·exact key h.rL q
 ·exact key h.rT q
 ·exact key h.rA q
 ·obtain⟨i,hi,rfl⟩:=List.getElem_of_mem hp
  exact key (h.eI i _ (List.getElem?_eq_getElem hi)).2 q
 ·obtain⟨i,hi,rfl⟩:=List.getElem_of_mem hp
  exact key (h.eL i _ (List.getElem?_eq_getElem hi)).2 q
 ·obtain⟨i,hi,rfl⟩:=List.getElem_of_mem hp
  exact key (h.eT i _ (List.getElem?_eq_getElem hi)).2 q
 ·obtain⟨i,hi,rfl⟩:=List.getElem_of_mem hp
  exact key (h.eA i _ (List.getElem?_eq_getElem hi)).2 q
theorem LawIn.below {w0 w w':World}{B:Nat}{x5:Value}{M:Nat}{b:Bk}{ps:List Pr}{vC vI vL vT vA:Value}(h:LawIn w0 w B x5 M b ps vC vI vL vT vA)(hb:Below w.heap.size w w'):LawIn w0 w' B x5 M b ps vC vI vL vT vA where
 book:=h.book.keep hb.size fun k hk=>hb.block k (hk.elim (fun e=>by rw[e];exact (Array.getElem?_eq_some_iff.1 h.book.blk).1) (fun e=>Bk.lt h.book e))
 row:=okp h.row fun k _ hk=>hb.block k hk
 prs:=fun p hp=>(h.prs p hp).keep fun k hk=>hb.block k (by obtain⟨_,_,_,_,_,_,_,h6⟩:=h.prs p hp;exact h6 k hk)
 off:=h.off
 small:=h.small
 be:=h.be.trans (hb.mono h.be.size)
 new:=h.new
 apart:=h.apart
theorem LawIn.turned {w0 w w':World}{B:Nat}{x5:Value}{M:Nat}{b b':Bk}{ps:List Pr}{vC vI vL vT vA vI' vL' vT' vA' v u:Value}{bv:Nat}{e1 e2:TypeId}{s1 s2 n1 n2:Nat}{xs1 xs2:List Value}(h:LawIn w0 w B x5 M b ps vC vI vL vT vA)(hbook:BookIn w' B (B+1) vC x5 b' vI' vL' vT' vA')
  (hM:Moved w w' (fun k=>k=B∨v.ownBlock=some k∨u.ownBlock=some k)) (hu:w.ownsRow (B+1) e2 s2 u n2 xs2) (huB:∀ k,u.ownBlock=some k→b.own vI vL vT vA k) (he2:e2≠104) (hv:w.ownsRow bv e1 s1 v n1 xs1) (he1:e1≠104) (hbv:∀ p∈ps,∀ k,p.F k→k<bv) (hB:B+1≤bv)
  (hown:∀ k,b'.own vI' vL' vT' vA' k→b.own vI vL vT vA k∨bv≤k) (hs:b'.lI.length≤M+4∧b'.lL.length≤M+4∧b'.lT.length≤M+4∧b'.lA.length≤M+4):LawIn w0 w' B x5 (M+4) b' ps vC vI' vL' vT' vA' where
 book:=hbook
 row:=hM.owns h.row fun k hk hS=>by
  rcases hS with q|q|q
  ·exact bty h.book.blk h.row (by decide) (q ▸ hk)
  ·exact otw hv h.row he1 k q hk
  ·exact otw hu h.row he2 k q hk
 prs:=fun p hp=>(h.prs p hp).keep fun k hk=>hM.block k (by obtain⟨_,_,_,_,_,_,_,h6⟩:=h.prs p hp;exact h6 k hk) (fun hS=>by
  have ho:=h.off p hp k hk
  rcases hS with q|q|q
  ·omega
  ·have:=(hv.lt k q).1
   have:=hbv p hp k hk
   omega
  ·exact ho.2.1 (huB k q))
 off:=fun p hp k hk=>⟨(h.off p hp k hk).1,fun e=>by
  rcases hown k e with q|q
  ·exact (h.off p hp k hk).2.1 q
  ·have:=hbv p hp k hk
   omega,(h.off p hp k hk).2.2⟩
 small:=hs
 be:=h.be.trans (hM.to_below (fun k q=>by
  have:=h.new
  rcases q with q|q|q
  ·omega
  ·have:=(hv.lt k q).1
   omega
  ·have:=(hu.lt k q).1
   omega) h.be.size)
 new:=h.new
 apart:=h.apart
theorem strs_map (l:List (List UInt8 × Bool)):bagV l=strs (l.map Prod.fst):=by
 unfold bagV
 unfold strs
 rw[List.map_map];rfl
theorem lawBag_any {w0 w:World}{B:Nat}{x5:Value}{M:Nat}{ps:List Pr}{p:Pr}{E:Int}{g:Gh}(h:LawAt w0 w B x5 M ps)(hp:p∈ps)(hg:Good p.c E g)(hM:M≤1000000000) :
  Calls Tryz.prog 43 #[.pointer (some ⟨B,0,none⟩),.pointer (some ⟨p.q,0,none⟩)] w fun e w'=>e=.returned (.bool true)∧LawAt w0 w' B x5 (M+4) ps:=by
 obtain⟨b,vC,vI,vL,vT,vA,h⟩:=h;obtain⟨FX,FY,hq,hX,hY,hF,hXY,hlt⟩:=h.prs p hp
 have hbl:=hg.bag
 have q0:w.cell? ⟨p.q,0,none⟩=some (.pointer (some ⟨p.x,0,none⟩)):=coh hq 0
 have q1:w.cell? ⟨p.q,1,none⟩=some (.pointer (some ⟨p.y,0,none⟩)):=coh hq 1
 have HB:=hideA (cluBag_any hX hg.bag)
 have HY:=hideA hY;have HL:=hideA h;have Hlt:Hid (∀ p∈ps,∀ k,p.F k→k<w.heap.size):=hideA fun p hp k hk=>by obtain⟨_,_,_,_,_,_,_,h6⟩:=h.prs p hp;exact h6 k hk
 clear hq hX hY hF hXY hlt h hg;go_enter Tryz.func43,Tryz.ntmps43
 go_wp2_with fail;refine HB.out.mono ?_
 rintro e W1 ⟨v,rfl,hv,hb1⟩;rw[strs_map] at hv
 obtain⟨av,cv,hvv⟩:=osh hv
 subst hvv;have q1':=cell_later hb1 q1
 have HV:=hideA hv;have HT:=hideA (refTexts_any (HY.out.keep fun k hk=>hb1.block k (HY.out.lt' hk)) (by omega))
 clear hv q0;go_wp2_with fail;refine HT.out.mono ?_
 rintro e W2 ⟨v2,rfl,hv2,hb2⟩;obtain⟨av2,cv2,hvv2⟩:=osh hv2
 subst hvv2;have hlm:(p.c.bag.map Prod.fst).length=p.c.bag.length:=List.length_map _
 have hb12:=hb1.trans (hb2.mono hb1.size)
 have hvW2:W2.ownsRow w.heap.size 9 1 (.slice av p.c.bag.length cv) p.c.bag.length (strs (p.c.bag.map Prod.fst)):=okp HV.out fun k _ hk=>hb2.block k hk
 have HS:=hideA (sameTexts_any (.slice av p.c.bag.length cv) (.slice av2 p.c.bag.length cv2) (p.c.bag.map Prod.fst) W2 (TxtsAt.of_owns (base:=w.heap.size) (by rw[hlm];exact hvW2)) (TxtsAt.of_owns (base:=W1.heap.size) (by rw[hlm];exact hv2)) (by omega))
 have HW2:=hideA hvW2;clear hv2 hvW2 q1 q1';go_wp2_with fail;refine HS.out.mono ?_
 rintro e W3 ⟨rfl,q9,rfl⟩;have hb3:Below w.heap.size w (W2.drewN q9):=below_drewN hb12 q9
 have hL3:=HL.out.below hb3
 have hv3:(W2.drewN q9).ownsRow w.heap.size 9 1 (.slice av p.c.bag.length cv) (p.c.bag.map Prod.fst).length (strs (p.c.bag.map Prod.fst)):=by rw[hlm];exact HW2.out
 have hBl:B+1≤w.heap.size:=HL.out.book.bs
 have HK:=hideA (hL3.book.keepTexts _ (p.c.bag.map Prod.fst) hv3 hBl (by have:=hb3.size;exact this) (fun k hk ho=>by
  have h1:=(hv3.lt k hk).1
  have h2:=Bk.lt HL.out.book ho
  omega) (by have:=hL3.small.2.2.1;omega) (by omega))
 have HL3:=hideA (And.intro hL3 hv3)
 clear hL3 hv3;go_wp2_with fail;refine HK.out.mono ?_
 rintro e W4 ⟨rfl,u',l4,hl4,hbook,hMv,hown⟩;have hfin:LawAt w0 W4 B x5 (M+4) ps:=by
  obtain⟨s1,s2,s3,s4⟩:=HL3.out.1.small;refine⟨_,vC,vI,vL,u',vA,HL3.out.1.turned hbook hMv HL3.out.1.book.rT (fun k e=>.inr (.inr (.inl e))) (by decide) HL3.out.2 (by decide) Hlt.out hBl hown ⟨?_, ?_, ?_, ?_⟩⟩
  ·show b.lI.length≤M+4;omega
  ·show b.lL.length≤M+4;omega
  ·show (b.lT++l4).length≤M+4
   rw[List.length_append];omega
  ·show b.lA.length≤M+4;omega
 have HF:=hideA hfin;clear hbook hMv hown hfin;go_wp2_with fail;go_ret;exact⟨rfl,HF.out⟩
theorem lawAnswers_any {w0 w:World}{B:Nat}{x5:Value}{M:Nat}{ps:List Pr}{p:Pr}(h:LawAt w0 w B x5 M ps)(hp:p∈ps)(ht:p.c.told.length≤1000000000)(hM:M≤1000000000) :
  Calls Tryz.prog 48 #[.pointer (some ⟨B,0,none⟩),.pointer (some ⟨p.q,0,none⟩)] w fun e w'=>e=.returned (.bool true)∧LawAt w0 w' B x5 (M+4) ps:=by
 obtain⟨b,vC,vI,vL,vT,vA,h⟩:=h;obtain⟨FX,FY,hq,hX,hY,hF,hXY,hlt⟩:=h.prs p hp
 have q0:w.cell? ⟨p.q,0,none⟩=some (.pointer (some ⟨p.x,0,none⟩)):=coh hq 0
 have q1:w.cell? ⟨p.q,1,none⟩=some (.pointer (some ⟨p.y,0,none⟩)):=coh hq 1
 have HB:=hideA (cluAnswers_any hX (by omega))
 obtain⟨br,ba,bm,vr,va,vm,vb,vt,vv,vc,hY⟩:=hY;obtain⟨at_,ct,hvt,hta⟩:=ansAt_of hY.told
 subst hvt;have y4:w.cell? ⟨p.y,4,none⟩=some (.slice at_ p.c.told.length ct):=coh hY.blk 4
 have HTa:=hideA hY.told
 have HL:=hideA h;have Hlt:Hid (∀ p∈ps,∀ k,p.F k→k<w.heap.size):=hideA fun p hp k hk=>by obtain⟨_,_,_,_,_,_,_,h6⟩:=h.prs p hp;exact h6 k hk
 clear hq hX hY hF hXY hlt h hta;go_enter Tryz.func48,Tryz.ntmps48
 go_wp2_with fail;refine HB.out.mono ?_
 rintro e W1 ⟨v,rfl,hv,hb1⟩;obtain⟨av,cv,hvv,hva⟩:=ansAt_of hv
 subst hvv;have q1':=cell_later hb1 q1
 have y4':=cell_later hb1 y4
 have HV:=hideA hv;obtain⟨at2,ct2,hvt2,hta2⟩:=ansAt_of (okp HTa.out fun k _ hk=>hb1.block k hk)
 cases hvt2
 have HS:=hideA (sameAnswers_any av at_ cv ct p.c.told W1 hva hta2 ht)
 clear hv hva hta2 q0 q1 y4;go_wp2_with fail;refine HS.out.mono ?_
 rintro e W3 ⟨rfl,q9,rfl⟩;have hb3:Below w.heap.size w (W1.drewN q9):=below_drewN hb1 q9
 have hL3:=HL.out.below hb3
 have hv3:(W1.drewN q9).ownsRow w.heap.size 113 3 (.slice av p.c.told.length cv) p.c.told.length (ints (ansNums p.c.told)):=HV.out
 have hBl:B+1≤w.heap.size:=HL.out.book.bs
 have HK:=hideA (hL3.book.keepAns _ p.c.told hv3 hBl (by have:=hb3.size;exact this) (fun k hk ho=>by
  have h1:=(hv3.lt k hk).1
  have h2:=Bk.lt HL.out.book ho
  omega) (by have:=hL3.small.2.2.2;omega) ht)
 have HL3:=hideA (And.intro hL3 hv3)
 clear hL3 hv3 q1' y4';go_wp2_with fail;refine HK.out.mono ?_
 rintro e W4 ⟨rfl,u',l4,hl4,hbook,hMv,hown⟩;have hfin:LawAt w0 W4 B x5 (M+4) ps:=by
  obtain⟨s1,s2,s3,s4⟩:=HL3.out.1.small;refine⟨_,vC,vI,vL,vT,u',HL3.out.1.turned hbook hMv HL3.out.1.book.rA (fun k e=>.inr (.inr (.inr (.inl e)))) (by decide) HL3.out.2 (by decide) Hlt.out hBl hown ⟨?_, ?_, ?_, ?_⟩⟩
  ·show b.lI.length≤M+4;omega
  ·show b.lL.length≤M+4;omega
  ·show b.lT.length≤M+4;omega
  ·show (b.lA++l4).length≤M+4
   rw[List.length_append];omega
 have HF:=hideA hfin;clear hbook hMv hown hfin;go_wp2_with fail;go_ret;exact⟨rfl,HF.out⟩
theorem ballots_both {w:World}{F:Nat→Prop}{x:Nat}{c:Clu}{E:Int}{g:Gh}(d:Int)(h:CAt w F x c)(hg:Good c E g)(hi : -9223372036854775808≤d∧d≤9223372036854775807) :
  ∃ (up:Bool) (ep:Int) (l:List Int) (code:Int),l.length≤1000 ∧
   (Calls Tryz.prog 20 #[.pointer (some ⟨x,0,none⟩),.int .i64 d] w fun r w'=>∃ a c',r=.returned (.tuple #[.agg #[.bool up,.int .i64 ep,.slice a l.length c'],.int .i64 code])∧w'.ownsRow w.heap.size 3 1 (.slice a l.length c') l.length (ints l)∧Below w.heap.size w w') ∧
   ∀ (W:World) (FY:Nat→Prop) (y:Nat),RefAt W FY y c→Calls Tryz.prog 102 #[.pointer (some ⟨y,0,none⟩),.int .i64 d] W fun r w'=>∃ a c',r=.returned (.tuple #[.agg #[.bool up,.int .i64 ep,.slice a l.length c'],.int .i64 code])∧IntsAt w' (.slice a l.length c') l∧Below W.heap.size W w':=by
 by_cases hd:isAcc d
 ·refine⟨(c.acc d).up,(c.acc d).epoch,(c.acc d).mems,0, ?_, ?_,fun W FY y hY => ?_⟩
  ·have h1:=memsOk_length (hg.nodes.A d hd).mems
   have h2:=hg.nodes.n5
   omega
  ·refine (cluBallots_any d h hg hd).mono ?_
   rintro e w' ⟨vm,rfl,h1,h2⟩;obtain⟨a,c',rfl⟩:=osh h1
   exact⟨a,c',rfl,h1,h2⟩
  ·refine (refBallots_any d hY hg.nodes.n5 hd).mono ?_
   rintro e w' ⟨vm,rfl,h1,h2⟩;obtain⟨a,c',rfl⟩:=osh h1
   exact⟨a,c',rfl,(IntsAt.of_owns h1).below h2,h2⟩
 ·refine⟨false,0,[],4,by simp, ?_,fun W FY y hY => ?_⟩
  ·refine (cluBallots_no d h hd hi).mono ?_
   rintro e w' ⟨rfl,h2⟩;exact⟨none,0,rfl,World.ownsRow_nil _ _ _ _,h2⟩
  ·refine (refBallots_no d hY hg.nodes.n5 hd hi).mono ?_
   rintro e w' ⟨rfl,h2⟩;exact⟨none,0,rfl,⟨none,0,rfl,fun i hi=>absurd hi (Nat.not_lt_zero _)⟩,h2⟩
theorem status_both {w:World}{F:Nat→Prop}{x:Nat}{c:Clu}{E:Int}{g:Gh}(d:Int)(h:CAt w F x c)(hg:Good c E g)(hi : -9223372036854775808≤d∧d≤9223372036854775807) :
  ∃ (up:Bool) (ep sl cm:Int) (l:List Int) (es:List Ent) (code:Int),l.length≤1000∧es.length≤1000 ∧
   (Calls Tryz.prog 54 #[.pointer (some ⟨x,0,none⟩),.int .i64 d] w fun r w'=>∃ a c' a2 c2,r=.returned (.tuple #[.agg #[.bool up,.int .i64 ep,.int .i64 sl,.int .i64 cm,.slice a l.length c',.slice a2 es.length c2],.int .i64 code])∧w'.ownsRow w.heap.size 3 1 (.slice a l.length c') l.length (ints l)∧w'.ownsRow w.heap.size 42 5 (.slice a2 es.length c2) es.length (ints (entsNums es))∧Below w.heap.size w w') ∧
   ∀ (W:World) (FY:Nat→Prop) (y:Nat),RefAt W FY y c→Calls Tryz.prog 97 #[.pointer (some ⟨y,0,none⟩),.int .i64 d] W fun r w'=>∃ a c' a2 c2,r=.returned (.tuple #[.agg #[.bool up,.int .i64 ep,.int .i64 sl,.int .i64 cm,.slice a l.length c',.slice a2 es.length c2],.int .i64 code])∧IntsAt w' (.slice a l.length c') l∧LogAt w' (.slice a2 es.length c2) es∧Below W.heap.size W w':=by
 by_cases hd:c.isRep d
 ·have hwf:=hg.nodes.R d hd
  have h5:=hg.nodes.n5
  refine⟨(c.rep d).up,(c.rep d).epoch,(c.rep d).lock,((c.rep d).commit:Int),(c.rep d).mems,(c.rep d).log,0, ?_, ?_, ?_,fun W FY y hY => ?_⟩
  ·have h1:=memsOk_length hwf.mems
   omega
  ·have:=hwf.log.1
   omega
  ·refine (cluStatus_any d h hg hd).mono ?_
   rintro e w' ⟨vm,vl,rfl,h1,h2,h3⟩;obtain⟨a,c',rfl⟩:=osh h1
   obtain⟨a2,c2,rfl⟩:=osh h2
   exact⟨a,c',a2,c2,rfl,h1,h2,h3⟩
  ·refine (refStatus_any d hY hg.nodes.n5 hd).mono ?_
   rintro e w' ⟨vm,vl,rfl,h1,h2,h3⟩;obtain⟨a,c',rfl⟩:=osh h1
   obtain⟨a2,c2,rfl⟩:=osh h2
   exact⟨a,c',a2,c2,rfl,(IntsAt.of_owns h1).below h3,(LogAt.of_owns h2).below h3,h3⟩
 ·refine⟨false,0,0,0,[],[],4,by simp,by simp, ?_,fun W FY y hY => ?_⟩
  ·refine (cluStatus_no d h hd hi).mono ?_
   rintro e w' ⟨rfl,h2⟩;exact⟨none,0,none,0,rfl,World.ownsRow_nil _ _ _ _,World.ownsRow_nil _ _ _ _,h2⟩
  ·refine (refStatus_no d hY hg.nodes.n5 hd hi).mono ?_
   rintro e w' ⟨rfl,h2⟩;exact⟨none,0,none,0,rfl,⟨none,0,rfl,fun i hi=>absurd hi (Nat.not_lt_zero _)⟩,⟨none,0,rfl,fun i hi=>absurd hi (Nat.not_lt_zero _)⟩,h2⟩
theorem lawBallots_any {w0 w:World}{B:Nat}{x5:Value}{M:Nat}{ps:List Pr}{p:Pr}{E:Int}{g:Gh}(d:Int)(h:LawAt w0 w B x5 M ps)(hp:p∈ps)(hg:Good p.c E g)(hM:M≤1000000000)(hi : -9223372036854775808≤d∧d≤9223372036854775807) :
  Calls Tryz.prog 47 #[.pointer (some ⟨B,0,none⟩),.pointer (some ⟨p.q,0,none⟩),.int .i64 d] w fun e w'=>e=.returned (.bool true)∧LawAt w0 w' B x5 (M+4) ps:=by
 obtain⟨b,vC,vI,vL,vT,vA,h⟩:=h;obtain⟨FX,FY,hq,hX,hY,hF,hXY,hlt⟩:=h.prs p hp
 have q0:w.cell? ⟨p.q,0,none⟩=some (.pointer (some ⟨p.x,0,none⟩)):=coh hq 0
 have q1:w.cell? ⟨p.q,1,none⟩=some (.pointer (some ⟨p.y,0,none⟩)):=coh hq 1
 obtain⟨up,ep,l,code,hl,hc1,hc2⟩:=ballots_both d hX hg hi
 have HB:=hideA hc1;have HR:=hideA hc2;have HY:=hideA hY;have HL:=hideA h;have Hlt:Hid (∀ p∈ps,∀ k,p.F k→k<w.heap.size):=hideA fun p hp k hk=>by obtain⟨_,_,_,_,_,_,_,h6⟩:=h.prs p hp;exact h6 k hk
 clear hq hX hY hF hXY hlt h hg hc1 hc2;go_enter Tryz.func47,Tryz.ntmps47
 go_wp2_with fail;refine HB.out.mono ?_
 rintro e W1 ⟨av,cv,rfl,hv,hb1⟩;obtain⟨X1,hX1,hbX1,hM1⟩:=bm1 W1 #[.bool up,.int .i64 ep,.slice av l.length cv] 53
 have hb1X:=hb1.trans (hbX1.mono hb1.size)
 have q1':=cell_later hb1X q1
 have HV:=hideA (okp hv fun k _ hk=>hbX1.block k hk)
 have HR2:=hideA (HR.out X1 FY p.y (HY.out.keep fun k hk=>hb1X.block k (HY.out.lt' hk)))
 have HM1:=hideA hM1;have hX1s:W1.heap.size<X1.heap.size:=(Array.getElem?_eq_some_iff.1 hM1).1
 clear hv q0 q1 hM1;go_wp2_with fail;refine HR2.out.mono ?_
 rintro e W2 ⟨a2,c2,rfl,hv2,hb2⟩;obtain⟨X2,hX2,hbX2,hM2⟩:=bm1 W2 #[.bool up,.int .i64 ep,.slice a2 l.length c2] 53
 have hbb:=hb2.trans (hbX2.mono hb2.size)
 have hb2X:=hb1X.trans (hbb.mono hb1X.size)
 have hM1':=(hbb.block _ hX1s).trans HM1.out
 have hs2:=hb2.size
 have hne1:¬ W1.heap.size=W2.heap.size:=by omega
 have hne2:¬ W2.heap.size=W1.heap.size:=by omega
 have b0:=coh hM1' 0
 have b1:=coh hM1' 1
 have b2:=coh hM1' 2
 have d0:=coh hM2 0
 have d1:=coh hM2 1
 have d2:=coh hM2 2
 have hvX2:=okp HV.out fun k _ hk=>hbb.block k hk
 have HS:=hideA (cordonlaw_sameInts (.slice av l.length cv) (.slice a2 l.length c2) l X2 (IntsAt.of_owns hvX2) (hv2.below hbX2) (by omega))
 have HV2:=hideA hvX2;have HMM:=hideA (And.intro hM1' hM2)
 clear hv2 hvX2 q1' hM1' hM2;go_wp2_with fail;refine HS.out.mono ?_
 rintro e W3 ⟨rfl,q9,rfl⟩;have hb3:Below w.heap.size w (X2.drewN q9):=below_drewN hb2X q9
 have hBl:B+1≤w.heap.size:=HL.out.book.bs
 have HK:Hid (∀ W,W=(X2.drewN q9).drew→Calls Tryz.prog 100 #[.pointer (some ⟨B,1,none⟩),.slice av l.length cv] W fun e w'=>e=.returned (.tuple #[])∧LawAt w0 w' B x5 (M+4) ps∧w'.heap[W1.heap.size]?=some (.cells #[.bool up,.int .i64 ep,.slice av l.length cv] 53)∧w'.heap[W2.heap.size]?=some (.cells #[.bool up,.int .i64 ep,.slice a2 l.length c2] 53)):=hideA fun W hW=>by
  subst hW;have hL3:=HL.out.below hb3.drew
  have hv3:(X2.drewN q9).drew.ownsRow w.heap.size 3 1 (.slice av l.length cv) l.length (ints l):=HV2.out
  refine (hL3.book.keepInts _ l hv3 hBl (by have:=hb3.size;exact this) (fun k hk ho=>by
   have h1:=(hv3.lt k hk).1
   have h2:=Bk.lt HL.out.book ho
   omega) (by have:=hL3.small.1;omega) (by omega)).mono ?_
  rintro e W4 ⟨rfl,u',l4,hl4,hbook,hMv,hown⟩;have hbx:∀ {k:Nat} {cs:Array Value},(X2.drewN q9).drew.heap[k]?=some (.cells cs 53)→W4.heap[k]?=some (.cells cs 53):=fun {k cs} e=>by
   refine (hMv.block k (Array.getElem?_eq_some_iff.1 e).1 fun hS => ?_).trans e
   rcases hS with q|q|q
   ·rw[q,hL3.book.blk] at e
    injection e with e
    injection e with e1 e2
    exact absurd e2 (by decide)
   ·exact bty e hv3 (by decide) q
   ·exact bty e hL3.book.rI (by decide) q
  refine⟨rfl, ?_,hbx HMM.out.1,hbx HMM.out.2⟩
  obtain⟨s1,s2,s3,s4⟩:=hL3.small;refine⟨_,vC,u',vL,vT,vA,hL3.turned hbook hMv hL3.book.rI (fun k e=>.inl e) (by decide) hv3 (by decide) Hlt.out hBl hown ⟨?_, ?_, ?_, ?_⟩⟩
  ·show (b.lI++l4).length≤M+4
   rw[List.length_append];omega
  ·show b.lL.length≤M+4;omega
  ·show b.lT.length≤M+4;omega
  ·show b.lA.length≤M+4;omega
 go_wp2_with fail;go_region_held3 (fun w'=>w'.cell? ⟨W1.heap.size,2,none⟩=some (.slice av l.length cv)) (first|assumption|(simp[go_sem, *];done))
  (first|(go_at_call 100;refine (HK.out _ rfl).mono ?_;rintro e W4 ⟨rfl,hfin,hm1,hm2⟩;have HF:=hideA hfin;have z0:=coh hm1 0;have z1:=coh hm1 1;have z2:=coh hm1 2;have u0:=coh hm2 0;have u1:=coh hm2 1;clear hm1 hm2 hfin))
 all_goals (
  clear b0 b1 b2 d0 d1 d2;go_wp2_with fail;go_ret;exact⟨rfl,HF.out⟩)
theorem fresh_log {w w':World}{B base:Nat}{x0 x5:Value}{b:Bk}{vI vL vT vA vI' u:Value}{l4:List (Value × Nat)}{n:Nat}{xs:List Value}(h:BookIn w B base x0 x5 b vI vL vT vA)(h':BookIn w' B base x0 x5 { b with lI:=b.lI++l4 } vI' vL vT vA)(hu:w'.ownsRow w.heap.size 42 5 u n xs) :
  ∀ k,u.ownBlock=some k→¬ ({ b with lI:=b.lI++l4 }:Bk).own vI' vL vT vA k:=by
 intro k hk ho;rcases ho with q|q|q|q|⟨p,hp,q⟩|⟨p,hp,q⟩|⟨p,hp,q⟩|⟨p,hp,q⟩
 ·exact otw hu h'.rI (by decide) k hk q
 ·exact otw hu h'.rL (by decide) k hk q
 ·exact otw hu h'.rT (by decide) k hk q
 ·exact otw hu h'.rA (by decide) k hk q
 ·obtain⟨i,hi,rfl⟩:=List.getElem_of_mem hp
  exact otw hu (h'.eI i _ (List.getElem?_eq_getElem hi)).2 (by decide) k hk q
 ·have h1:=(hu.lt k hk).1
  have h2:k<w.heap.size:=Bk.lt h (.inr (.inr (.inr (.inr (.inr (.inl ⟨p,hp,q⟩))))))
  omega
 ·obtain⟨i,hi,rfl⟩:=List.getElem_of_mem hp
  exact otw hu (h'.eT i _ (List.getElem?_eq_getElem hi)).2 (by decide) k hk q
 ·obtain⟨i,hi,rfl⟩:=List.getElem_of_mem hp
  exact otw hu (h'.eA i _ (List.getElem?_eq_getElem hi)).2 (by decide) k hk q
theorem lawStatus_any {w0 w:World}{B:Nat}{x5:Value}{M:Nat}{ps:List Pr}{p:Pr}{E:Int}{g:Gh}(d:Int)(h:LawAt w0 w B x5 M ps)(hp:p∈ps)(hg:Good p.c E g)(hM:M≤999999990)(hi : -9223372036854775808≤d∧d≤9223372036854775807) :
  Calls Tryz.prog 46 #[.pointer (some ⟨B,0,none⟩),.pointer (some ⟨p.q,0,none⟩),.int .i64 d] w fun e w'=>e=.returned (.bool true)∧LawAt w0 w' B x5 (M+8) ps:=by
 obtain⟨b,vC,vI,vL,vT,vA,h⟩:=h;obtain⟨FX,FY,hq,hX,hY,hF,hXY,hlt⟩:=h.prs p hp
 have q0:w.cell? ⟨p.q,0,none⟩=some (.pointer (some ⟨p.x,0,none⟩)):=coh hq 0
 have q1:w.cell? ⟨p.q,1,none⟩=some (.pointer (some ⟨p.y,0,none⟩)):=coh hq 1
 obtain⟨up,ep,sl,cm,l,es,code,hl,hes,hc1,hc2⟩:=status_both d hX hg hi
 have HB:=hideA hc1;have HR:=hideA hc2;have HY:=hideA hY;have HL:=hideA h;have Hlt:Hid (∀ p∈ps,∀ k,p.F k→k<w.heap.size):=hideA fun p hp k hk=>by obtain⟨_,_,_,_,_,_,_,h6⟩:=h.prs p hp;exact h6 k hk
 clear hq hX hY hF hXY hlt h hg hc1 hc2;go_enter Tryz.func46,Tryz.ntmps46
 go_wp2_with fail;refine HB.out.mono ?_
 rintro e W1 ⟨av,cv,al,cl,rfl,hv,hvl,hb1⟩;obtain⟨X1,hX1,hbX1,hM1⟩:=bm1 W1 #[.bool up,.int .i64 ep,.int .i64 sl,.int .i64 cm,.slice av l.length cv,.slice al es.length cl] 46
 have hb1X:=hb1.trans (hbX1.mono hb1.size)
 have q1':=cell_later hb1X q1
 have HV:=hideA (And.intro (okp hv fun k _ hk=>hbX1.block k hk) (okp hvl fun k _ hk=>hbX1.block k hk))
 have HR2:=hideA (HR.out X1 FY p.y (HY.out.keep fun k hk=>hb1X.block k (HY.out.lt' hk)))
 have HM1:=hideA hM1;have hX1s:W1.heap.size<X1.heap.size:=(Array.getElem?_eq_some_iff.1 hM1).1
 clear hv hvl q0 q1 hM1;go_wp2_with fail;refine HR2.out.mono ?_
 rintro e W2 ⟨a2,c2,a3,c3,rfl,hv2,hv3,hb2⟩;obtain⟨X2,hX2,hbX2,hM2⟩:=bm1 W2 #[.bool up,.int .i64 ep,.int .i64 sl,.int .i64 cm,.slice a2 l.length c2,.slice a3 es.length c3] 46
 have hbb:=hb2.trans (hbX2.mono hb2.size)
 have hb2X:=hb1X.trans (hbb.mono hb1X.size)
 have hM1':=(hbb.block _ hX1s).trans HM1.out
 have hs2:=hb2.size
 have hne1:¬ W1.heap.size=W2.heap.size:=by omega
 have hne2:¬ W2.heap.size=W1.heap.size:=by omega
 have b4:=coh hM1' 4
 have b5:=coh hM1' 5
 have d4:=coh hM2 4
 have d5:=coh hM2 5
 have hvX2:=okp HV.out.1 fun k _ hk=>hbb.block k hk
 have hvL2:=okp HV.out.2 fun k _ hk=>hbb.block k hk
 have HS:=hideA (cordonlaw_sameInts (.slice av l.length cv) (.slice a2 l.length c2) l X2 (IntsAt.of_owns hvX2) (hv2.below hbX2) (by omega))
 have HS2:Hid (∀ q,Calls Tryz.prog 99 #[.slice al es.length cl,.slice a3 es.length c3] (X2.drewN q) fun e w'=>e=.returned (.bool true)∧∃ q',w'=(X2.drewN q).drewN q'):=hideA fun q=>cordonlaw_sameLogs _ _ es _ ((LogAt.of_owns hvL2).below (below_drewN (Below.refl _ _) q)) ((hv3.below hbX2).below (below_drewN (Below.refl _ _) q)) (by omega)
 have HV2:=hideA (And.intro hvX2 hvL2)
 have HMM:=hideA (And.intro hM1' hM2)
 clear hv2 hv3 hvX2 hvL2 q1' hM1' hM2;go_wp2_with fail;refine HS.out.mono ?_
 rintro e W3 ⟨rfl,q8,rfl⟩;go_wp2_with fail;refine (HS2.out q8).mono ?_
 rintro e W3 ⟨rfl,q9,rfl⟩;have hb3:Below w.heap.size w ((X2.drewN q8).drewN q9):=below_drewN (below_drewN hb2X q8) q9
 have hBl:B+1≤w.heap.size:=HL.out.book.bs
 have hV9:((X2.drewN q8).drewN q9).ownsRow w.heap.size 3 1 (.slice av l.length cv) l.length (ints l)∧((X2.drewN q8).drewN q9).ownsRow w.heap.size 42 5 (.slice al es.length cl) es.length (ints (entsNums es)):=HV2.out
 have hM9:((X2.drewN q8).drewN q9).heap[W1.heap.size]?=some (.cells #[.bool up,.int .i64 ep,.int .i64 sl,.int .i64 cm,.slice av l.length cv,.slice al es.length cl] 46)∧((X2.drewN q8).drewN q9).heap[W2.heap.size]?=some (.cells #[.bool up,.int .i64 ep,.int .i64 sl,.int .i64 cm,.slice a2 l.length c2,.slice a3 es.length c3] 46):=HMM.out
 have e4:((X2.drewN q8).drewN q9).cell? ⟨W1.heap.size,4,none⟩=some (.slice av l.length cv):=coh hM9.1 4
 generalize (X2.drewN q8).drewN q9=Y at *
 have HK:Hid (∀ W,W=Y.drew→Calls Tryz.prog 100 #[.pointer (some ⟨B,1,none⟩),.slice av l.length cv] W fun e w'=>e=.returned (.tuple #[])∧(∃ l4 u',LawIn w0 w' B x5 (M+4) { b with lI:=b.lI++l4 } ps vC u' vL vT vA)∧w'.ownsRow w.heap.size 42 5 (.slice al es.length cl) es.length (ints (entsNums es))∧w'.heap[W1.heap.size]?=some (.cells #[.bool up,.int .i64 ep,.int .i64 sl,.int .i64 cm,.slice av l.length cv,.slice al es.length cl] 46)∧w'.heap[W2.heap.size]?=some (.cells #[.bool up,.int .i64 ep,.int .i64 sl,.int .i64 cm,.slice a2 l.length c2,.slice a3 es.length c3] 46)∧w.heap.size≤w'.heap.size):=hideA fun W hW=>by
  subst hW;have hL3:=HL.out.below hb3.drew
  have hvi:Y.drew.ownsRow w.heap.size 3 1 (.slice av l.length cv) l.length (ints l):=hV9.1
  have hvl:Y.drew.ownsRow w.heap.size 42 5 (.slice al es.length cl) es.length (ints (entsNums es)):=hV9.2
  refine (hL3.book.keepInts _ l hvi hBl (by have:=hb3.size;exact this) (fun k hk ho=>by
   have h1:=(hvi.lt k hk).1
   have h2:=Bk.lt HL.out.book ho
   omega) (by have:=hL3.small.1;omega) (by omega)).mono ?_
  rintro e W4 ⟨rfl,u',l4,hl4,hbook,hMv,hown⟩;have hbx:∀ {k:Nat} {cs:Array Value},Y.drew.heap[k]?=some (.cells cs 46)→W4.heap[k]?=some (.cells cs 46):=fun {k cs} e=>by
   refine (hMv.block k (Array.getElem?_eq_some_iff.1 e).1 fun hS => ?_).trans e
   rcases hS with q|q|q
   ·rw[q,hL3.book.blk] at e
    injection e with e
    injection e with e1 e2
    exact absurd e2 (by decide)
   ·exact bty e hvi (by decide) q
   ·exact bty e hL3.book.rI (by decide) q
  refine⟨rfl,⟨l4,u', ?_⟩,hMv.owns hvl (fun k hk hS => ?_),hbx hM9.1,hbx hM9.2, ?_⟩
  ·obtain⟨s1,s2,s3,s4⟩:=hL3.small
   refine hL3.turned hbook hMv hL3.book.rI (fun k e=>.inl e) (by decide) hvi (by decide) Hlt.out hBl hown ⟨?_, ?_, ?_, ?_⟩
   ·show (b.lI++l4).length≤M+4
    rw[List.length_append];omega
   ·show b.lL.length≤M+4;omega
   ·show b.lT.length≤M+4;omega
   ·show b.lA.length≤M+4;omega
  ·rcases hS with q|q|q
   ·exact bty hL3.book.blk hvl (by decide) (q ▸ hk)
   ·exact otw hvl hvi (by decide) k hk q
   ·exact otw hvl hL3.book.rI (by decide) k hk q
  ·have h1:=hMv.size
   have h2:=hb3.size
   exact Nat.le_trans h2 h1
 clear b4 b5 d4 d5;go_wp2_with fail;go_region_held3 (fun w'=>w'.cell? ⟨W1.heap.size,4,none⟩=some (.slice av l.length cv)) (first|assumption|(simp[go_sem, *];done))
  (first|(go_at_call 100;refine (HK.out _ rfl).mono ?_;rintro e W4 ⟨rfl,hfin,hlog,hm1,hm2,hsz⟩;have HF:=hideA (And.intro hfin (And.intro hlog (And.intro hm1 (And.intro hm2 hsz))));have z4:=coh hm1 4;have z5:=coh hm1 5;clear hm1 hm2 hfin hlog hsz))
 all_goals (
  clear e4 HK;have HK2:Hid (∀ W,W=W4.drew→Calls Tryz.prog 101 #[.pointer (some ⟨B,1,none⟩),.slice al es.length cl] W fun e w'=>e=.returned (.tuple #[])∧LawAt w0 w' B x5 (M+8) ps∧w'.heap[W1.heap.size]?=some (.cells #[.bool up,.int .i64 ep,.int .i64 sl,.int .i64 cm,.slice av l.length cv,.slice al es.length cl] 46)∧w'.heap[W2.heap.size]?=some (.cells #[.bool up,.int .i64 ep,.int .i64 sl,.int .i64 cm,.slice a2 l.length c2,.slice a3 es.length c3] 46)):=hideA fun W hW=>by
   subst hW;obtain⟨⟨l4,u',hL4⟩,hlog,hm1,hm2,hsz⟩:=HF.out;have hL5:=hL4.below (Below.refl _ _).drew
   have hvl:W4.drew.ownsRow w.heap.size 42 5 (.slice al es.length cl) es.length (ints (entsNums es)):=hlog
   refine (hL5.book.keepLog _ es hvl hBl hsz (fresh_log HL.out.book hL5.book hvl) (by have:=hL5.small.2.1;show b.lL.length≤_;have h9:b.lL.length≤M+4:=this;omega) (by omega)).mono ?_
   rintro e W6 ⟨rfl,v',m4,hm4,hbook,hMv,hown⟩;have hbx:∀ {k:Nat} {cs:Array Value},W4.drew.heap[k]?=some (.cells cs 46)→W6.heap[k]?=some (.cells cs 46):=fun {k cs} e=>by
    refine (hMv.block k (Array.getElem?_eq_some_iff.1 e).1 fun hS => ?_).trans e
    rcases hS with q|q|q
    ·rw[q,hL5.book.blk] at e
     injection e with e
     injection e with e1 e2
     exact absurd e2 (by decide)
    ·exact bty e hvl (by decide) q
    ·exact bty e hL5.book.rL (by decide) q
   refine⟨rfl, ?_,hbx hm1,hbx hm2⟩
   obtain⟨s1,s2,s3,s4⟩:=hL5.small;have s1':(b.lI++l4).length≤M+4:=s1
   have s2':b.lL.length≤M+4:=s2
   have s3':b.lT.length≤M+4:=s3
   have s4':b.lA.length≤M+4:=s4
   refine⟨_,vC,u',v',vT,vA,hL5.turned hbook hMv hL5.book.rL (fun k e=>.inr (.inl e)) (by decide) hvl (by decide) Hlt.out hBl hown ⟨?_, ?_, ?_, ?_⟩⟩
   ·show (b.lI++l4).length≤M+4+4;omega
   ·show (b.lL++m4).length≤M+4+4
    rw[List.length_append];omega
   ·show b.lT.length≤M+4+4;omega
   ·show b.lA.length≤M+4+4;omega
  go_wp2_with fail;go_region_held3 (fun w'=>w'.cell? ⟨W1.heap.size,5,none⟩=some (.slice al es.length cl)) (first|assumption|(simp[go_sem, *];done))
   (first|(go_at_call 101;refine (HK2.out _ rfl).mono ?_;rintro e W6 ⟨rfl,hfin,hm1,hm2⟩;have HF2:=hideA hfin;have y0:=coh hm1 0;have y1:=coh hm1 1;have y2:=coh hm1 2;have y3:=coh hm1 3;have y5:=coh hm1 5;have u0:=coh hm2 0;have u1:=coh hm2 1;have u2:=coh hm2 2;have u3:=coh hm2 3;clear hm1 hm2 hfin))
  all_goals (
   clear z4 z5;go_wp2_with fail;go_ret;exact⟨rfl,HF2.out⟩))
end Go.Proofs.YtgieeeeeiggoeaaGreat
