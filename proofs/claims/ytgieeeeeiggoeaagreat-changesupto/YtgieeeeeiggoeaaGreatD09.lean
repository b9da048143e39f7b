import Derived.Test.YtgieeeeeiggoeaaGreatD08
set_option maxRecDepth 100000
set_option maxHeartbeats 2000000
namespace Go.Proofs.YtgieeeeeiggoeaaGreat
open Go.RowKit
open Tryz
variable {es ms:List Int}{T:List UInt8}{B R base d gl gm ne nm:Nat}{F:Nat->Option Value}{W wr:World}
def lH (T:List UInt8)(gm gl nm ne n:Nat)(j:Nat):Option Value :=
 if 1<=j/\j<=n then some (.int .i64 (bo T (2*j-1))) else (#[.int .i64 (bn T 0:Nat),.int .i64 0,.int .i64 0,.int .i64 0,.int .i64 0,.int .i64 0,.int .i64 0,.int .i64 0,.slice (some gm) nm nm,.slice (some gl) ne ne]:Array Value)[j]?
theorem NG (T:List UInt8)(gm gl nm ne:Nat):lH T gm gl nm ne 0=fun j=>(#[.int .i64 (bn T 0:Nat),.int .i64 0,.int .i64 0,.int .i64 0,.int .i64 0,.int .i64 0,.int .i64 0,.int .i64 0,.slice (some gm) nm nm,.slice (some gl) ne ne]:Array Value)[j]?:=by
 funext j;unfold lH;rw[if_neg (by omega)]
theorem NF (T:List UInt8)(gm gl nm ne n:Nat):lH T gm gl nm ne (n+1)=fun j=>if j=n+1 then some (.int .i64 (bo T (1+2*n))) else lH T gm gl nm ne n j:=by
 funext j;unfold lH;by_cases h:j=n+1
 ·subst h
  rw[if_pos (by omega),if_pos rfl,show 2*(n+1)-1=1+2*n by omega]
 ·rw[if_neg h]
  by_cases h2:1<=j/\j<=n
  ·rw[if_pos h2,if_pos (by omega)]
  ·rw[if_neg h2,if_neg (by omega)]
theorem EH (T:List UInt8)(gm gl nm ne n k:Nat)(hk:k<10):(lH T gm gl nm ne n k).isSome=true:=by
 unfold lH;split
 ·rfl
 ·simp[hk]
theorem NO (B:Nat)(w:World):(Instr.index 225 (.agg #[.pointer (some ⟨B,1,none⟩),.pointer (some ⟨B,2,none⟩),.pointer (some ⟨B,3,none⟩),.pointer (some ⟨B,4,none⟩),.pointer (some ⟨B,5,none⟩),.pointer (some ⟨B,6,none⟩),.pointer (some ⟨B,7,none⟩)]) (.int .i64 0)).run prog w=.ok (.pointer (some ⟨B,1,none⟩)) w:=by kernel_rfl
theorem NP (B:Nat)(w:World):(Instr.index 225 (.agg #[.pointer (some ⟨B,1,none⟩),.pointer (some ⟨B,2,none⟩),.pointer (some ⟨B,3,none⟩),.pointer (some ⟨B,4,none⟩),.pointer (some ⟨B,5,none⟩),.pointer (some ⟨B,6,none⟩),.pointer (some ⟨B,7,none⟩)]) (.int .i64 1)).run prog w=.ok (.pointer (some ⟨B,2,none⟩)) w:=by kernel_rfl
theorem NQ (B:Nat)(w:World):(Instr.index 225 (.agg #[.pointer (some ⟨B,1,none⟩),.pointer (some ⟨B,2,none⟩),.pointer (some ⟨B,3,none⟩),.pointer (some ⟨B,4,none⟩),.pointer (some ⟨B,5,none⟩),.pointer (some ⟨B,6,none⟩),.pointer (some ⟨B,7,none⟩)]) (.int .i64 2)).run prog w=.ok (.pointer (some ⟨B,3,none⟩)) w:=by kernel_rfl
theorem NR (B:Nat)(w:World):(Instr.index 225 (.agg #[.pointer (some ⟨B,1,none⟩),.pointer (some ⟨B,2,none⟩),.pointer (some ⟨B,3,none⟩),.pointer (some ⟨B,4,none⟩),.pointer (some ⟨B,5,none⟩),.pointer (some ⟨B,6,none⟩),.pointer (some ⟨B,7,none⟩)]) (.int .i64 3)).run prog w=.ok (.pointer (some ⟨B,4,none⟩)) w:=by kernel_rfl
theorem NS (B:Nat)(w:World):(Instr.index 225 (.agg #[.pointer (some ⟨B,1,none⟩),.pointer (some ⟨B,2,none⟩),.pointer (some ⟨B,3,none⟩),.pointer (some ⟨B,4,none⟩),.pointer (some ⟨B,5,none⟩),.pointer (some ⟨B,6,none⟩),.pointer (some ⟨B,7,none⟩)]) (.int .i64 4)).run prog w=.ok (.pointer (some ⟨B,5,none⟩)) w:=by kernel_rfl
theorem NU (B:Nat)(w:World):(Instr.index 225 (.agg #[.pointer (some ⟨B,1,none⟩),.pointer (some ⟨B,2,none⟩),.pointer (some ⟨B,3,none⟩),.pointer (some ⟨B,4,none⟩),.pointer (some ⟨B,5,none⟩),.pointer (some ⟨B,6,none⟩),.pointer (some ⟨B,7,none⟩)]) (.int .i64 5)).run prog w=.ok (.pointer (some ⟨B,6,none⟩)) w:=by kernel_rfl
theorem NV (B:Nat)(w:World):(Instr.index 225 (.agg #[.pointer (some ⟨B,1,none⟩),.pointer (some ⟨B,2,none⟩),.pointer (some ⟨B,3,none⟩),.pointer (some ⟨B,4,none⟩),.pointer (some ⟨B,5,none⟩),.pointer (some ⟨B,6,none⟩),.pointer (some ⟨B,7,none⟩)]) (.int .i64 6)).run prog w=.ok (.pointer (some ⟨B,7,none⟩)) w:=by kernel_rfl
theorem Af (B n:Nat)(hn:n<7):∀ w,(Instr.index 225 (.agg #[.pointer (some ⟨B,1,none⟩),.pointer (some ⟨B,2,none⟩),.pointer (some ⟨B,3,none⟩),.pointer (some ⟨B,4,none⟩),.pointer (some ⟨B,5,none⟩),.pointer (some ⟨B,6,none⟩),.pointer (some ⟨B,7,none⟩)]) (.int .i64 (n:Int))).run prog w=.ok (.pointer (some ⟨B,n+1,none⟩)) w:=by
 intro w;match n,hn with
 | 0,_=>exact NO B w
 | 1,_=>exact NP B w
 | 2,_=>exact NQ B w
 | 3,_=>exact NR B w
 | 4,_=>exact NS B w
 | 5,_=>exact NU B w
 | 6,_=>exact NV B w
theorem Mf (B o:Nat)(w:World):(Instr.index 254 (.agg #[.pointer (some ⟨B,o,none⟩),.pointer (some ⟨B,o+1,none⟩),.pointer (some ⟨B,o+2,none⟩),.pointer (some ⟨B,o+3,none⟩),.pointer (some ⟨B,o+4,none⟩)]) (.int .i64 0)).run prog w=.ok (.pointer (some ⟨B,o,none⟩)) w:=by kernel_rfl
theorem Mg (B o:Nat)(w:World):(Instr.index 254 (.agg #[.pointer (some ⟨B,o,none⟩),.pointer (some ⟨B,o+1,none⟩),.pointer (some ⟨B,o+2,none⟩),.pointer (some ⟨B,o+3,none⟩),.pointer (some ⟨B,o+4,none⟩)]) (.int .i64 1)).run prog w=.ok (.pointer (some ⟨B,o+1,none⟩)) w:=by kernel_rfl
theorem Mh (B o:Nat)(w:World):(Instr.index 254 (.agg #[.pointer (some ⟨B,o,none⟩),.pointer (some ⟨B,o+1,none⟩),.pointer (some ⟨B,o+2,none⟩),.pointer (some ⟨B,o+3,none⟩),.pointer (some ⟨B,o+4,none⟩)]) (.int .i64 2)).run prog w=.ok (.pointer (some ⟨B,o+2,none⟩)) w:=by kernel_rfl
theorem Mi (B o:Nat)(w:World):(Instr.index 254 (.agg #[.pointer (some ⟨B,o,none⟩),.pointer (some ⟨B,o+1,none⟩),.pointer (some ⟨B,o+2,none⟩),.pointer (some ⟨B,o+3,none⟩),.pointer (some ⟨B,o+4,none⟩)]) (.int .i64 3)).run prog w=.ok (.pointer (some ⟨B,o+3,none⟩)) w:=by kernel_rfl
theorem Mj (B o:Nat)(w:World):(Instr.index 254 (.agg #[.pointer (some ⟨B,o,none⟩),.pointer (some ⟨B,o+1,none⟩),.pointer (some ⟨B,o+2,none⟩),.pointer (some ⟨B,o+3,none⟩),.pointer (some ⟨B,o+4,none⟩)]) (.int .i64 4)).run prog w=.ok (.pointer (some ⟨B,o+4,none⟩)) w:=by kernel_rfl
theorem DS (B o n:Nat)(hn:n<5):∀ w,(Instr.index 254 (.agg #[.pointer (some ⟨B,o,none⟩),.pointer (some ⟨B,o+1,none⟩),.pointer (some ⟨B,o+2,none⟩),.pointer (some ⟨B,o+3,none⟩),.pointer (some ⟨B,o+4,none⟩)]) (.int .i64 (n:Int))).run prog w=.ok (.pointer (some ⟨B,o+n,none⟩)) w:=by
 intro w;match n,hn with
 | 0,_=>exact Mf B o w
 | 1,_=>exact Mg B o w
 | 2,_=>exact Mh B o w
 | 3,_=>exact Mi B o w
 | 4,_=>exact Mj B o w
def jc (T:List UInt8)(p n all:Nat):List Int:=eD T p n++List.replicate (all-n) 0
theorem Gj (T:List UInt8)(p all:Nat):jc T p 0 all=List.replicate all 0:=by simp[jc,eD]
theorem Gg (T:List UInt8)(p all:Nat):jc T p all all=eD T p all:=by simp[jc]
theorem Gi (T:List UInt8)(p n all:Nat)(h:n<all):(jc T p n all).set n (bo T (p+2*n))=jc T p (n+1) all:=by
 unfold jc;rw[qt,lP _ _ (by rw[uT];omega),uT,Nat.sub_self,
  show all-n=(all-(n+1))+1 by omega,List.replicate_succ,fT,eH]
 rfl
theorem gz.Dv (h:gz T B R gm gl nm ne base W wr d F ms es)(k:Nat)(hk:k<nm) :
  wr.cell? ⟨gm,k,none⟩=some (.int .i64 (ms.getD k 0))/\wr.frozen? ⟨gm,k,none⟩=false:=by
 have hl:ms.length=nm:=by have:=h.om.1;rw[fP] at this;omega
 refine⟨?_,h.om.frozenAt k⟩
 rw[h.om.cellAt k (by omega)]
 simp[aJ,List.getD,List.getElem?_eq_getElem (show k<ms.length by omega)]
theorem gz.cellL (h:gz T B R gm gl nm ne base W wr d F ms es)(k:Nat)(hk:k<ne*5) :
  wr.cell? ⟨gl,k,none⟩=some (.int .i64 (es.getD k 0))/\wr.frozen? ⟨gl,k,none⟩=false:=by
 have hl:es.length=ne*5:=by have:=h.ol.1;rw[fP] at this;omega
 refine⟨?_,h.ol.frozenAt k⟩
 rw[h.ol.cellAt k (by omega)]
 simp[aJ,List.getD,List.getElem?_eq_getElem (show k<es.length by omega)]
theorem Sq (T:List UInt8)(nm ne:Nat)(w:World)(h1:nm<=5)(h2:ne<=24)(hT:T.length=17+2*nm+10*ne) :
  Calls prog 150 #[.string (bs T),.int .i64 (nm:Int),.int .i64 (ne:Int)] w fun e w'=>ai w w'/\∃ mem log,
   e=.returned (.agg #[.int .i64 (fa T),.int .i64 (bo T 1),.int .i64 (bo T 3),.int .i64 (bo T 5),.int .i64 (bo T 7),.int .i64 (bo T 9),.int .i64 (bo T 11),.int .i64 (bo T 13),mem,log]) /\
   w'.ownsRow (w.heap.size+1) 3 1 mem nm (aJ (eD T 16 nm))/\w'.ownsRow (w.heap.size+1) 42 5 log ne (aJ (bk (kR T (17+2*nm) ne))):=by
 have hs:=iy T;have i0:=sJ T 0 0 rfl (by omega)
 have m1:=Qo nm (by omega)
 have m2:=Qn ne (by omega)
 obtain⟨W,hW,hb0,hsz,q,fz⟩:=fI w #[(),(),(),(),(),(),(),(),true,true] 134;have hbt:=lC T 0;have hk:IntKind.i64.wrap (bn T 0:Nat)=(bn T 0:Nat):=nk _ (by omega)
 have yJ:Hid (W.heap.size=w.heap.size+1):=hsz;have VT:17<=T.length:=by omega
 have HT:Hid (T.length=17+2*nm+10*ne):=hT;clear hsz hT;go_enter func150,ntmps150;go_upto_region 1 with fail
 clear hW;go_cut [7] (fun b wx=>∃ B gm gl,b=.pointer (some ⟨B,0,none⟩)/\wx.heap[B]?=some (.cells #[.int .i64 (bn T 0:Nat),(),(),(),(),(),(),(),.slice (some ⟨gm,0,none⟩) nm nm,.slice (some ⟨gl,0,none⟩) ne ne] 134) /\
   wx.heap[gm]?=some (.cells (lM nm) 3)/\wx.heap[gl]?=some (.cells (sx ne) 42)/\W.heap.size<=B/\W.heap.size<=gm/\W.heap.size<=gl/\ai W wx)
 case first =>
  go_region_held3 (fun _=>True) (trivial) (fail)
  all_goals
   go_wp2_with fail;go_meet
  all_goals
   first
    | exact⟨W.heap.size+1+1,W.heap.size,W.heap.size+1,rfl,sH _ _ _ _,sF _ _ _ _,sG _ _ _ _,by omega,by omega,by omega,(sq _ _ _ _).drew⟩
    | exact⟨W.heap.size+1,W.heap.size,W.heap.size+1+1,rfl,sG _ _ _ _,sF _ _ _ _,sH _ _ _ _,by omega,by omega,by omega,(sq _ _ _ _).drew⟩
    | exact⟨W.heap.size+1+1,W.heap.size+1,W.heap.size,rfl,sH _ _ _ _,sG _ _ _ _,sF _ _ _ _,by omega,by omega,by omega,(sq _ _ _ _).drew⟩
    | exact⟨W.heap.size+1,W.heap.size+1+1,W.heap.size,rfl,sG _ _ _ _,sH _ _ _ _,sF _ _ _ _,by omega,by omega,by omega,(sq _ _ _ _).drew⟩
    | exact⟨W.heap.size,W.heap.size+1,W.heap.size+1+1,rfl,sF _ _ _ _,sG _ _ _ _,sH _ _ _ _,by omega,by omega,by omega,(sq _ _ _ _).drew⟩
    | exact⟨W.heap.size,W.heap.size+1+1,W.heap.size+1,rfl,sF _ _ _ _,sH _ _ _ _,sG _ _ _ _,by omega,by omega,by omega,(sq _ _ _ _).drew⟩
 case rest =>
  obtain⟨B,gm,gl,rfl,cB,rm,rl,o1,o2,o3,hb1⟩:=hcut;have hx:=zb T 1;have hl1:=(aQ cB);have n1:=xQ cB rm (by decide)
  have n2:=xQ cB rl (by decide)
  have n3:=xQ rm rl (by decide)
  have hl2:=(aQ rm);have hl3:=(aQ rl);obtain⟨V,hV,bF,wX,qV,fV⟩:=fI wc #[.string (bs T.tail)] 253;have inv:gz T B wc.heap.size gm gl nm ne W.heap.size W V 1 (lH T gm gl nm ne 0) (jc T 16 0 nm) (jc T (17+2*nm) 0 (ne*5)) :=
   {cB:=fun j=>by rw[NG];exact (bF.cell (p:=⟨B,j,none⟩) hl1).trans (aj cB j)
    fB:=fun j=>(bF.frozen (p:=⟨B,j,none⟩) hl1).trans (aW cB j)
    cR:=by rw[List.drop_one];exact qV 0
    fR:=fV 0
    om:=by
     rw[Gj, <- Fp];refine⟨by simp[(rW nm).1],.inr ⟨gm,nm,lM nm,rfl,o2,(bF.block gm hl2).trans rm,aG _,by unfold maxLen;omega,(rW nm).1, ?_⟩⟩
     exact jF (by simp[(rW nm).1])
    ol:=by
     rw[Gj, <- L8];refine⟨by simp[(rW ne).2],.inr ⟨gl,ne,sx ne,rfl,o3,(bF.block gl hl3).trans rl,aG _,by unfold maxLen;omega,(rW ne).2, ?_⟩⟩
     exact jF (by simp[(rW ne).2])
    be:=hb1.trans (bF.mono hb1.size)
    oB:=o1
    oR:=hb1.size
    na:=o2
    mY:=o3
    lR:=by omega
    nB:=by omega
    n1:=n1
    n2:=n2
    n3:=n3
    n4:=by omega
    n5:=by omega }
  have Og:B<V.heap.size:=by omega
  have Oh:W.heap.size<=V.heap.size:=by have:=hb1.size;omega
  have Hq:Hid (∀ j,W.cell? ⟨w.heap.size,j,none⟩=#[.int .i64 0,.int .i64 0,.int .i64 0,.int .i64 0,.int .i64 0,.int .i64 0,.int .i64 0,.int .i64 0,.slice none 0 0,.slice none 0 0][j]?):=q;have Hf:Hid (∀ j,W.frozen? ⟨w.heap.size,j,none⟩=false):=fz;clear cB rm rl m1 m2 i0 q fz hk qV fV wX;go_wp2_with fail;clear hV;refine (Ag B _).mono ?_
  rintro e w2 ⟨hb2,rfl⟩;have inv2:=inv.below hb2 Og Oh;generalize wc.heap.size=R at *;go_wp2_with fail;go_loopw [27] (fun i wr=>∃ n:Nat,n<=7/\i=.int .i64 n/\gz T B R gm gl nm ne W.heap.size W wr (1+2*n) (lH T gm gl nm ne n) (jc T 16 0 nm) (jc T (17+2*nm) 0 (ne*5))/\w2.heap.size<=wr.heap.size) (fun i _=>7-(intOf i).toNat)
  case atStart=>exact⟨0,bl _,rfl,inv2,aG _⟩
  case round =>
   obtain⟨n,hn,rfl,I,hsw⟩:=hrel;by_cases hlt:n<7
   ·have hix:=Af B n hlt
    have cR:=I.cR;have fR:=I.fR;go_wp2_with fail;refine (A9 R (T.drop (1+2*n)) _ (by rw[iQ];omega) cR fR).mono ?_
    rintro e w3 ⟨rfl,q,rfl⟩;rw[A4,List.drop_drop];have I2:=I.reads (1+2*n+2) q;have cc:(((wr.setCell R (.string (bs (T.drop (1+2*n+2))))).drewN q).cell? ⟨B,n+1,none⟩).isSome=true:=by
     rw[I2.cB];exact EH _ _ _ _ _ _ _ (by omega)
    obtain⟨v0,hv0⟩:=Option.isSome_iff_exists.1 cc;have ff:=I2.fB (n+1);have uH:w2.heap.size<=((wr.setCell R (.string (bs (T.drop (1+2*n+2))))).drewN q).heap.size:=by simpa using hsw
    generalize ((wr.setCell R (.string (bs (T.drop (1+2*n+2))))).drewN q)=w4 at *;go_wp2_with fail;refine⟨⟨n+1,by omega,by go_num, ?_,by simpa using uH⟩,by simp[intOf];omega⟩
    have I3:=I2.TL (n+1) (.int .i64 (bo T (1+2*n))) (EH _ _ _ _ _ _ _ (by omega))
    rw[NF];exact I3
   ·obtain rfl:n=7:=by omega
    have cR:=I.cR;have fR:=I.fR;go_wp2_with fail;refine (BL R _ (T.drop (1+2*7)) _ (by omega) (by rw[iQ];omega) cR fR).mono ?_
    rintro e w3 ⟨rfl,q,rfl⟩;rw[List.drop_drop,show (1+2*7+(1:Int).toNat)=16 from rfl];have I2:=I.reads 16 q;have uH:w2.heap.size<=((wr.setCell R (.string (bs (T.drop 16)))).drewN q).heap.size:=by simpa using hsw
    generalize ((wr.setCell R (.string (bs (T.drop 16)))).drewN q)=w4 at *;have c8:w4.cell? ⟨B,8,none⟩=some (.slice (some ⟨gm,0,none⟩) nm nm):=by rw[I2.cB];rfl
    clear I inv inv2;go_wp2_with fail;go_loopw [38] (fun i wr=>∃ n:Nat,n<=nm/\i=.int .i64 n/\gz T B R gm gl nm ne W.heap.size W wr (16+2*n) (lH T gm gl nm ne 7) (jc T 16 n nm) (jc T (17+2*nm) 0 (ne*5))/\w2.heap.size<=wr.heap.size) (fun i _=>nm-(intOf i).toNat)
    case atStart=>exact⟨0,bl _,rfl,I2,uH⟩
    case round =>
     clear I2 c8;obtain⟨n,hn,rfl,I,hsw⟩:=hrel;have qZ:=HT.out;by_cases hlt:n<nm
     ·have c8:wr.cell? ⟨B,8,none⟩=some (.slice (some ⟨gm,0,none⟩) nm nm):=by rw[I.cB];rfl
      have hlt1:(0:Int)<=(n:Int):=by omega
      have hlt2:(n:Int)<(nm:Int):=by omega
      have hdl:2<=(T.drop (16+2*n)).length:=by rw[iQ];omega
      clear qZ;have I8:∀ q,((wr.setCell R (.string (bs (T.drop (16+2*n+2))))).drewN q).cell? ⟨B,8,none⟩=some (.slice (some ⟨gm,0,none⟩) nm nm):=fun q=>by
       rw[(I.reads (16+2*n+2) q).cB 8];rfl
      have Im:∀ q,((wr.setCell R (.string (bs (T.drop (16+2*n+2))))).drewN q).cell? ⟨gm,n,none⟩=some (.int .i64 ((jc T 16 n nm).getD n 0)):=fun q=>((I.reads (16+2*n+2) q).Dv n hlt).1;have Jm:∀ q,((wr.setCell R (.string (bs (T.drop (16+2*n+2))))).drewN q).frozen? ⟨gm,n,none⟩=false:=fun q=>((I.reads (16+2*n+2) q).Dv n hlt).2;simp only [World.cell?_drewN,World.frozen?_drewN] at Im Jm
      have Vg:=Im 0;have Vh:=Jm 0;have I9:∀ q x,(((wr.setCell R (.string (bs (T.drop (16+2*n+2))))).drewN q).setCell ⟨gm,n,none⟩ (.int .i64 x)).cell? ⟨B,8,none⟩=some (.slice (some ⟨gm,0,none⟩) nm nm):=fun q x=>by
       rw[((I.reads (16+2*n+2) q).G9 n x).cB 8];rfl
      have mF:∀ q,gz T B R gm gl nm ne W.heap.size W (((wr.setCell R (.string (bs (T.drop (16+2*n+2))))).drewN q).setCell ⟨gm,n,none⟩ (.int .i64 (bo T (16+2*n)))) (16+2*(n+1)) (lH T gm gl nm ne 7) (jc T 16 (n+1) nm) (jc T (17+2*nm) 0 (ne*5)):=fun q=>by
       have:=(I.reads (16+2*n+2) q).G9 n (bo T (16+2*n));rw[Gi T 16 n nm hlt] at this;exact this
      have hnd:=A4 T (16+2*n);go_upto_region 12 with fail
      go_region_held3 (fun w'=>w'.cell? ⟨B,8,none⟩=some (.slice (some ⟨gm,0,none⟩) nm nm)) (first|exact c8|exact I8 _|exact I9 _ _) ((go_at_call 178;refine (A9 R (T.drop (16+2*n)) _ hdl ?_ ?_).mono ?_;(exact I.cR);(exact I.fR);rintro e w5 ⟨rfl,q5,rfl⟩))
      all_goals
       go_wp2_with fail;exact⟨⟨n+1,by omega,by go_num,mF _,by simpa using hsw⟩,by simp[intOf];omega⟩
     ·obtain rfl:n=nm:=by omega
      have cR:=I.cR;have fR:=I.fR;have hdl:(1:Int)<=(T.drop (16+2*n)).length:=by rw[iQ];omega
      clear qZ;go_wp2_with fail;refine (BL R _ (T.drop (16+2*n)) _ (by omega) hdl cR fR).mono ?_
      rintro e w3 ⟨rfl,q,rfl⟩;rw[List.drop_drop,show (16+2*n+(1:Int).toNat)=17+2*n by simp;omega]
      have I2:=I.reads (17+2*n) q;have uH:w2.heap.size<=((wr.setCell R (.string (bs (T.drop (17+2*n))))).drewN q).heap.size:=by simpa using hsw
      generalize ((wr.setCell R (.string (bs (T.drop (17+2*n))))).drewN q)=w4 at *;have c9:w4.cell? ⟨B,9,none⟩=some (.slice (some ⟨gl,0,none⟩) ne ne):=by rw[I2.cB];rfl
      clear I;go_wp2_with fail;go_loopw [51] (fun i wr=>∃ m:Nat,m<=ne/\i=.int .i64 m/\gz T B R gm gl n ne W.heap.size W wr (17+2*n+2*(m*5)) (lH T gm gl n ne 7) (jc T 16 n n) (jc T (17+2*n) (m*5) (ne*5))/\w2.heap.size<=wr.heap.size) (fun i _=>ne-(intOf i).toNat)
      case atStart=>exact⟨0,bl _,rfl,I2,uH⟩
      case round =>
       clear I2 c9;obtain⟨m,hm,rfl,I,hsw⟩:=hrel;by_cases hlt:m<ne
       ·have c9:wr.cell? ⟨B,9,none⟩=some (.slice (some ⟨gl,0,none⟩) ne ne):=by rw[I.cB];rfl
        have hBw:B<wr.heap.size:=by have:=hb2.size;omega
        have hWw:W.heap.size<=wr.heap.size:=by have:=hb2.size;omega
        go_wp2_with fail;refine (DT gl _ _).mono ?_
        rintro e w5 ⟨hb5,rfl⟩;have I5:=I.below hb5 hBw hWw;have Fa:w2.heap.size<=w5.heap.size:=by have:=hb5.size;omega
        clear I c9;go_wp2_with fail;go_loopw [59] (fun i wr=>∃ j:Nat,j<=5/\i=.int .i64 j/\gz T B R gm gl n ne W.heap.size W wr (17+2*n+2*(m*5+j)) (lH T gm gl n ne 7) (jc T 16 n n) (jc T (17+2*n) (m*5+j) (ne*5))/\w2.heap.size<=wr.heap.size) (fun i _=>5-(intOf i).toNat)
        case atStart=>exact⟨0,bl _,rfl,I5,Fa⟩
        case round =>
         clear I5 Fa;obtain⟨j,hj,rfl,I,Fb⟩:=hrel;by_cases hlj:j<5
         ·have hix:=DS gl (m*5) j hlj
          have cR:=I.cR;have fR:=I.fR;have ND:2<=(T.drop (17+2*n+2*(m*5+j))).length:=by have:=HT.out;rw[iQ];omega
          have hnd:=A4 T (17+2*n+2*(m*5+j));go_wp2_with fail;refine (A9 R _ _ ND cR fR).mono ?_
          rintro e w6 ⟨rfl,q6,rfl⟩;rw[hnd,List.drop_drop];have I6:=I.reads (17+2*n+2*(m*5+j)+2) q6;have OA:w2.heap.size<=((wr.setCell R (.string (bs (T.drop (17+2*n+2*(m*5+j)+2))))).drewN q6).heap.size:=by simpa using Fb
          generalize ((wr.setCell R (.string (bs (T.drop (17+2*n+2*(m*5+j)+2))))).drewN q6)=w7 at *;obtain⟨cl,fl⟩:=I6.cellL (m*5+j) (by omega)
          have I7:=I6.TM (m*5+j) (bo T (17+2*n+2*(m*5+j)));rw[Gi T (17+2*n) (m*5+j) (ne*5) (by omega)] at I7
          clear hix hnd;go_wp2_with fail;exact⟨⟨j+1,by omega,by go_num,I7,by simpa using OA⟩,by simp[intOf];omega⟩
         ·obtain rfl:j=5:=by omega
          go_wp2_with fail;refine⟨⟨m+1,by omega,by go_num, ?_,Fb⟩,by simp[intOf];omega⟩
          rw[show (m+1)*5=m*5+5 by omega]
          exact I
       ·obtain rfl:m=ne:=by omega
        have c:∀ j,wr.cell? ⟨B,j,none⟩=lH T gm gl n m 7 j:=I.cB;have c0:wr.cell? ⟨B,0,none⟩=some (.int .i64 (bn T 0:Nat)):=c 0;have c1:wr.cell? ⟨B,1,none⟩=some (.int .i64 (bo T 1)):=c 1;have c2:wr.cell? ⟨B,2,none⟩=some (.int .i64 (bo T 3)):=c 2;have c3:wr.cell? ⟨B,3,none⟩=some (.int .i64 (bo T 5)):=c 3;have c4:wr.cell? ⟨B,4,none⟩=some (.int .i64 (bo T 7)):=c 4;have c5:wr.cell? ⟨B,5,none⟩=some (.int .i64 (bo T 9)):=c 5;have c6:wr.cell? ⟨B,6,none⟩=some (.int .i64 (bo T 11)):=c 6;have c7:wr.cell? ⟨B,7,none⟩=some (.int .i64 (bo T 13)):=c 7;have c8:wr.cell? ⟨B,8,none⟩=some (.slice (some ⟨gm,0,none⟩) n n):=c 8;have c9:wr.cell? ⟨B,9,none⟩=some (.slice (some ⟨gl,0,none⟩) m m):=c 9;have hw:w.heap.size<W.heap.size:=by have:=yJ.out;omega
        have r1:∀ j,wr.cell? ⟨w.heap.size,j,none⟩=#[.int .i64 0,.int .i64 0,.int .i64 0,.int .i64 0,.int .i64 0,.int .i64 0,.int .i64 0,.int .i64 0,.slice none 0 0,.slice none 0 0][j]?:=fun j=>(I.be.cell (p:=⟨w.heap.size,j,none⟩) hw).trans (Hq.out j);have r2:∀ j,wr.frozen? ⟨w.heap.size,j,none⟩=false:=fun j=>(I.be.frozen (p:=⟨w.heap.size,j,none⟩) hw).trans (Hf.out j);have hbe:ai w wr:=hb0.trans (I.be.mono hb0.size);have om:=I.om;have ol:=I.ol;rw[Gg] at om;rw[Gg, <- wo] at ol;have hBw:B≠w.heap.size:=by omega
        clear c I;go_wp2_with fail;refine dB (v:=.agg #[.int .i64 (fa T),.int .i64 (bo T 1),.int .i64 (bo T 3),.int .i64 (bo T 5),.int .i64 (bo T 7),.int .i64 (bo T 9),.int .i64 (bo T 11),.int .i64 (bo T 13),.slice (some ⟨gm,0,none⟩) n n,.slice (some ⟨gl,0,none⟩) m m]) (by simp[results,results150,go_sem,r1,fa]) rfl ⟨?_,_,_,rfl, ?_, ?_⟩
        ·iterate 10 refine eE ?_ (by exact aG _) _
         exact hbe
        ·rw[<- yJ.out]
         iterate 10 refine bC ?_ (by exact hw) _
         exact om
        ·rw[<- yJ.out]
         iterate 10 refine bC ?_ (by exact hw) _
         exact ol
end Go.Proofs.YtgieeeeeiggoeaaGreat
