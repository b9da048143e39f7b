import Derived.Test.YtgieeeeeiggoeaaGreatC33
import Derived.BigRegion
import Derived.Test.YtgieeeeeiggoeaaGreatC32
set_option maxRecDepth 100000
set_option maxHeartbeats 2000000
namespace Go.Proofs.YtgieeeeeiggoeaaGreat
open Go.RowKit Go.Shelf
theorem rc_lt {w:World}{b o:Nat}{v:Value}(h:w.cell? ⟨b,o,none⟩=some v):b<w.heap.size:=by
 apply Nat.lt_of_not_le
 intro hle;unfold World.cell? at h
 simp[Array.getElem?_eq_none hle] at h
theorem refStatus_any {w:World}{F:Nat→Prop}{y:Nat}{c:Clu}(d:Int)(h:RefAt w F y c)(hn:c.reps.length≤5)(hd:c.isRep d) :
  Calls Tryz.prog 97 #[.pointer (some ⟨y,0,none⟩),.int .i64 d] w fun e w'=>∃ vm vl,e=.returned (.tuple #[.agg #[.bool (c.rep d).up,.int .i64 (c.rep d).epoch,.int .i64 (c.rep d).lock,.int .i64 ((c.rep d).commit:Int),vm,vl],.int .i64 0])∧IntOwn w vm (c.rep d).mems∧LogOwn w vl (c.rep d).log∧Below w.heap.size w w':=by
 obtain⟨br,ba,bm,vr,va,vm,vb,vt,vv,vc,h⟩:=h;obtain⟨ar,cr,hvr⟩:=osh h.rr
 subst hvr;have hd1:=hd.1
 have hd2:=hd.2
 obtain⟨i,rfl⟩:∃ i:Nat,d=(i:Int):=⟨d.toNat,by omega⟩
 have hi:i<c.reps.length:=by omega
 obtain⟨wm,wl,hb,hm,hl, -, -, -⟩:=h.reps i hi
 obtain⟨g,cap,hv, -, -⟩:=h.rr.form (by omega)
 cases hv
 have hcell:=World.ownsRow.cellAt h.rr i (by omega)
 rw[ptrs_at br 0 c.reps.length i hi,Nat.zero_add] at hcell
 have hk:kindOf c.reps.length (i:Int)=(1,(i:Int)):=by unfold kindOf;rw[if_pos ⟨by omega,by omega⟩]
 obtain⟨am,cm,hvm⟩:=osh hm
 subst hvm;obtain⟨al,cl,hvl⟩:=osh hl
 subst hvl;have hyl:y<w.heap.size:=(Array.getElem?_eq_some_iff.1 h.blk).1
 have hbl:br i<w.heap.size:=(Array.getElem?_eq_some_iff.1 hb).1
 have hgl:g<w.heap.size:=rc_lt hcell
 have hy1:¬ y=w.heap.size:=by omega
 have hy2:¬ w.heap.size=y:=by omega
 have hb1:¬ br i=w.heap.size:=by omega
 have hb2:¬ w.heap.size=br i:=by omega
 obtain⟨X,hX,hbX,hM⟩:=bm1 w #[.bool false,.int .i64 0,.int .i64 0,.int .i64 0,.slice none 0 0,.slice none 0 0] 46
 have c0:X.cell? ⟨y,0,none⟩=some (.slice (some ⟨g,0,none⟩) c.reps.length cr):=cell_later hbX (coh h.blk 0)
 have cg:=cell_later hbX hcell
 have hbXb:=(hbX.block _ hbl).trans hb
 generalize c.rep (i:Int)=r at *
 have r0:X.cell? ⟨br i,0,none⟩=some (.bool r.up):=coh hbXb 0
 have r1:X.cell? ⟨br i,1,none⟩=some (.int .i64 r.epoch):=coh hbXb 1
 have r2:X.cell? ⟨br i,2,none⟩=some (.int .i64 r.lock):=coh hbXb 2
 have r3:X.cell? ⟨br i,3,none⟩=some (.slice am r.mems.length cm):=coh hbXb 3
 have r4:X.cell? ⟨br i,4,none⟩=some (.slice al r.log.length cl):=coh hbXb 4
 have r6:X.cell? ⟨br i,6,none⟩=some (.int .i64 (r.commit:Int)):=coh hbXb 6
 have HK:=hideA (refKind_any y c.reps.length _ cr (i:Int) X c0 hn (by omega))
 rw[hk] at HK
 have gW:=fun j=>coh hM j
 have fW:=fun j=>foh hM j
 have HO:=hideA (And.intro hm hl)
 have hi1:(i:Int)<(c.reps.length:Int):=by omega
 have hi0:(0:Int)≤(i:Int):=by omega
 clear h hb hm hl hcell hk hd;go_enter Tryz.func97,Tryz.ntmps97
 go_upto_region 1 with fail
 clear hX hM hbXb;go_wp2_with fail;refine HK.out.mono ?_
 rintro e W ⟨rfl,rfl⟩;go_wp2_with fail;go_region
 go_wp2_with fail;refine bodyPost_ret (v:=.tuple #[.agg #[.bool r.up,.int .i64 r.epoch,.int .i64 r.lock,.int .i64 (r.commit:Int),.slice am r.mems.length cm,.slice al r.log.length cl],.int .i64 0]) (by simp[results,Tryz.results97,go_sem,gW]) rfl ?_
 refine⟨_,_,rfl,HO.out.1,HO.out.2, ?_⟩
 refine Below.drew ?_
 iterate 6 refine Below.setCell ?_ (by exact Nat.le_refl _) _
 exact hbX
theorem refStatus_no {w:World}{F:Nat→Prop}{y:Nat}{c:Clu}(d:Int)(h:RefAt w F y c)(hn:c.reps.length≤5)(hd:¬ c.isRep d)(hi : -9223372036854775808≤d∧d≤9223372036854775807) :
  Calls Tryz.prog 97 #[.pointer (some ⟨y,0,none⟩),.int .i64 d] w fun e w'=>e=.returned (.tuple #[.agg #[.bool false,.int .i64 0,.int .i64 0,.int .i64 0,.slice none 0 0,.slice none 0 0],.int .i64 4])∧Below w.heap.size w w':=by
 obtain⟨br,ba,bm,vr,va,vm,vb,vt,vv,vc,h⟩:=h;obtain⟨ar,cr,hvr⟩:=osh h.rr
 subst hvr;have hyl:y<w.heap.size:=(Array.getElem?_eq_some_iff.1 h.blk).1
 have hy1:¬ y=w.heap.size:=by omega
 have hy2:¬ w.heap.size=y:=by omega
 obtain⟨X,hX,hbX,hM⟩:=bm1 w #[.bool false,.int .i64 0,.int .i64 0,.int .i64 0,.slice none 0 0,.slice none 0 0] 46
 have c0:X.cell? ⟨y,0,none⟩=some (.slice ar c.reps.length cr):=cell_later hbX (coh h.blk 0)
 have HK:=hideA (refKind_any y c.reps.length _ cr d X c0 hn hi)
 have hk:(kindOf c.reps.length d).1≠1:=by
  unfold kindOf
  rw[if_neg (fun e=>hd ⟨e.1,e.2⟩)]
  split
  ·show (2:Int)≠1;omega
  ·split
   ·show (3:Int)≠1;omega
   ·show (0:Int)≠1;omega
 generalize (kindOf c.reps.length d).1=k1 at *
 generalize (kindOf c.reps.length d).2=k2 at *
 have hk':(k1 == 1)=false:=by simpa using hk
 have gW:=fun j=>coh hM j
 have fW:=fun j=>foh hM j
 clear h hd;go_enter Tryz.func97,Tryz.ntmps97
 go_upto_region 1 with fail
 clear hX hM;go_wp2_with fail;refine HK.out.mono ?_
 rintro e W ⟨rfl,rfl⟩;go_wp2_with fail;refine bodyPost_ret (v:=.tuple #[.agg #[.bool false,.int .i64 0,.int .i64 0,.int .i64 0,.slice none 0 0,.slice none 0 0],.int .i64 4]) (by simp[results,Tryz.results97,go_sem,gW]) rfl ⟨rfl, ?_⟩
 iterate 6 refine Below.setCell ?_ (by exact Nat.le_refl _) _
 exact hbX
theorem refBallots_no {w:World}{F:Nat→Prop}{y:Nat}{c:Clu}(d:Int)(h:RefAt w F y c)(hn:c.reps.length≤5)(hd:¬ isAcc d)(hi : -9223372036854775808≤d∧d≤9223372036854775807) :
  Calls Tryz.prog 102 #[.pointer (some ⟨y,0,none⟩),.int .i64 d] w fun e w'=>e=.returned (.tuple #[.agg #[.bool false,.int .i64 0,.slice none 0 0],.int .i64 4])∧Below w.heap.size w w':=by
 obtain⟨br,ba,bm,vr,va,vm,vb,vt,vv,vc,h⟩:=h;obtain⟨ar,cr,hvr⟩:=osh h.rr
 subst hvr;have hyl:y<w.heap.size:=(Array.getElem?_eq_some_iff.1 h.blk).1
 have hy1:¬ y=w.heap.size:=by omega
 have hy2:¬ w.heap.size=y:=by omega
 obtain⟨X,hX,hbX,hM⟩:=bm1 w #[.bool false,.int .i64 0,.slice none 0 0] 53
 have c0:X.cell? ⟨y,0,none⟩=some (.slice ar c.reps.length cr):=cell_later hbX (coh h.blk 0)
 have HK:=hideA (refKind_any y c.reps.length _ cr d X c0 hn hi)
 have hk:(kindOf c.reps.length d).1≠2:=by
  unfold kindOf
  split
  ·show (1:Int)≠2;omega
  ·rw[if_neg (fun e:100≤d∧d<103=>hd ⟨e.1,e.2⟩)]
   split
   ·show (3:Int)≠2;omega
   ·show (0:Int)≠2;omega
 generalize (kindOf c.reps.length d).1=k1 at *
 generalize (kindOf c.reps.length d).2=k2 at *
 have hk':(k1 == 2)=false:=by simpa using hk
 have gW:=fun j=>coh hM j
 have fW:=fun j=>foh hM j
 clear h hd;go_enter Tryz.func102,Tryz.ntmps102
 go_upto_region 1 with fail
 clear hX hM;go_wp2_with fail;refine HK.out.mono ?_
 rintro e W ⟨rfl,rfl⟩;go_wp2_with fail;refine bodyPost_ret (v:=.tuple #[.agg #[.bool false,.int .i64 0,.slice none 0 0],.int .i64 4]) (by simp[results,Tryz.results102,go_sem,gW]) rfl ⟨rfl, ?_⟩
 iterate 3 refine Below.setCell ?_ (by exact Nat.le_refl _) _
 exact hbX
theorem refBallots_any {w:World}{F:Nat→Prop}{y:Nat}{c:Clu}(d:Int)(h:RefAt w F y c)(hn:c.reps.length≤5)(hd:isAcc d) :
  Calls Tryz.prog 102 #[.pointer (some ⟨y,0,none⟩),.int .i64 d] w fun e w'=>∃ vm,e=.returned (.tuple #[.agg #[.bool (c.acc d).up,.int .i64 (c.acc d).epoch,vm],.int .i64 0])∧IntOwn w vm (c.acc d).mems∧Below w.heap.size w w':=by
 obtain⟨br,ba,bm,vr,va,vm,vb,vt,vv,vc,h⟩:=h;obtain⟨ar,cr,hvr⟩:=osh h.rr
 subst hvr;have hd1:=hd.1
 have hd2:=hd.2
 obtain⟨i,rfl⟩:∃ i:Nat,d=100+(i:Int):=⟨(d-100).toNat,by omega⟩
 have hi:i<3:=by omega
 obtain⟨wm,hb,hm, -, -, -⟩:=h.accs i hi
 obtain⟨g,cap,hv, -, -⟩:=h.ra.form (by omega)
 subst hv;have hcell:=World.ownsRow.cellAt h.ra i (by omega)
 rw[ptrs_at ba 0 3 i hi,Nat.zero_add] at hcell
 have hk:kindOf c.reps.length (100+(i:Int))=(2,(i:Int)):=by
  unfold kindOf
  rw[if_neg (by omega),if_pos ⟨by omega,by omega⟩]
  simp
  omega
 obtain⟨am,cm,hvm⟩:=osh hm
 subst hvm;have hyl:y<w.heap.size:=(Array.getElem?_eq_some_iff.1 h.blk).1
 have hbl:ba i<w.heap.size:=(Array.getElem?_eq_some_iff.1 hb).1
 have hgl:g<w.heap.size:=rc_lt hcell
 have hy1:¬ y=w.heap.size:=by omega
 have hy2:¬ w.heap.size=y:=by omega
 have hb1:¬ ba i=w.heap.size:=by omega
 have hb2:¬ w.heap.size=ba i:=by omega
 obtain⟨X,hX,hbX,hM⟩:=bm1 w #[.bool false,.int .i64 0,.slice none 0 0] 53
 have c0:X.cell? ⟨y,0,none⟩=some (.slice ar c.reps.length cr):=cell_later hbX (coh h.blk 0)
 have c1:X.cell? ⟨y,1,none⟩=some (.slice (some ⟨g,0,none⟩) 3 cap):=cell_later hbX (coh h.blk 1)
 have cg:=cell_later hbX hcell
 have hbXb:=(hbX.block _ hbl).trans hb
 generalize c.acc (100+(i:Int))=r at *
 have r0:X.cell? ⟨ba i,0,none⟩=some (.bool r.up):=coh hbXb 0
 have r1:X.cell? ⟨ba i,1,none⟩=some (.int .i64 r.epoch):=coh hbXb 1
 have r2:X.cell? ⟨ba i,2,none⟩=some (.slice am r.mems.length cm):=coh hbXb 2
 have HK:=hideA (refKind_any y c.reps.length _ cr (100+(i:Int)) X c0 hn (by omega))
 rw[hk] at HK
 have gW:=fun j=>coh hM j
 have fW:=fun j=>foh hM j
 have HO:=hideA hm;have hi1:(i:Int)<3:=by omega
 have hi0:(0:Int)≤(i:Int):=by omega
 clear h hb hm hcell hk hd;go_enter Tryz.func102,Tryz.ntmps102
 go_upto_region 1 with fail
 clear hX hM hbXb;go_wp2_with fail;refine HK.out.mono ?_
 rintro e W ⟨rfl,rfl⟩;go_wp2_with fail;go_region
 go_wp2_with fail;refine bodyPost_ret (v:=.tuple #[.agg #[.bool r.up,.int .i64 r.epoch,.slice am r.mems.length cm],.int .i64 0]) (by simp[results,Tryz.results102,go_sem,gW]) rfl ?_
 refine⟨_,rfl,HO.out, ?_⟩
 refine Below.drew ?_
 iterate 3 refine Below.setCell ?_ (by exact Nat.le_refl _) _
 exact hbX
theorem infoStr2 : (Tryz.prog.info? 9).map (fun i=>(i.zero,i.size,i.bytes))=some (some (.string ⟨#[]⟩),1,16):=by kernel_rfl
theorem frV_at (l:List (List UInt8 × Bool))(i:Nat)(f:List UInt8 × Bool)(hf:l[i]?=some f):(frV l)[i*2]?=some (.string (bs f.1)):=by
 induction l generalizing i with
 | nil=>simp at hf
 | cons a t ih =>
  have e:frV (a :: t)=[Value.string (bs a.1),.bool a.2]++frV t:=by simp[frV]
  rw[e];cases i with
  | zero =>
   simp at hf
   subst hf;rfl
  | succ i =>
   rw[List.getElem?_append_right (by simp;omega),show (i+1)*2 - [Value.string (bs a.1),Value.bool a.2].length=i*2 by simp;omega]
   exact ih i (by simpa using hf)
theorem refTexts_any {w:World}{F:Nat→Prop}{y:Nat}{c:Clu}(h:RefAt w F y c)(hl:c.bag.length≤1000) :
  Calls Tryz.prog 90 #[.pointer (some ⟨y,0,none⟩)] w fun e w'=>∃ v,e=.returned v∧w'.ownsRow w.heap.size 9 1 v c.bag.length (strs (c.bag.map Prod.fst))∧Below w.heap.size w w':=by
 obtain⟨br,ba,bm,vr,va,vm,vb,vt,vv,vc,h⟩:=h;obtain⟨ab,cb,hvb⟩:=osh h.bag
 subst hvb;have c3:w.cell? ⟨y,3,none⟩=some (.slice ab c.bag.length cb):=coh h.blk 3
 have HB:=hideA h.bag
 clear h;go_enter Tryz.func90,Tryz.ntmps90
 go_wp2_with fail;go_loopw [3,4] (fun v i wr=>∃ k:Nat,k≤c.bag.length∧i=.int .i64 k∧wr.ownsRow w.heap.size 9 1 v k (strs ((c.bag.take k).map Prod.fst))∧Below w.heap.size w wr) (fun _ i _=>c.bag.length-(intOf i).toNat)
 case atStart=>exact⟨0,Nat.zero_le _,rfl,World.ownsRow_nil _ _ _ _,Below.refl _ _⟩
 case round =>
  obtain⟨k,hk,rfl,hown,hb⟩:=hrel;obtain⟨av,cv,hv⟩:=osh hown
  subst hv;have r3:=cell_later hb c3
  have hk0:(0:Int)≤(k:Int):=by omega
  by_cases hlt:k<c.bag.length
  ·have hk1:(k:Int)<(c.bag.length:Int):=by omega
   obtain⟨g,cap,hvb, -, -⟩:=HB.out.form (by omega)
   cases hvb
   have hf:c.bag[k]?=some c.bag[k]:=List.getElem?_eq_getElem hlt
   have hcell:=World.ownsRow.cellAt HB.out (k*2) (by omega)
   rw[frV_at _ _ _ hf] at hcell
   have ck:=cell_later hb hcell
   have htk:Hid (strs ((c.bag.take (k+1)).map Prod.fst)=strs ((c.bag.take k).map Prod.fst)++[.string (bs c.bag[k].1)]):=hideA (by rw[List.take_succ_eq_append_getElem hlt,List.map_append,strs_append];rfl)
   generalize c.bag[k]=f at *
   obtain⟨g',cap',W1,hrun,ho1,hg1,hwh⟩:=append_row (t:=111) infoStr2 Tryz.underlying111 rfl (by decide) (wr.alloc (.cells #[.string (bs f.1)] 9)) w.heap.size (.slice av k cv) k (strs ((c.bag.take k).map Prod.fst)) [.string (bs f.1)] wr.heap.size (hown.alloc _) (hnw _ _) rfl (by intro u hu;simp at hu;subst hu;rfl) (by omega) (by decide) (by simp;have:=hb.size;omega)
   have HR:=hideA hrun;have hbW:Below w.heap.size w W1:=hb.trans ((((Moved.refl wr (fun j=>(Value.slice av k cv).ownBlock=some j)).alloc _).grown hg1 (fun j _ e=>e)).to_below (fun j e=>(hown.lt j e).1) hb.size)
   have HO:=hideA (And.intro ho1 hbW)
   clear hrun ho1 hg1 hbW hcell hown;go_wp2_with (at_builtin;refine wpList_append_run rfl (.tmp 14) (.tmp 23) 111 rfl _ _ _ _ (by simp[Act.eval]) (by simp[Act.eval]) HR.out ?_)
   go_wp2_with fail;refine⟨⟨k+1,by omega,by go_num,by rw[htk.out];exact HO.out.1,HO.out.2⟩,by simp[intOf];omega⟩
  ·obtain rfl:k=c.bag.length:=by omega
   rw[List.take_length] at hown
   have HO:=hideA (And.intro hown hb)
   clear hown;go_wp2_with fail;go_ret;exact⟨_,rfl,HO.out.1,HO.out.2⟩
theorem cluStatus_no {w:World}{F:Nat→Prop}{x:Nat}{c:Clu}(d:Int)(h:CAt w F x c)(hd:¬ c.isRep d)(_hi : -9223372036854775808≤d∧d≤9223372036854775807) :
  Calls Tryz.prog 54 #[.pointer (some ⟨x,0,none⟩),.int .i64 d] w fun r w'=>r=.returned (.tuple #[.agg #[.bool false,.int .i64 0,.int .i64 0,.int .i64 0,.slice none 0 0,.slice none 0 0],.int .i64 4])∧Below w.heap.size w w':=by
 obtain⟨gs,cap,b,Fn,vr,va,vm,vb,vt,h⟩:=h;obtain⟨ar,cr,hvr⟩:=osh h.rr
 subst hvr;have e0:(if 0≤d∧d<0+(c.reps.length:Int) then Value.tuple #[.pointer (some ⟨b (0+(d-0).toNat),0,none⟩),.bool true] else .tuple #[.pointer none,.bool false])=.tuple #[.pointer none,.bool false]:=by
  rw[if_neg (fun e=>hd ⟨e.1,by have:=e.2;omega⟩)]
 have HP:Hid (∀ W,Below w.heap.size w W→Calls Tryz.prog 59 #[.slice ar c.reps.length cr,.int .i64 0,.int .i64 d] W fun e w'=>e=.returned (.tuple #[.pointer none,.bool false])∧w'=W):=hideA fun W hb=>by
  have:=pickRep_any _ b 0 c.reps.length 0 d W (h.below hb).rr (by have:=h.n5;omega) (by omega)
  rw[e0] at this
  exact this
 have HI:=hideA h;have hxl:x<w.heap.size:=h.lt x (h.inO x (.inl rfl))
 have hx1:¬ x=w.heap.size:=by omega
 have hx2:¬ w.heap.size=x:=by omega
 clear h e0;go_enter Tryz.func54,Tryz.ntmps54
 go_upto_region 1 with fail
 obtain⟨X,hX,hbX,hM⟩:=bm1 w #[.bool false,.int .i64 0,.int .i64 0,.int .i64 0,.slice none 0 0,.slice none 0 0] 46
 rw[hX];clear hX;have c1:=coh (HI.out.below hbX).bag.blk 1
 have gW:=fun j=>coh hM j
 have fW:=fun j=>foh hM j
 go_wp2_with fail;refine (HP.out X hbX).mono ?_
 rintro e W ⟨rfl,rfl⟩;clear c1;go_wp2_with fail;refine bodyPost_ret (v:=.tuple #[.agg #[.bool false,.int .i64 0,.int .i64 0,.int .i64 0,.slice none 0 0,.slice none 0 0],.int .i64 4]) (by simp[results,Tryz.results54,go_sem,gW]) rfl ⟨rfl, ?_⟩
 iterate 6 refine Below.setCell ?_ (by exact Nat.le_refl _) _
 exact hbX
theorem cluBallots_no {w:World}{F:Nat→Prop}{x:Nat}{c:Clu}(d:Int)(h:CAt w F x c)(hd:¬ isAcc d)(_hi : -9223372036854775808≤d∧d≤9223372036854775807) :
  Calls Tryz.prog 20 #[.pointer (some ⟨x,0,none⟩),.int .i64 d] w fun r w'=>r=.returned (.tuple #[.agg #[.bool false,.int .i64 0,.slice none 0 0],.int .i64 4])∧Below w.heap.size w w':=by
 obtain⟨gs,cap,b,Fn,vr,va,vm,vb,vt,h⟩:=h;obtain⟨ar,cr,hvr⟩:=osh h.ra
 subst hvr;have e0:(if 100≤d∧d<100+((3:Nat):Int) then Value.tuple #[.pointer (some ⟨b (c.reps.length+(d-100).toNat),0,none⟩),.bool true] else .tuple #[.pointer none,.bool false])=.tuple #[.pointer none,.bool false]:=by
  rw[if_neg (fun e=>hd (by unfold isAcc;omega))]
 have HP:Hid (∀ W,Below w.heap.size w W→Calls Tryz.prog 38 #[.slice ar 3 cr,.int .i64 100,.int .i64 d] W fun e w'=>e=.returned (.tuple #[.pointer none,.bool false])∧w'=W):=hideA fun W hb=>by
  have:=pickAcc_any _ b c.reps.length 3 100 d W (h.below hb).ra (by omega) (by omega)
  rw[e0] at this
  exact this
 have HI:=hideA h;have hxl:x<w.heap.size:=h.lt x (h.inO x (.inl rfl))
 have hx1:¬ x=w.heap.size:=by omega
 have hx2:¬ w.heap.size=x:=by omega
 clear h e0;go_enter Tryz.func20,Tryz.ntmps20
 go_upto_region 1 with fail
 obtain⟨X,hX,hbX,hM⟩:=bm1 w #[.bool false,.int .i64 0,.slice none 0 0] 53
 rw[hX];clear hX;have c1:=coh (HI.out.below hbX).bag.blk 2
 have gW:=fun j=>coh hM j
 have fW:=fun j=>foh hM j
 go_wp2_with fail;refine (HP.out X hbX).mono ?_
 rintro e W ⟨rfl,rfl⟩;clear c1;go_wp2_with fail;refine bodyPost_ret (v:=.tuple #[.agg #[.bool false,.int .i64 0,.slice none 0 0],.int .i64 4]) (by simp[results,Tryz.results20,go_sem,gW]) rfl ⟨rfl, ?_⟩
 iterate 3 refine Below.setCell ?_ (by exact Nat.le_refl _) _
 exact hbX
end Go.Proofs.YtgieeeeeiggoeaaGreat
namespace Go.Proofs.YtgieeeeeiggoeaaGreat
open Go.RowKit
def BkdI (w w':World)(B base bv N n:Nat)(x0 x5 v vB c1 c2 c3:Value)(xs:List Value)(mk:Int):Prop :=
 ∃ v1 v2 v3 vB',w'.heap[B]?=some (.cells #[x0,vB',c1,c2,c3,x5] 67)∧w'.ownsRow base 29 1 vB' (N+4) (xs++[v,v1,v2,v3]) ∧
  w'.ownsRow bv 3 1 v n (ints (List.replicate n mk))∧w'.ownsRow bv 3 1 v1 (n+1) (ints (List.replicate (n+1) mk)) ∧
  w'.ownsRow bv 3 1 v2 (n+2) (ints (List.replicate (n+2) mk))∧w'.ownsRow bv 3 1 v3 (n+3) (ints (List.replicate (n+3) mk)) ∧
  Moved w w' (fun k=>k=B∨v.ownBlock=some k∨vB.ownBlock=some k)∧∀ k,vB'.ownBlock=some k→vB.ownBlock=some k∨w.heap.size≤k
theorem bkInts_any (B base bv N:Nat)(x0 x5 v vB c1 c2 c3:Value)(xs:List Value)(l:List Int)(w:World)(hB:w.heap[B]?=some (.cells #[x0,vB,c1,c2,c3,x5] 67))(hBb:B<base)(hBv:B<bv)(hbs:base≤w.heap.size)(hbv:bv≤w.heap.size)
  (hv:w.ownsRow bv 3 1 v l.length (ints l)) (hbk:w.ownsRow base 29 1 vB N xs) (hN:N≤1000000000) (hl:l.length≤1000000000) :
  Calls Tryz.prog 100 #[.pointer (some ⟨B,1,none⟩),v] w fun e w'=>e=.returned (.tuple #[])∧BkdI w w' B base bv N l.length x0 x5 v vB c1 c2 c3 xs (-1000-(N:Int) / 4):=by
 obtain⟨aB,cB,rfl⟩:=osh hbk
 obtain⟨av,cv,rfl⟩:=osh hv
 have q0:w.cell? ⟨B,1,none⟩=some (.slice aB N cB):=Joins.cell_of_block hB 1
 have HB:=hideA hB;clear hB;go_enter Tryz.func100,Tryz.ntmps100
 go_wp2_with fail;refine (markInt_any _ _ (by omega) (by omega)).mono ?_
 rintro e W ⟨rfl,rfl⟩;generalize hmk:(-1000-(N:Int) / 4)=mk
 have HMK:=hideA hmk;clear hmk;clear q0;go_wp2_with fail;go_loopw [5] (fun i wr=>∃ (n:Nat),n≤l.length∧i=.int .i64 (n:Int)∧wr.ownsRow bv 3 1 (.slice av l.length cv) l.length (ints (List.replicate n mk++l.drop n))∧Moved W wr (fun k=>(Value.slice av l.length cv).ownBlock=some k))
  (fun i _=>l.length-(intOf i).toNat)
 case atStart=>exact⟨0,Nat.zero_le _,rfl,by simpa using hv,Moved.refl _ _⟩
 case round =>
  obtain⟨n,hn,rfl,hown,hmv⟩:=hrel;by_cases hlt:n<l.length
  ·obtain⟨g,cap,hvv,hg1,hg2⟩:=hown.form (by omega)
   cases hvv
   have c1:=hown.cellAt n (by omega)
   have f1:=hown.frozenAt n
   have c1':∃ u,wr.cell? ⟨g,n,none⟩=some u:=by
    rw[c1];exact⟨_,List.getElem?_eq_getElem (by rw[ints_length,marks_length _ _ _ hn];exact hlt)⟩
   obtain⟨u,c1'⟩:=c1';clear c1;have hst:=hown.stored n (.int .i64 mk)
   rw[marks_step l n mk hlt] at hst
   have HS:=hideA hst;clear hst;go_wp2_with fail;exact⟨⟨n+1,by omega,by go_num,HS.out.1,hmv.grown HS.out.2 (fun k _ h=>h)⟩,by simp[intOf];omega⟩
  ·obtain rfl:n=l.length:=by omega
   rw[List.drop_length,List.append_nil] at hown
   have hbs':bv≤wr.heap.size:=Nat.le_trans hbv hmv.size
   have hbs'':base≤wr.heap.size:=Nat.le_trans hbs hmv.size
   go_wp2_with (at_builtin;refine wpList_keeps_mark rfl _ _ rfl bv _ l.length mk rfl (hown.alloc _) wr.heap.size 1 rfl (by simp) (by omega) (by simp;omega) ?_)
   intro g1 k1 w1 o1 gr1 ov1 li1;have hs1:=(grown_allocK gr1).size
   have hs1':=gr1.size
   rw[World.size_alloc] at hs1'
   go_wp2_with (at_builtin;refine wpList_keeps_mark rfl _ _ rfl bv _ (l.length+1) mk rfl (o1.alloc _) w1.heap.size 1 rfl (by simp) (by omega) (by simp;omega) ?_)
   intro g2 k2 w2 o2 gr2 o12 li2;have hs2:=gr2.size
   rw[World.size_alloc] at hs2
   have ov2:=owns_beside (ov1.alloc _) (o1.alloc _) gr2 o12 (by omega) (by omega)
   go_wp2_with (at_builtin;refine wpList_keeps_mark rfl _ _ rfl bv _ (l.length+1+1) mk rfl (o2.alloc _) w2.heap.size 1 rfl (by simp) (by omega) (by simp;omega) ?_)
   intro g3 k3 w3 o3 gr3 o23 li3;have hs3:=gr3.size
   rw[World.size_alloc] at hs3
   have ov3:=owns_beside (ov2.alloc _) (o2.alloc _) gr3 o23 (by omega) (by omega)
   have o13:=owns_beside (o12.alloc _) (o2.alloc _) gr3 o23 (by omega) (by omega)
   clear ov1 ov2 o1 o12 o2;have M3:Moved W w3 (fun k=>(Value.slice av l.length cv).ownBlock=some k):=by
    refine (((hmv.alloc _).grown gr1 (fun k _ h=>h)).alloc _).grown gr2 (fun k hk h => ?_) |>.alloc _ |>.grown gr3 (fun k hk h => ?_)
    ·have hg:g1=k:=by simpa [Value.ownBlock] using h
     have:=hmv.size
     rcases li1 with h1|h1
     ·rw[h1,hg]
     ·omega
    ·have hg:g2=k:=by simpa [Value.ownBlock] using h
     have:=hmv.size
     rcases li2 with h2|h2
     ·have hg2:g1=g2:=by simpa [Value.ownBlock] using h2
      rcases li1 with h1|h1
      ·rw[h1,hg2,hg]
      ·omega
     ·omega
   have hbk3:w3.ownsRow base 29 1 (.slice aB N cB) N xs:=M3.owns hbk (fun k hk h=>otw hbk hv (by decide) k hk h)
   have hB3:w3.heap[B]?=some (.cells #[x0,.slice aB N cB,c1,c2,c3,x5] 67):=(M3.block B (by omega) (fun h=>by have:=(hv.lt B h).1;omega)).trans HB.out
   have q0:w3.cell? ⟨B,1,none⟩=some (.slice aB N cB):=Joins.cell_of_block hB3 1
   have hB3':=hideA hB3;clear hB3;have hs4:base≤w3.heap.size:=by omega
   go_wp2_with (at_builtin;refine wpList_keeps_row rfl _ _ 60 29 Tryz.underlying60 infoRow rfl base _ N xs rfl (hbk3.alloc _) w3.heap.size 4 4 [.slice av l.length cv,.slice (some ⟨g1,0,none⟩) (l.length+1) k1,.slice (some ⟨g2,0,none⟩) (l.length+1+1) k2,.slice (some ⟨g3,0,none⟩) (l.length+1+1+1) k3] rfl (by omega) (by omega) rfl (by exact hnw _ _) (by simp[Value.oneCell']) (by omega) (by simp;omega) ?_)
   intro g4 k4 w4 o4 gr4 li4;have hB4:w4.heap[B]?=some (.cells #[x0,.slice aB N cB,c1,c2,c3,x5] 67) :=
    ((grown_allocK gr4).block B (by omega) (fun h=>by have:=(hbk3.lt B h.symm).1;omega)).trans hB3'.out
   have q4:w4.cell? ⟨B,1,none⟩=some (.slice aB N cB):=Joins.cell_of_block hB4 1
   have f4:w4.frozen? ⟨B,1,none⟩=false:=Joins.unfrozen_of_block hB4 1
   have hB5:=Joins.block_setCell (i:=1) hB4 (.slice (some ⟨g4,0,none⟩) (N+4) k4)
   have ne1:=fun {v:Value} {n:Nat} {ys:List Value} (h:w3.ownsRow bv 3 1 v n ys)=>fun k hk h'=>otw h hbk3 (by decide) k hk h'
   have M4:Moved w3 w4 (fun k=>(Value.slice aB N cB).ownBlock=some k):=((Moved.refl w3 _).alloc _).grown gr4 (fun k _ h=>h)
   have M5:Moved W (w4.setCell ⟨B,1,none⟩ (.slice (some ⟨g4,0,none⟩) (N+4) k4)) (fun k=>k=B∨(Value.slice av l.length cv).ownBlock=some k∨(Value.slice aB N cB).ownBlock=some k) :=
    ((((Moved.refl W _).trans M3 (fun k _ h=>.inr (.inl h))).trans M4 (fun k _ h=>.inr (.inr h)))).setCell _ (.inl rfl) _
   have HF:Hid (BkdI W (w4.setCell ⟨B,1,none⟩ (.slice (some ⟨g4,0,none⟩) (N+4) k4)) B base bv N l.length x0 x5 (.slice av l.length cv) (.slice aB N cB) c1 c2 c3 xs mk):=by
    refine hideA ⟨.slice (some ⟨g1,0,none⟩) (l.length+1) k1,.slice (some ⟨g2,0,none⟩) (l.length+1+1) k2,.slice (some ⟨g3,0,none⟩) (l.length+1+1+1) k3,.slice (some ⟨g4,0,none⟩) (N+4) k4,hB5, ?_, ?_, ?_, ?_, ?_,M5,fun k hk=>by
     have hg:g4=k:=by simpa [Value.ownBlock] using hk
     subst hg;rcases li4 with h|h
     ·exact .inl h
     ·right
      have:=M3.size
      (try have:=M0.size)
      rw[h];omega⟩
    ·exact ownsRow_setCell_below o4 hBb _
    ·exact ownsRow_setCell_below (M4.owns ov3 (ne1 ov3)) hBv _
    ·exact ownsRow_setCell_below (M4.owns o13 (ne1 o13)) hBv _
    ·exact ownsRow_setCell_below (M4.owns o23 (ne1 o23)) hBv _
    ·exact ownsRow_setCell_below (M4.owns o3 (ne1 o3)) hBv _
   clear hB4 hB5 ne1 M4 M5 o4 ov3 o13 o23 o3 hbk3;go_wp2_with fail;go_end0
   exact⟨rfl,by rw[HMK.out];exact HF.out⟩
end Go.Proofs.YtgieeeeeiggoeaaGreat
