import Derived.RangeFuncNested
import Derived.RangeFuncBound
import Derived.RangeFuncCalls
import Derived.RangeFuncLeaves
import Derived.Shelf.Abstract
import Derived.Shelf.RegionOpen
import Derived.OwnWalkIn
import Derived.TacticsInMore
import Derived.LoopNIn
import Derived.LoopIn
import Derived.Test.YtgieeeeeiggoeaaGreatC12
import Derived.Test.YtgieeeeeiggoeaaGreatC09
set_option maxRecDepth 100000
set_option maxHeartbeats 4000000
namespace Go.Proofs.YtgieeeeeiggoeaaGreat
open Go.RowKit Go.Shelf
attribute [local go_sem] Oper.semAt_some
def KeepT (W W':World):Prop:=∀ (k:Nat) (cs:Array Value) (T:TypeId) (fz:Nat × Nat),T≠5→T≠169→W.heap[k]?=some (Obj.cells cs T fz)→W'.heap[k]?=some (Obj.cells cs T fz)
theorem KeepT.refl (W:World):KeepT W W:=fun _ _ _ _ _ _ h=>h
theorem KeepT.trans {A B C:World}(h:KeepT A B)(k:KeepT B C):KeepT A C:=fun i cs T fz h1 h2 h3=>k i cs T fz h1 h2 (h i cs T fz h1 h2 h3)
theorem KeepT.below {A B:World}(h:Below A.heap.size A B):KeepT A B:=fun i _ _ _ _ _ h3=>(h.block i (Array.getElem?_eq_some_iff.1 h3).1).trans h3
theorem grown_of_below {A B:World}(h:Below A.heap.size A B):A.grownBy B none:=⟨h.os,h.tape,h.output,h.size,fun k hk _=>h.block k hk⟩
def RowIs (w:World)(g:Nat)(es:List Ent):Prop :=
 ∃ cur fz,w.heap[g]?=some (.cells cur 42 fz)∧∀ i,i<es.length →
  w.cell? ⟨g,i*5,none⟩=some (.int .i64 (es.getD i Ent.zero).client)∧w.cell? ⟨g,i*5+1,none⟩=some (.int .i64 (es.getD i Ent.zero).seq) ∧
  w.cell? ⟨g,i*5+2,none⟩=some (.int .i64 (es.getD i Ent.zero).kind)∧w.cell? ⟨g,i*5+3,none⟩=some (.int .i64 (es.getD i Ent.zero).key) ∧
  w.cell? ⟨g,i*5+4,none⟩=some (.int .i64 (es.getD i Ent.zero).value)
theorem cell_same {A B:World}{g:Nat}(h:B.heap[g]?=A.heap[g]?)(j:Nat):B.cell? ⟨g,j,none⟩=A.cell? ⟨g,j,none⟩:=World.cell?_of_block (a:=⟨g,j,none⟩) h
theorem RowIs.keep {A B:World}{g:Nat}{es:List Ent}(h:RowIs A g es)(k:KeepT A B):RowIs B g es:=by
 obtain⟨cur,fz,h1,h2⟩:=h;have h3:=k g cur 42 fz (by decide) (by decide) h1
 have e:B.heap[g]?=A.heap[g]?:=h3.trans h1.symm
 refine⟨cur,fz,h3,fun i hi => ?_⟩
 rw[cell_same e,cell_same e,cell_same e,cell_same e,cell_same e];exact h2 i hi
theorem nums_take (e:Ent)(j:Nat)(h:j<5):e.nums.take (j+1)=e.nums.take j++[e.nums.getD j 0]:=take_snoc_ints _ _ h
theorem ent_cell {w:World}{E:Nat}{e:Ent}(h:w.heap[E]?=some (.cells #[.int .i64 e.client,.int .i64 e.seq,.int .i64 e.kind,.int .i64 e.key,.int .i64 e.value] 42))(j:Nat)(hj:j<5) :
  w.cell? ⟨E,j,none⟩=some (.int .i64 (e.nums.getD j 0)):=by
 rw[coh h];match j,hj with
 | 0,_=>rfl
 | 1,_=>rfl
 | 2,_=>rfl
 | 3,_=>rfl
 | 4,_=>rfl
theorem nums1_in (n:Nat)(l Bs g cap:Nat)(es:List Ent)(hl:es.length≤24)(J Jx:List Int→World→Prop)(W:World)
  (hJ:AbidesFrom W.heap.size J)
  (hY:∀ pre x W1,J pre W1→pre.length<(entsNums es).length→YieldAt Fence.wide (n-1) Tryz.prog l #[.int .i64 x] W1 fun e W' =>
   (e=.returned (.bool true)∧J (pre++[x]) W'∧KeepT W1 W')∨(e=.returned (.bool false)∧Jx (pre++[x]) W'))
  (hBs:W.cell? ⟨Bs,0,none⟩=some (.slice (some ⟨g,0,none⟩) es.length cap)) (hrow:RowIs W g es) (h0:J [] W) :
  CallsIn Fence.wide n Tryz.prog 181 #[.func (.yield l) #[] #[],.pointer (some ⟨Bs,0,none⟩)] W fun e W'=>(∃ v,e=.returned v) ∧
   ((∃ ys,ys=entsNums es∧J ys W')∨(∃ pre,pre <+: entsNums es∧Jx pre W')):=by
 refine callsIn_of_wp Tryz.func181 rfl trivial ?_ rfl
 simp only [Tryz.ntmps181,List.size_toArray,List.length_cons,List.length_nil,Nat.reduceAdd,Nat.reduceSub,Array.replicate_succ,Array.replicate_zero,List.push_toArray,List.append_toArray,List.nil_append,List.cons_append]
 gi_wp2
 gi_loopw [9] (fun i wr=>∃ k:Nat,k≤es.length∧i=.int .i64 k∧J (entsNums (es.take k)) wr∧RowIs wr g es  )
  (fun i _=>es.length-(intOf i).toNat)
 case atStart=>exact⟨0,Nat.zero_le _,rfl,h0,hrow⟩
 case round =>
  obtain⟨k,hk,rfl,hJs,hr⟩:=hrel;by_cases hlt:k<es.length
  ·obtain⟨cur,fz,hg,hc⟩:=hr
   obtain⟨c0,c1,c2,c3,c4⟩:=hc k hlt
   have hr:RowIs wr g es:=⟨cur,fz,hg,hc⟩
   have Hg:Hid (wr.heap[g]?=some (.cells cur 42 fz)):=hg
   clear hc hg;have ht:Hid (es.take (k+1)=es.take k++[es.getD k Ent.zero]):=take_snoc_ents es k hlt
   have Hes:Hid (∃ rest,es=es.take k++[es.getD k Ent.zero]++rest):=⟨es.drop (k+1),by rw[← take_snoc_ents es k hlt,List.take_append_drop]⟩
   generalize es.getD k Ent.zero=x at *
   gi_wp2_with fail;obtain⟨A,hA,hbA,hszA, -, -⟩:=boxed wr #[.int .i64 x.client,.int .i64 x.seq,.int .i64 x.kind,.int .i64 x.key,.int .i64 x.value] 42
   have hE:A.heap[wr.heap.size]?=some (.cells #[.int .i64 x.client,.int .i64 x.seq,.int .i64 x.kind,.int .i64 x.key,.int .i64 x.value] 42):=by rw[← hA];exact hnw _ _
   rw[hA];clear hA;refine⟨trivial,by simp[Fence.wide],(callsIn_wide.2 (fields_any wr.heap.size 0 A)).mono ?_⟩
   rintro e w5 ⟨hb5,rfl⟩;have hbw5:Below wr.heap.size wr w5:=hbA.trans (hb5.mono hbA.size)
   have hJ5:=hJ _ _ _ none hJs (grown_of_below hbw5) (fun r e=>by cases e)
   have hr5:=hr.keep (KeepT.below hbw5)
   have hE5:w5.heap[wr.heap.size]?=some (.cells #[.int .i64 x.client,.int .i64 x.seq,.int .i64 x.kind,.int .i64 x.key,.int .i64 x.value] 42):=(hb5.block _ (by omega)).trans hE
   have HE5:=hideA hE5;generalize wr.heap.size=E at *
   clear hE hE5 c0 c1 c2 c3 c4 Hg hszA;gi_wp2_with fail;gi_loopw [14] (fun i wr=>∃ j:Nat,j≤5∧i=.int .i64 j∧J (entsNums (es.take k)++x.nums.take j) wr∧RowIs wr g es∧Hid (wr.heap[E]?=some (.cells #[.int .i64 x.client,.int .i64 x.seq,.int .i64 x.kind,.int .i64 x.key,.int .i64 x.value] 42))  )
    (fun i _=>5-(intOf i).toNat)
   case atStart=>exact⟨0,Nat.zero_le _,rfl,by simpa using hJ5,hr5,HE5⟩
   case round =>
    clear hJ5 hr5 HE5;obtain⟨j,hj,rfl,hJj,hrj,hEj⟩:=hrel;by_cases hlj:j<5
    ·have hix:=field_index E 0 j hlj
     have hcj:=ent_cell hEj.out j hlj
     have htj:Hid (x.nums.take (j+1)=x.nums.take j++[x.nums.getD j 0]):=nums_take x j hlj
     have hpl:(entsNums (es.take k)++x.nums.take j).length<(entsNums es).length:=by
      rw[List.length_append,entsNums_length,entsNums_length,List.length_take,List.length_take];have:x.nums.length=5:=rfl
      omega
     obtain⟨fn,tmps,assign,body,hy,hR⟩:=hY _ (x.nums.getD j 0) _ hJj hpl
     generalize x.nums.getD j 0=z at *
     gi_wp2
     refine⟨by simp[Fence.wide],hR.mono ?_⟩
     rintro e W3 (⟨rfl,hJ3,hk3⟩|⟨rfl,hJx3⟩)
     ·gi_wp2
      go_roundw
      case rel=>exact⟨j+1,by omega,by go_num,by rw[htj.out, ← List.append_assoc];exact hJ3,hrj.keep hk3,hk3 _ _ _ _ (by decide) (by decide) hEj.out⟩
      case measure=>simp[intOf];omega
     ·gi_wp2
      refine bodyPost_ret (results_none rfl _ _ _) rfl ?_
      refine⟨⟨_,rfl⟩,.inr ⟨_, ?_,hJx3⟩⟩
      obtain⟨rest,hrest⟩:=Hes.out;refine⟨x.nums.drop (j+1)++entsNums rest, ?_⟩
      rw[List.append_assoc (entsNums (es.take k)), ← htj.out,List.append_assoc, ← List.append_assoc (x.nums.take (j+1)),List.take_append_drop]
      conv=>rhs;rw[hrest]
      rw[entsNums_append,entsNums_append,entsNums_one,List.append_assoc]
    ·obtain rfl:j=5:=by omega
     gi_wp2
     go_roundw
     case rel =>
      refine⟨k+1,by omega,by go_num, ?_,hrj⟩
      rw[ht.out,entsNums_append,entsNums_one];exact hJj
     case measure=>simp[intOf];omega
  ·obtain rfl:k=es.length:=by omega
   rw[List.take_length] at hJs
   gi_wp2
   go_end0
   exact⟨⟨_,rfl⟩,.inl ⟨_,rfl,hJs⟩⟩
end Go.Proofs.YtgieeeeeiggoeaaGreat
namespace Go.Proofs.YtgieeeeeiggoeaaGreat
open Go.RowKit
theorem slice_to (L:List UInt8)(i:Int)(k:Nat)(hi:i=k)(hk:k≤L.length):∀ w,(Instr.slice 9 (.string (bs L)) none (some (.int .i64 i)) none).run Tryz.prog w=.ok (.string (bs (L.take k))) w:=by
 intro w;subst hi;have hs:=bs_size L
 have hx:=bs_take L k
 have hk':(k:Int)≤(L.length:Int):=by omega
 have h0:(0:Int)≤k:=by omega
 go_simp
theorem slice_from (L:List UInt8)(i:Int)(k:Nat)(hi:i=k)(hk:k≤L.length):∀ w,(Instr.slice 9 (.string (bs L)) (some (.int .i64 i)) none none).run Tryz.prog w=.ok (.string (bs (L.drop k))) w:=by
 intro w;subst hi;have hs:=bs_size L
 have hx:=bs_drop L k
 have hk':(k:Int)≤(L.length:Int):=by omega
 have h0:(0:Int)≤k:=by omega
 go_simp
theorem wireDecode_a (L:List UInt8)(w:World)(h:L.length<21) :
  Calls Tryz.prog 117 #[.string (bs L)] w fun e w'=>Below w.heap.size w w'∧e=.returned (.tuple #[.agg #[.int .i64 0,.int .i64 0,.int .i64 0,.int .i64 0,.int .i64 0,.int .i64 0,.int .i64 0,.int .i64 0,.slice none 0 0,.slice none 0 0],.int .i64 1]):=by
 have hs:=bs_size L
 go_enter Tryz.func117,Tryz.ntmps117
 go_wp2_with fail;exact bodyPost_ret (v:=.tuple #[.agg #[.int .i64 0,.int .i64 0,.int .i64 0,.int .i64 0,.int .i64 0,.int .i64 0,.int .i64 0,.int .i64 0,.slice none 0 0,.slice none 0 0],.int .i64 1]) (by simp[results,Tryz.results117,go_sem]) rfl ⟨(Below.refl _ _).alloc (Nat.le_refl _) _,rfl⟩
theorem obs {w:World}{base base' size n:Nat}{e:TypeId}{v:Value}{xs:List Value}(h:w.ownsRow base e size v n xs)(hb:base'≤base):w.ownsRow base' e size v n xs:=by
 refine⟨h.1, ?_⟩
 rcases h.2 with h0|⟨g,cap,cur,hv,hg,rest⟩
 ·exact .inl h0
 ·exact .inr ⟨g,cap,cur,hv,Nat.le_trans hb hg,rest⟩
theorem osh {w:World}{base size n:Nat}{e:TypeId}{v:Value}{xs:List Value}(h:w.ownsRow base e size v n xs):∃ a cap,v=.slice a n cap:=by
 rcases h.2 with ⟨h1,h0⟩|⟨g,cap,_,hv,_⟩
 ·exact⟨none,0,by rw[h1,h0]⟩
 ·exact⟨_,cap,hv⟩
def WDecPost (T:List UInt8)(w:World)(e:Ending)(w':World):Prop :=
 (decOk T=true∧∃ mem log,w'.ownsRow (w.heap.size+1) 3 1 mem (pMems T).length (ints (pMems T))∧w'.ownsRow (w.heap.size+1) 42 5 log (pEnts T).length (ints (entsNums (pEnts T))) ∧
  e=.returned (.tuple #[.agg #[.int .i64 (pKind T),.int .i64 (numAt T 1),.int .i64 (numAt T 3),.int .i64 (numAt T 5),.int .i64 (numAt T 7),.int .i64 (numAt T 9),.int .i64 (numAt T 11),.int .i64 (numAt T 13),mem,log],.int .i64 0])) ∨
 (decOk T=false∧e=.returned (.tuple #[.agg #[.int .i64 0,.int .i64 0,.int .i64 0,.int .i64 0,.int .i64 0,.int .i64 0,.int .i64 0,.int .i64 0,.slice none 0 0,.slice none 0 0],.int .i64 1]))
theorem wireDecode_b (L T:List UInt8)(w:World)(h:21≤L.length)(hm:L.length≤140737488355328)(hT:T=L.take (L.length-4))(hno:L.drop (L.length-4)≠sumOf T) :
  Calls Tryz.prog 117 #[.string (bs L)] w fun e w'=>Below w.heap.size w w'∧e=.returned (.tuple #[.agg #[.int .i64 0,.int .i64 0,.int .i64 0,.int .i64 0,.int .i64 0,.int .i64 0,.int .i64 0,.int .i64 0,.slice none 0 0,.slice none 0 0],.int .i64 2]):=by
 have hs:=bs_size L
 have hx:=slice_to L ((L.length:Int)-4) (L.length-4) (by omega) (by omega)
 rw[← hT] at hx
 have hy:=slice_from L ((L.length:Int)-4) (L.length-4) (by omega) (by omega)
 have hw4:IntKind.i64.wrap ((L.length:Int)-4)=(L.length:Int)-4:=by
  rw[show ((L.length:Int)-4)=((L.length-4:Nat):Int) by omega];exact wrap_i64_nat _ (by omega)
 have hTl:T.length≤140737488355328:=by rw[hT,List.length_take];omega
 clear hT;obtain⟨W,hW,hb0,hsz,q,fz⟩:=boxed w #[.int .i64 0,.int .i64 0,.int .i64 0,.int .i64 0,.int .i64 0,.int .i64 0,.int .i64 0,.int .i64 0,.slice none 0 0,.slice none 0 0] 134
 go_enter Tryz.func117,Tryz.ntmps117
 go_wp2_with fail;clear hW;go_region_held3 (fun _=>True) (trivial) (fail)
 go_wp2_with fail;refine (sumBytes_any (bs T) _ (by rw[bs_size];unfold maxLen;omega)).mono ?_
 rintro e w5 ⟨rfl,hb5⟩;rw[bs_list];have hb5':Below W.heap.size W w5:=(Below.refl W.heap.size W).drew.trans (by exact hb5)
 obtain⟨q',fz'⟩:=boxed_later hb5' hsz q fz
 have hbw:=hb0.trans (hb5'.mono hb0.size)
 have hne:((bs (L.drop (L.length-4))).toList == (bs (sumOf T)).toList)=false:=by rw[eq_bs];exact decide_eq_false hno
 clear q fz hsz hx hy;go_wp2_with fail;refine bodyPost_ret (v:=.tuple #[.agg #[.int .i64 0,.int .i64 0,.int .i64 0,.int .i64 0,.int .i64 0,.int .i64 0,.int .i64 0,.int .i64 0,.slice none 0 0,.slice none 0 0],.int .i64 2]) (by simp[results,Tryz.results117,go_sem,q']) rfl ⟨?_,rfl⟩
 iterate 10 refine Below.setCell ?_ (by exact Nat.le_refl _) _
 exact hbw
theorem wireDecode_c (L T:List UInt8)(w:World)(h:21≤L.length)(hm:L.length≤140737488355328)(hT:T=L.take (L.length-4))(hyes:L.drop (L.length-4)=sumOf T) :
  Calls Tryz.prog 117 #[.string (bs L)] w fun e w'=>Below w.heap.size w w'∧WDecPost T w e w':=by
 have hs:=bs_size L
 have hx:=slice_to L ((L.length:Int)-4) (L.length-4) (by omega) (by omega)
 rw[← hT] at hx
 have hy:=slice_from L ((L.length:Int)-4) (L.length-4) (by omega) (by omega)
 have hw4:IntKind.i64.wrap ((L.length:Int)-4)=(L.length:Int)-4:=by
  rw[show ((L.length:Int)-4)=((L.length-4:Nat):Int) by omega];exact wrap_i64_nat _ (by omega)
 have hTl:T.length≤140737488355328:=by rw[hT,List.length_take];omega
 have hT17:17≤T.length:=by rw[hT,List.length_take];omega
 clear hT;obtain⟨W,hW,hb0,hsz,q,fz⟩:=boxed w #[.int .i64 0,.int .i64 0,.int .i64 0,.int .i64 0,.int .i64 0,.int .i64 0,.int .i64 0,.int .i64 0,.slice none 0 0,.slice none 0 0] 134
 go_enter Tryz.func117,Tryz.ntmps117
 go_wp2_with fail;clear hW;go_region_held3 (fun _=>True) (trivial) (fail)
 go_wp2_with fail;refine (sumBytes_any (bs T) _ (by rw[bs_size];unfold maxLen;omega)).mono ?_
 rintro e w5 ⟨rfl,hb5⟩;rw[bs_list];have hb5':Below W.heap.size W w5:=(Below.refl W.heap.size W).drew.trans (by exact hb5)
 obtain⟨q',fz'⟩:=boxed_later hb5' hsz q fz
 have hbw:=hb0.trans (hb5'.mono hb0.size)
 have hne:((bs (L.drop (L.length-4))).toList == (bs (sumOf T)).toList)=true:=by rw[eq_bs];exact decide_eq_true hyes
 have i0:=index_bs T 0 0 rfl (by omega)
 have hb256:=byteAt_lt T 0
 have hwT:w.heap.size<w5.heap.size:=by have:=hb5'.size;omega
 clear q fz hsz hx hy hw4;go_wp2_with fail;refine (measure_any T _ hT17 hTl).mono ?_
 rintro e w6 ⟨rfl,rfl⟩;by_cases hok:decOk T=true
 ·obtain⟨hk,hm5,hm24,hlen,hmeas⟩:=decOk_parts hok
  have hm3:(measOf T).2.2=true:=by rw[hmeas]
  have hHk:Hid (measOf T=(byteAt T 15,byteAt T (16+2*byteAt T 15),true)):=hmeas
  rw[hmeas];have HKK:Hid (kindOk (byteAt T 0:Nat)=true):=hk
  have hok':Hid (decOk T=true):=hok
  clear hmeas hm3 hk hok;have HE:Hid (pEnts T=entsFrom T (17+2*byteAt T 15) (byteAt T (16+2*byteAt T 15))):=rfl
  have HM:Hid (pMems T=numsFrom T 16 (byteAt T 15)):=rfl
  go_wp2_with fail;refine (isKind_any _ _).mono ?_
  rintro e w7 ⟨rfl,rfl⟩;rw[HKK.out];go_wp2_with fail;refine (readBody_any T _ _ _ hm5 hm24 hlen).mono ?_
  rintro e w8 ⟨hb8,mem,log,rfl,om,ol⟩;have r1:∀ j,w8.cell? ⟨w.heap.size,j,none⟩=#[.int .i64 0,.int .i64 0,.int .i64 0,.int .i64 0,.int .i64 0,.int .i64 0,.int .i64 0,.int .i64 0,.slice none 0 0,.slice none 0 0][j]?:=fun j=>(hb8.cell (p:=⟨w.heap.size,j,none⟩) hwT).trans (q' j)
  have r2:∀ j,w8.frozen? ⟨w.heap.size,j,none⟩=false:=fun j=>(hb8.frozen (p:=⟨w.heap.size,j,none⟩) hwT).trans (fz' j)
  have hbw8:=hbw.trans (hb8.mono hbw.size)
  obtain⟨am,cm,hvm⟩:=osh om
  obtain⟨al,cl,hvl⟩:=osh ol
  rw[hvm,hvl];have Hvm:Hid (mem=.slice am (byteAt T 15) cm):=hvm
  have Hvl:Hid (log=.slice al (byteAt T (16+2*byteAt T 15)) cl):=hvl
  clear hvm hvl i0 q' fz';go_wp2_with fail;refine bodyPost_ret (v:=.tuple #[.agg #[.int .i64 (pKind T),.int .i64 (numAt T 1),.int .i64 (numAt T 3),.int .i64 (numAt T 5),.int .i64 (numAt T 7),.int .i64 (numAt T 9),.int .i64 (numAt T 11),.int .i64 (numAt T 13),mem,log],.int .i64 0]) (by simp[results,Tryz.results117,go_sem,r1,Hvm.out,Hvl.out]) rfl ⟨?_,.inl ⟨hok'.out,mem,log, ?_, ?_,rfl⟩⟩
  ·iterate 10 refine Below.setCell ?_ (by exact Nat.le_refl _) _
   exact hbw8
  ·iterate 10 refine ownsRow_setCell_below ?_ (by exact Nat.lt_succ_self _) _
   rw[HM.out,numsFrom_length];exact obs om (by omega)
  ·iterate 10 refine ownsRow_setCell_below ?_ (by exact Nat.lt_succ_self _) _
   rw[HE.out,entsFrom_length];exact obs ol (by omega)
 ·have hfin:∀ w',WDecPost T w (.returned (.tuple #[.agg #[.int .i64 0,.int .i64 0,.int .i64 0,.int .i64 0,.int .i64 0,.int .i64 0,.int .i64 0,.int .i64 0,.slice none 0 0,.slice none 0 0],.int .i64 1])) w':=fun w'=>.inr ⟨by simpa using hok,rfl⟩
  cases hm:(measOf T).2.2 with
  | false =>
   go_wp2_with fail;refine bodyPost_ret (v:=.tuple #[.agg #[.int .i64 0,.int .i64 0,.int .i64 0,.int .i64 0,.int .i64 0,.int .i64 0,.int .i64 0,.int .i64 0,.slice none 0 0,.slice none 0 0],.int .i64 1]) (by simp[results,Tryz.results117,go_sem,q']) rfl ⟨?_,hfin _⟩
   iterate 10 refine Below.setCell ?_ (by exact Nat.le_refl _) _
   exact hbw
  | true =>
   have hk:Hid (kindOk (byteAt T 0:Nat)=false):=decOk_kind hok hm
   go_wp2_with fail;refine (isKind_any _ _).mono ?_
   rintro e w7 ⟨rfl,rfl⟩;rw[hk.out];go_wp2_with fail;refine bodyPost_ret (v:=.tuple #[.agg #[.int .i64 0,.int .i64 0,.int .i64 0,.int .i64 0,.int .i64 0,.int .i64 0,.int .i64 0,.int .i64 0,.slice none 0 0,.slice none 0 0],.int .i64 1]) (by simp[results,Tryz.results117,go_sem,q']) rfl ⟨?_,hfin _⟩
   iterate 10 refine Below.setCell ?_ (by exact Nat.le_refl _) _
   exact hbw
end Go.Proofs.YtgieeeeeiggoeaaGreat
namespace Go.Proofs.YtgieeeeeiggoeaaGreat
open Go.RowKit Go.Shelf
attribute [local go_sem] Oper.semAt_some
theorem nums0_in (n l Bs:Nat)(a:Option Addr)(c:Nat)(J:List Int→World→Prop)(W:World)(hBs:W.cell? ⟨Bs,0,none⟩=some (.slice a 0 c))(h0:J [] W) :
  CallsIn Fence.wide n Tryz.prog 181 #[.func (.yield l) #[] #[],.pointer (some ⟨Bs,0,none⟩)] W fun e W'=>(∃ v,e=.returned v)∧J [] W':=by
 refine callsIn_of_wp Tryz.func181 rfl trivial ?_ rfl
 simp only [Tryz.ntmps181,List.size_toArray,List.length_cons,List.length_nil,Nat.reduceAdd,Nat.reduceSub,Array.replicate_succ,Array.replicate_zero,List.push_toArray,List.append_toArray,List.nil_append,List.cons_append]
 gi_wp2
 gi_loopw [9] (fun i wr=>i=.int .i64 0∧J [] wr) (fun _ _=>0)
 case atStart=>exact⟨rfl,h0⟩
 case round =>
  obtain⟨rfl,hJs⟩:=hrel;gi_wp2
  go_end0
  exact⟨⟨_,rfl⟩,hJs⟩
theorem RowIs.of_owns {w:World}{base g cap:Nat}{es:List Ent}(h:w.ownsRow base 42 5 (.slice (some ⟨g,0,none⟩) es.length cap) es.length (ints (entsNums es))):RowIs w g es:=by
 have hL:=LogAt.of_owns h
 rcases h.2 with ⟨h1,_⟩|⟨g',cap',cur,hv,_,hg,_⟩
 ·cases h1
 ·cases hv
  obtain⟨a,c,hv,hc⟩:=hL;cases hv
  refine⟨cur,(0,0),hg,fun i hi => ?_⟩
  obtain⟨b,off,hb,c0,c1,c2,c3,c4⟩:=hc i hi
  cases hb
  rw[Nat.zero_add] at c0 c1 c2 c3 c4
  exact⟨c0,c1,c2,c3,c4⟩
theorem nums_stops (n Bs base:Nat)(log:Value)(es:List Ent)(w:World)(hl:es.length≤24)(hBs:Bs<w.heap.size)(hc:w.cell? ⟨Bs,0,none⟩=some log)
  (hown:w.ownsRow base 42 5 log es.length (ints (entsNums es))) :
  SeqStopsK Fence.wide n Tryz.prog 181 #[.pointer (some ⟨Bs,0,none⟩)] (fun x:Int=>#[Value.int .i64 x]) KeepT (fun ys=>ys=entsNums es) (fun pre=>pre <+: entsNums es) (entsNums es).length w :=
 fun l J Jx W hW hJ _ hY h0=>by
  have hc':=(hW.cell (p:=⟨Bs,0,none⟩) hBs).trans hc
  have hown':=okp hown fun k _ hk=>hW.block k hk
  rcases hown'.2 with ⟨rfl,h1⟩|⟨g,cap,cur,rfl,_⟩
  ·have:es=[]:=List.eq_nil_of_length_eq_zero h1
   subst this;exact (nums0_in n l Bs none 0 J W hc' h0).mono fun e W' ⟨he,hj⟩=>⟨he,.inl ⟨_,rfl,hj⟩⟩
  ·exact nums1_in n l Bs g cap es hl J Jx W hJ hY hc' (RowIs.of_owns hown') h0
theorem logNumbers_in (n:Nat)(a:Option Addr)(len cap:Nat)(w:World) :
  CallsIn Fence.wide n Tryz.prog 155 #[.slice a len cap] w fun e w'=>e=.returned (.func (.func 181) #[] #[.pointer (some ⟨w.heap.size,0,none⟩)])∧w'=w.alloc (.cells #[.slice a len cap] 44):=by
 refine callsIn_of_wp Tryz.func155 rfl trivial ?_ rfl
 simp only [Tryz.ntmps155,List.size_toArray,List.length_cons,List.length_nil,Nat.reduceAdd,Nat.reduceSub,Array.replicate_succ,Array.replicate_zero,List.push_toArray,List.append_toArray,List.nil_append,List.cons_append]
 gi_wp2
 go_ret;exact⟨rfl,rfl⟩
theorem keepT_put (W:World)(l:Nat)(o o':Obj)(hl:W.heap[l]?=some o)(hc:o.isCells=false):KeepT W (W.putObj l o'):=by
 intro k cs T fz _ _ h;have hne:l≠k:=by
  intro e;subst e;rw[h] at hl
  injection hl with hl
  subst hl;cases hc
 rw[World.putObj_heap_other (Ne.symm hne)]
 exact h
theorem head_cell {w:World}{B:Nat}{k f t ep ba vo po va:Int}{mem log:Value}(c:∀ j,w.cell? ⟨B,j,none⟩=#[.int .i64 k,.int .i64 f,.int .i64 t,.int .i64 ep,.int .i64 ba,.int .i64 vo,.int .i64 po,.int .i64 va,mem,log][j]?)(n:Nat)(hn:n<7) :
  w.cell? ⟨B,n+1,none⟩=some (.int .i64 (List.getD [f,t,ep,ba,vo,po,va] n 0)):=by
 rw[c];match n,hn with
 | 0,_=>rfl
 | 1,_=>rfl
 | 2,_=>rfl
 | 3,_=>rfl
 | 4,_=>rfl
 | 5,_=>rfl
 | 6,_=>rfl
theorem all_not {l:List Int}{k:Nat}(hk:k<l.length)(h:numOk (l.getD k 0)=false):¬ l.all numOk=true:=by
 intro ha;rw[List.all_eq_true] at ha
 have:=ha (l.getD k 0) (by simp[List.getD,List.getElem?_eq_getElem hk])
 rw[h] at this
 cases this
theorem hasBytes_in (n:Nat)(hn:Hid (3≤n))(k f t ep ba vo po va:Int)(mem log:Value)(ms:List Int)(es:List Ent)(base:Nat)(w:World)(hmem:IntsAt w mem ms)(hlog:w.ownsRow base 42 5 log es.length (ints (entsNums es)))
  (h1:1≤k) (h2:k≤16) (h3:ms.length≤5) (h4:es.length≤24) :
  CallsIn Fence.wide n Tryz.prog 122 #[.agg #[.int .i64 k,.int .i64 f,.int .i64 t,.int .i64 ep,.int .i64 ba,.int .i64 vo,.int .i64 po,.int .i64 va,mem,log]] w fun e w'=>e=.returned (.bool (msgOk k [f,t,ep,ba,vo,po,va] ms es))∧Below w.heap.size w w':=by
 have hmem1:=hmem
 obtain⟨am,cm,rfl, -⟩:=hmem1;obtain⟨al,cl,hvl⟩:=osh hlog
 subst hvl;have hk:Hid (kindOk k=true):=hideA (by unfold kindOk;simp[h1,h2])
 refine callsIn_of_wp_marks Tryz.func122 rfl trivial ?_ rfl
 simp only [Tryz.ntmps122,List.size_toArray,List.length_cons,List.length_nil,Nat.reduceAdd,Nat.reduceSub,Array.replicate_succ,Array.replicate_zero,List.push_toArray,List.append_toArray,List.nil_append,List.cons_append]
 gi_wp2_with fail;obtain⟨W1,hW1,hbW1,hsW1,q, -⟩:=boxed w #[.int .i64 k,.int .i64 f,.int .i64 t,.int .i64 ep,.int .i64 ba,.int .i64 vo,.int .i64 po,.int .i64 va,.slice am ms.length cm,.slice al es.length cl] 134
 rw[hW1];obtain⟨W,hW,hbW,hsW,q2,f2⟩:=boxed W1 #[.bool false] 4
 rw[hW];clear hW hW1;refine⟨trivial,by simp[Fence.wide],(callsIn_wide.2 (isKind_any _ _)).mono ?_⟩
 rintro e W' ⟨rfl,rfl⟩;rw[hk.out];have cB:∀ j,W'.cell? ⟨w.heap.size,j,none⟩=#[.int .i64 k,.int .i64 f,.int .i64 t,.int .i64 ep,.int .i64 ba,.int .i64 vo,.int .i64 po,.int .i64 va,.slice am ms.length cm,.slice al es.length cl][j]?:=fun j=>(hbW.cell (p:=⟨w.heap.size,j,none⟩) (by show w.heap.size<_;omega)).trans (q j)
 have cR:W'.cell? ⟨w.heap.size+1,0,none⟩=some (.bool false):=by have:=q2 0;rw[hsW1] at this;exact this
 have fR:W'.frozen? ⟨w.heap.size+1,0,none⟩=false:=by have:=f2 0;rw[hsW1] at this;exact this
 have hb0:Below w.heap.size w W':=hbW1.trans (hbW.mono hbW1.size)
 have hsz:W'.heap.size=w.heap.size+1+1:=by omega
 clear q q2 f2 hbW hbW1 hsW hsW1;have CB:=hideA cB;have c8:=CB.out 8
 have c9:=CB.out 9
 have hszl:w.heap.size+1<W'.heap.size:=by omega
 clear cB hsz;gi_wp2_with fail;refine⟨trivial,by simp[Fence.wide],(callsIn_wide.2 (header_any w.heap.size _)).mono ?_⟩
 rintro e V ⟨hbV,rfl⟩;have hb1:=hb0.trans (hbV.mono hb0.size)
 have cV:∀ j,V.cell? ⟨w.heap.size,j,none⟩=#[.int .i64 k,.int .i64 f,.int .i64 t,.int .i64 ep,.int .i64 ba,.int .i64 vo,.int .i64 po,.int .i64 va,.slice am ms.length cm,.slice al es.length cl][j]?:=fun j=>(hbV.cell (p:=⟨w.heap.size,j,none⟩) (by show w.heap.size<_;omega)).trans (CB.out j)
 have HcV:=hideA cV;have cRV:V.cell? ⟨w.heap.size+1,0,none⟩=some (.bool false):=(hbV.cell (p:=⟨w.heap.size+1,0,none⟩) hszl).trans cR
 have fRV:V.frozen? ⟨w.heap.size+1,0,none⟩=false:=(hbV.frozen (p:=⟨w.heap.size+1,0,none⟩) hszl).trans fR
 have hszV:w.heap.size+1<V.heap.size:=by have:=hbV.size;omega
 have hmemV:=hmem.below hb1
 have hlogV:=okp hlog fun k _ hk=>hb1.block k hk
 clear cV cR fR c8 c9 CB hbV hb0 hszl;gi_wp2_with fail;gi_loopw [25] (fun i wr=>∃ j:Nat,j≤7∧i=.int .i64 j∧wr=V∧(List.take j [f,t,ep,ba,vo,po,va]).all numOk=true) (fun i _=>7-(intOf i).toNat)
 case atStart=>exact⟨0,Nat.zero_le _,rfl,rfl,rfl⟩
 case round =>
  obtain⟨j,hj,rfl,rfl,hall⟩:=hrel;by_cases hlt:j<7
  ·have hix:=head_index w.heap.size j hlt
   have hcj:=head_cell HcV.out j hlt
   have ht:Hid (List.take (j+1) [f,t,ep,ba,vo,po,va]=List.take j [f,t,ep,ba,vo,po,va]++[List.getD [f,t,ep,ba,vo,po,va] j 0]):=take_snoc_ints _ _ hlt
   have hno:Hid (numOk (List.getD [f,t,ep,ba,vo,po,va] j 0)=false→msgOk k [f,t,ep,ba,vo,po,va] ms es=false):=fun h=>msgOk_false fun h'=>all_not (l:=[f,t,ep,ba,vo,po,va]) hlt h h'.2.1
   generalize List.getD [f,t,ep,ba,vo,po,va] j 0=x at *
   gi_wp2_with fail;refine⟨trivial,by simp[Fence.wide],(callsIn_wide.2 (fits_any x _)).mono ?_⟩
   rintro e W2 ⟨rfl,rfl⟩;cases hx:numOk x with
   | true =>
    clear hix;gi_wp2_with fail;exact⟨⟨j+1,by omega,by go_num,by trivial,by rw[ht.out,List.all_append,hall];simp[hx]⟩,by simp[intOf];omega⟩
   | false =>
    have hm:=hno.out hx
    clear hix;gi_wp2_with fail;refine⟨.bool false,by simp[results,Tryz.f122,go_sem,cRV],by rw[hm],hb1.setCell (p:=⟨w.heap.size+1,0,none⟩) (by simp) _⟩
  ·have hj7:Hid (j=7):=hideA (by omega)
   have hhd:Hid ((List.all [f,t,ep,ba,vo,po,va] numOk)=true):=hideA (by rw[hj7.out] at hall;exact hall)
   have hj7':(7:Int)≤(j:Int):=by have:=hj7.out;omega
   have c8:wr.cell? ⟨w.heap.size,8,none⟩=some (.slice am ms.length cm):=HcV.out 8
   clear hall hlt hj;gi_wp2_with fail;gi_loopw [37] (fun i wr'=>∃ j:Nat,j≤ms.length∧i=.int .i64 j∧wr'=wr∧(ms.take j).all numOk=true) (fun i _=>ms.length-(intOf i).toNat)
   case atStart=>exact⟨0,Nat.zero_le _,rfl,rfl,rfl⟩
   case round =>
    obtain⟨j,hj,rfl,rfl,hall⟩:=hrel;by_cases hlt:j<ms.length
    ·obtain⟨a',c',hv',hcells⟩:=hmemV
     obtain⟨b1,o1,ha1,hcj⟩:=hcells j hlt
     injection hv' with e1 _ e3
     subst e1 e3 ha1
     have ht:Hid (ms.take (j+1)=ms.take j++[ms.getD j 0]):=take_snoc_ints _ _ hlt
     have hno:Hid (numOk (ms.getD j 0)=false→msgOk k [f,t,ep,ba,vo,po,va] ms es=false):=fun h=>msgOk_false fun h'=>all_not (l:=ms) hlt h h'.2.2.1
     clear hcells;generalize ms.getD j 0=x at *
     gi_wp2_with fail;refine⟨trivial,by simp[Fence.wide],(callsIn_wide.2 (fits_any x _)).mono ?_⟩
     rintro e W2 ⟨rfl,rfl⟩;cases hx:numOk x with
     | true =>
      gi_wp2_with fail;exact⟨⟨j+1,by omega,by go_num,by trivial,by rw[ht.out,List.all_append,hall];simp[hx]⟩,by simp[intOf];omega⟩
     | false =>
      have hm:=hno.out hx
      gi_wp2_with fail;refine⟨.bool false,by simp[results,Tryz.f122,go_sem,cRV],by rw[hm],hb1.setCell (p:=⟨w.heap.size+1,0,none⟩) (by simp) _⟩
    ·obtain rfl:j=ms.length:=by omega
     rw[List.take_length] at hall
     have hms:Hid (ms.all numOk=true):=hall
     have c9:wr.cell? ⟨w.heap.size,9,none⟩=some (.slice al es.length cl):=HcV.out 9
     clear hall hlt hj;gi_wp2_with fail;refine⟨trivial,by simp[Fence.wide],(logNumbers_in _ al es.length cl _).mono ?_⟩
     rintro e W2 ⟨rfl,rfl⟩;gi_wp2_with fail;obtain⟨X,hX,hbX,hsX,qX, -⟩:=boxed wr #[.slice al es.length cl] 44
     rw[hX];clear hX;have hb2:=hb1.trans (hbX.mono hb1.size)
     have hlogX:=okp hlogV fun k _ hk=>hbX.block k hk
     have cRX:X.cell? ⟨w.heap.size+1,0,none⟩=some (.bool false):=(hbX.cell (p:=⟨w.heap.size+1,0,none⟩) hszV).trans cRV
     have fRX:X.frozen? ⟨w.heap.size+1,0,none⟩=false:=(hbX.frozen (p:=⟨w.heap.size+1,0,none⟩) hszV).trans fRV
     have hsXl:w.heap.size+1<X.heap.size:=by omega
     have hsXl2:wr.heap.size<X.heap.size:=by omega
     have qX0:=qX 0
     clear hsX qX c9;refine wpIn_rangeFunc_ownF rfl (by have:=hn.out;omega) (gf:=181) (lb:=#[.pointer (some ⟨wr.heap.size,0,none⟩)]) rfl trivial (enters_of Tryz.func181 (by kernel_rfl) rfl)
      (nums_stops (n-1) wr.heap.size base _ es X h4 hsXl2 qX0 hlogX) KeepT.trans (fun W l o o' _ hl hc _=>keepT_put W l o o' hl hc) (Below.refl _ _) (fun _=>rfl)
      (fun pre W=>(pre.all numOk=true∧W.cell? ⟨w.heap.size+1,0,none⟩=some (.bool false)∧W.frozen? ⟨w.heap.size+1,0,none⟩=false)∧Below w.heap.size w W)
      (fun c pre W=>(c=.ret∧pre.all numOk=false∧W.cell? ⟨w.heap.size+1,0,none⟩=some (.bool false))∧Below w.heap.size w W)
      (OwnFrom.and (Own.from (fun s A B row hs hg hr=>⟨hs.1,cell_kept hs.2.1 hg hr,(frozen_kept hs.2.1 hg hr).trans hs.2.2⟩) _) (ownFrom_below (Nat.le_refl _) (by omega)))
      (fun c=>OwnFrom.and (Own.from (fun s A B row hs hg hr=>⟨hs.1,hs.2.1,cell_kept hs.2.2 hg hr⟩) _) (ownFrom_below (Nat.le_refl _) (by omega)))
      ⟨⟨rfl,cRX,fRX⟩,hb2⟩
      (fun x=>{ tmps:=#[Value.agg #[Value.int IntKind.i64 k,Value.int IntKind.i64 f,Value.int IntKind.i64 t,Value.int IntKind.i64 ep,Value.int IntKind.i64 ba,Value.int IntKind.i64 vo,Value.int IntKind.i64 po,Value.int IntKind.i64 va,Value.slice am ms.length cm,Value.slice al es.length cl],Value.pointer (some { block:=w.heap.size,off:=0 }),Value.pointer (some { block:=w.heap.size+1,off:=0 }),undef,u4,undef,u6,.int .i64 x,Value.pointer (some { block:=w.heap.size,off:=0 }),Value.int IntKind.i64 k,Value.bool true,Value.bool false,Value.bool false,Value.pointer (some { block:=w.heap.size,off:=8 }),Value.slice am ms.length cm,Value.int IntKind.i64 (ms.length:Int),Value.bool (decide (5<(ms.length:Int))),Value.bool (decide (5<(ms.length:Int))),Value.bool (decide (5<(ms.length:Int))),Value.pointer (some { block:=w.heap.size,off:=9 }),Value.slice al es.length cl,Value.int IntKind.i64 (es.length:Int),Value.bool (decide (24<(es.length:Int))),Value.bool (decide (5<(ms.length:Int)) || decide (24<(es.length:Int))),Value.agg #[Value.pointer (some { block:=w.heap.size,off:=1 }),Value.pointer (some { block:=w.heap.size,off:=2 }),Value.pointer (some { block:=w.heap.size,off:=3 }),Value.pointer (some { block:=w.heap.size,off:=4 }),Value.pointer (some { block:=w.heap.size,off:=5 }),Value.pointer (some { block:=w.heap.size,off:=6 }),Value.pointer (some { block:=w.heap.size,off:=7 })],Value.int IntKind.i64 (j:Int),Value.bool (decide ((j:Int)<7)),u27,u28,u29,u30,u31,u32,u33,Value.pointer (some { block:=w.heap.size,off:=8 }),Value.slice am ms.length cm,Value.int IntKind.i64 (ms.length:Int),Value.int IntKind.i64 (ms.length:Int),Value.bool false,u39,u40,u41,u42,u43,u44,Value.pointer (some { block:=w.heap.size,off:=9 }),Value.slice al es.length cl,Value.func (Fn.func 181) #[] #[Value.pointer (some { block:=wr.heap.size,off:=0 })],.int .i64 x,undef,undef,undef],defers:=[] }) ?assign ?body ?done ?stop
     case assign =>
      intro l x W K hK;gi_wp2
      exact hK
     case body =>
      rintro l pre x W ⟨⟨hp,hcr,hfr⟩,hB⟩ _;gi_wp2_with fail;refine⟨trivial,by simp[Fence.wide],(CallsIn.inRound l (callsIn_wide.2 (fits_any x _))).mono ?_⟩
      rintro e W2 ⟨rfl,rfl⟩;cases hx:numOk x with
      | true =>
       gi_wp2
       exact⟨KeepsOthers.refl _,KeepT.refl _,⟨by rw[List.all_append,hp];simp[hx],hcr,hfr⟩,hB⟩
      | false =>
       gi_wp2
       exact⟨KeepsOthers.setCell _ _ _,⟨rfl,by rw[List.all_append];simp[hx],World.cell?_setCell_same' _ _ _ (by rw[hcr];rfl)⟩,hB.setCell (p:=⟨w.heap.size+1,0,none⟩) (by simp) _⟩
     case done =>
      rintro D ys W hD rfl ⟨⟨hp,hcr,hfr⟩,hB⟩ hK;have hm:Hid (msgOk k [f,t,ep,ba,vo,po,va] ms es=true):=(msgOk_iff _ _ _ _).2 ⟨⟨h1,h2,h3,h4⟩,hhd.out,hms.out,hp⟩
      gi_wp2
      have hK':=(KeepsOthers.setCell W ⟨w.heap.size+1,0,none⟩ (.bool true)).same D _ hK rfl
      refine⟨by simp,.inl ⟨_,_,rfl,run_takeDeferred hK', ?_⟩⟩
      have hc5:=cell_kept (World.cell?_setCell_same' W ⟨w.heap.size+1,0,none⟩ (.bool true) (by rw[hcr];rfl)) (grownBy_putObj' _ D (.deferred none)) (fun r e=>by cases e;exact⟨_,hK',rfl⟩)
      refine⟨.bool true, ?_,by rw[hm.out],(hB.setCell (p:=⟨w.heap.size+1,0,none⟩) (by simp) _).trans (belowK_b (w:=w) (Nat.le_refl _) _ D _ _ (by omega) hK' rfl rfl)⟩
      simp[results,Tryz.f122,go_sem,hc5]
     case stop =>
      rintro D c pre W hD hpre ⟨⟨rfl,hin,hcr⟩,hB⟩ hK;have hm:Hid (msgOk k [f,t,ep,ba,vo,po,va] ms es=false):=msgOk_false fun h'=>by
       have h5:=h'.2.2.2
       obtain⟨rest,hr⟩:=hpre;rw[← hr,List.all_append,hin] at h5
       cases h5
      gi_wp2
      refine⟨by simp,.inl ⟨_,_,rfl,run_takeDeferred hK, ?_⟩⟩
      have hc5:=cell_kept hcr (grownBy_putObj' _ D (.deferred none)) (fun r e=>by cases e;exact⟨_,hK,rfl⟩)
      refine⟨.bool false, ?_,by rw[hm.out],hB.trans (belowK_b (w:=w) (Nat.le_refl _) W D _ _ (by omega) hK rfl rfl)⟩
      simp[results,Tryz.f122,go_sem,hc5]
end Go.Proofs.YtgieeeeeiggoeaaGreat
