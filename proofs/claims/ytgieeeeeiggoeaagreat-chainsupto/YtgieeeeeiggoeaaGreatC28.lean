import Derived.Test.YtgieeeeeiggoeaaGreatC02
import Derived.Test.YtgieeeeeiggoeaaGreatC09
import Derived.Test.YtgieeeeeiggoeaaGreatC13
set_option maxRecDepth 100000
set_option maxHeartbeats 4000000
namespace Go.Proofs.YtgieeeeeiggoeaaGreat
open Go.RowKit
def Ans.nums (a:Ans):List Int:=[a.client,a.seq,a.value]
def ansNums (l:List Ans):List Int:=l.flatMap Ans.nums
theorem ansNums_length (l:List Ans):(ansNums l).length=l.length*3:=by
 unfold ansNums
 induction l with
 | nil=>rfl
 | cons a t ih=>rw[List.flatMap_cons,List.length_append,ih];simp[Ans.nums];omega
theorem ansNums_at (l:List Ans)(i j:Nat)(x:Ans)(hx:l[i]?=some x)(hj:j<3):(ansNums l)[i*3+j]?=x.nums[j]?:=by
 induction l generalizing i with
 | nil=>simp at hx
 | cons a t ih =>
  have e:ansNums (a :: t)=a.nums++ansNums t:=by simp[ansNums]
  have hl:a.nums.length=3:=rfl
  rw[e];cases i with
  | zero =>
   rw[List.getElem?_append_left (by omega)]
   simp at hx
   subst hx;simp
  | succ i =>
   rw[List.getElem?_append_right (by omega),hl,show (i+1)*3+j-3=i*3+j by omega,ih i (by simpa using hx)]
end Go.Proofs.YtgieeeeeiggoeaaGreat
namespace Go.Proofs.YtgieeeeeiggoeaaGreat
open Go.RowKit Go.Shelf
def byts (l:List UInt8):List Value:=l.map fun b=>.int .u8 (b.toNat:Int)
theorem byts_length (l:List UInt8):(byts l).length=l.length:=by simp[byts]
theorem byts_append (l m:List UInt8):byts (l++m)=byts l++byts m:=by simp[byts]
theorem byts_one (l:List UInt8):∀ u∈byts l,u.oneCell'=true:=by
 intro u hu;simp only [byts,List.mem_map] at hu
 obtain⟨n,_,rfl⟩:=hu;rfl
theorem infoByte : (Tryz.prog.info? 5).map (fun i=>(i.zero,i.size,i.bytes))=some (some (.int .u8 0),1,1):=by kernel_rfl
theorem wpList_append_bytes {w:World}{ops:Array Oper}{rest:List Oper}{o:Oper}{a:Act}{Q:Exit→Act→World→Prop}(hgd:o.guard=none)(s x:Operand)
  (ho:o.op=.call { callee:=.builtin .append,args:=#[s,x],argTypes:=#[169,169] })
  (base:Nat) (v:Value) (l:List UInt8) (hs:a.eval s=v) (hown:w.ownsRow base 5 1 v l.length (byts l))
  (g m c:Nat) (news:List UInt8) (hx:a.eval x=.slice (some ⟨g,0,none⟩) m c) (hm:news.length=m) (hnews:∀ j,j<m→w.cell? ⟨g,j,none⟩=some (.int .u8 ((news.getD j 0).toNat:Int)))
  (h63:l.length+m≤1000000) (hbase:base≤w.heap.size)
  (h:∀ v' w',w'.ownsRow base 5 1 v' (l++news).length (byts (l++news))→w.grownBy w' v.ownBlock→wpList Tryz.prog ops Q rest (a.put o.dst v') w'):wpList Tryz.prog ops Q (o :: rest) a w:=by
 obtain⟨i0,hi,hz0,hz1,hz2⟩:=info_parts infoByte
 refine wpList_append_own w hgd s x 169 ho base 5 i0 _ 1 1 Tryz.underlying169 hi hz0 hz1 hz2 rfl (by decide) v l.length (byts l) hs hown ⟨g,0,none⟩ m c (byts news) hx (by rw[byts_length,hm];omega) ?_ (byts_one news) (by unfold maxLen;omega) (by omega) hbase ?_
 ·intro j u hj
  have hjl:j<news.length:=by
   have:=(List.getElem?_eq_some_iff.1 hj).1
   rwa [byts_length] at this
  have e:(⟨g,0,none⟩:Addr).add j=⟨g,j,none⟩:=by unfold Addr.add;simp;omega
  rw[e,hnews j (by omega)]
  simp[byts,List.getElem?_eq_getElem hjl] at hj
  simp[List.getD,List.getElem?_eq_getElem hjl,hj]
 ·intro v' w' h1 h2 _
  refine h v' w' ?_ h2
  rw[byts_append,List.length_append,hm];exact h1
theorem grown_alloc {w w':World}{o:Obj}{row:Option Nat}(h:(w.alloc o).grownBy w' row):w.grownBy w' row :=
 ⟨h.os,h.tape,h.output,by have:=h.size;simp at this;omega,fun k hk hr=>(h.block k (by simp;omega) hr).trans (Below.heap_alloc w o k hk)⟩
theorem toNat_low (n:Nat):((lowByte n).toNat:Int)=((n % 256:Nat):Int):=by
 unfold lowByte;simp
theorem appendNumber_any (base:Nat)(v:Value)(l:List UInt8)(n:Int)(w:World)(hown:w.ownsRow base 5 1 v l.length (byts l))(hb:base≤w.heap.size)(h1 : -1≤n)(h2:n≤65534)(hl:l.length≤100000) :
  Calls Tryz.prog 157 #[v,.int .i64 n] w fun e w'=>∃ v',e=.returned v'∧w'.ownsRow base 5 1 v' (l++numBytes n).length (byts (l++numBytes n))∧w.grownBy w' v.ownBlock:=by
 go_enter Tryz.func157,Tryz.ntmps157
 go_wp2_with (at_builtin;refine wpList_append_bytes rfl _ _ rfl base _ _ rfl (hown.alloc _) w.heap.size 2 2 (numBytes n) rfl rfl ?hnews ?h63 ?hbase ?_)
 case hnews =>
  intro j hj;match j,hj with
  | 0,_=>simp[numBytes,toNat_low];omega
  | 1,_=>simp[numBytes,toNat_low];omega
 case h63=>omega
 case hbase=>simp;omega
 intro v' w1 h3 h4;go_wp2
 go_ret;exact⟨_,rfl,by simpa using h3,grown_alloc h4⟩
theorem appendNumber_odd (base:Nat)(v:Value)(l:List UInt8)(n:Int)(w:World)(hown:w.ownsRow base 5 1 v l.length (byts l))(hb:base≤w.heap.size)(hl:l.length≤100000) :
  Calls Tryz.prog 157 #[v,.int .i64 n] w fun e w'=>∃ v' l',l'.length=2∧e=.returned v'∧w'.ownsRow base 5 1 v' (l++l').length (byts (l++l'))∧w.grownBy w' v.ownBlock:=by
 go_enter Tryz.func157,Tryz.ntmps157
 go_wp2_with (at_builtin;refine wpList_append_bytes rfl _ _ rfl base _ _ rfl (hown.alloc _) w.heap.size 2 2 [UInt8.ofNat (wrap64 (n+1) / 256 % 256).toNat,UInt8.ofNat (wrap64 (n+1) % 256).toNat] rfl rfl ?hnews ?h63 ?hbase ?_)
 case hnews =>
  intro j hj;match j,hj with
  | 0,_=>simp;omega
  | 1,_=>simp;omega
 case h63=>omega
 case hbase=>simp;omega
 intro v' w1 h3 h4;go_wp2
 go_ret;refine⟨_,[UInt8.ofNat (wrap64 (n+1) / 256 % 256).toNat,UInt8.ofNat (wrap64 (n+1) % 256).toNat],rfl,rfl, ?_,grown_alloc h4⟩
 rw[List.length_append];exact h3
theorem appendNumber_tot (base:Nat)(v:Value)(l:List UInt8)(n:Int)(w:World)(hown:w.ownsRow base 5 1 v l.length (byts l))(hb:base≤w.heap.size)(hl:l.length≤100000) :
  Calls Tryz.prog 157 #[v,.int .i64 n] w fun e w'=>∃ v' l',(l'.length=2∧(numOk n=true→l'=numBytes n))∧e=.returned v'∧w'.ownsRow base 5 1 v' (l++l').length (byts (l++l'))∧w.grownBy w' v.ownBlock:=by
 by_cases h:numOk n=true
 ·obtain⟨h1,h2⟩:=(numOk_iff n).1 h
  refine (appendNumber_any base v l n w hown hb h1 h2 hl).mono ?_
  rintro e w' ⟨v',rfl,ho,hg⟩;exact⟨v',_,⟨rfl,fun _=>rfl⟩,rfl,ho,hg⟩
 ·refine (appendNumber_odd base v l n w hown hb hl).mono ?_
  rintro e w' ⟨v',l',hl',rfl,ho,hg⟩;exact⟨v',l',⟨hl',fun h'=>absurd h' h⟩,rfl,ho,hg⟩
attribute [local go_sem] Oper.semAt_some
theorem wpListIn_append_bytes {F:Fence}{nn:Nat}{w:World}{ops:Array Oper}{rest:List Oper}{o:Oper}{a:Act}{Q:Exit→Act→World→Prop}(hgd:o.guard=none)(s x:Operand)
  (ho:o.op=.call { callee:=.builtin .append,args:=#[s,x],argTypes:=#[169,169] })
  (base:Nat) (v:Value) (l:List UInt8) (hs:a.eval s=v) (hown:w.ownsRow base 5 1 v l.length (byts l))
  (g m c:Nat) (news:List UInt8) (hx:a.eval x=.slice (some ⟨g,0,none⟩) m c) (hm:news.length=m) (hnews:∀ j,j<m→w.cell? ⟨g,j,none⟩=some (.int .u8 ((news.getD j 0).toNat:Int)))
  (h63:l.length+m≤1000000) (hbase:base≤w.heap.size)
  (h:∀ v' w',w'.ownsRow base 5 1 v' (l++news).length (byts (l++news))→w.grownBy w' v.ownBlock→wpListIn F nn Tryz.prog ops Q rest (a.put o.dst v') w'):wpListIn F nn Tryz.prog ops Q (o :: rest) a w:=by
 obtain⟨i0,hi,hz0,hz1,hz2⟩:=info_parts infoByte
 refine wpListIn_append_own w hgd s x 169 ho base 5 i0 _ 1 1 Tryz.underlying169 hi hz0 hz1 hz2 rfl (by decide) v l.length (byts l) hs hown ⟨g,0,none⟩ m c (byts news) hx (by rw[byts_length,hm];omega) ?_ (byts_one news) (by unfold maxLen;omega) (by omega) hbase ?_
 ·intro j u hj
  have hjl:j<news.length:=by
   have:=(List.getElem?_eq_some_iff.1 hj).1
   rwa [byts_length] at this
  have e:(⟨g,0,none⟩:Addr).add j=⟨g,j,none⟩:=by unfold Addr.add;simp;omega
  rw[e,hnews j (by omega)]
  simp[byts,List.getElem?_eq_getElem hjl] at hj
  simp[List.getD,List.getElem?_eq_getElem hjl,hj]
 ·intro v' w' h1 h2 _
  refine h v' w' ?_ h2
  rw[byts_append,List.length_append,hm];exact h1
theorem owns_slice {w:World}{base size n:Nat}{e:TypeId}{v:Value}{xs:List Value}(h:w.ownsRow base e size v n xs):∃ a m c,v=.slice a m c:=by
 obtain⟨a,c,hv⟩:=osh h
 exact⟨a,n,c,hv⟩
theorem all_get {l:List Int}{k:Nat}(h:l.all numOk=true)(hk:k<l.length) : -1≤l.getD k 0∧l.getD k 0≤65534:=by
 rw[List.all_eq_true] at h
 exact (numOk_iff _).1 (h (l.getD k 0) (by simp[List.getD,List.getElem?_eq_getElem hk]))
def byteRow (n:Nat):Array Value:=madeCells #[.int .u8 0] (n*1)
theorem make_bytes (n:Nat)(h:n≤1000000):∀ w,(Instr.makeSlice 169 (.int .i64 0) (.int .i64 (n:Int))).run Tryz.prog w=.ok (.slice (some ⟨w.heap.size,0,none⟩) 0 n) (w.alloc (.cells (byteRow n) 5)):=by
 intro w;obtain⟨i0,hi,hz0,hz1,hz2⟩:=info_parts infoByte
 have:=run_make (P:=Tryz.prog) w 169 5 i0 _ Tryz.underlying169 hi hz0 .i64 .i64 0 n (by omega) (by omega) (by rw[hz2];omega) (by omega)
 rw[Int.toNat_natCast,hz1] at this
 exact this
structure WBI (Q base:Nat)(W wr:World)(v:Value)(l:List UInt8):Prop where
 bx:wr.heap[Q]?=some (.cells #[v] 169)
 ow:wr.ownsRow base 5 1 v l.length (byts l)
 be:Below base W wr
 bQ:base≤Q
 bs':base≤wr.heap.size
theorem WBI.cell {Q base:Nat}{W wr:World}{v:Value}{l:List UInt8}(h:WBI Q base W wr v l):wr.cell? ⟨Q,0,none⟩=some v:=by rw[coh h.bx];rfl
theorem WBI.frozen {Q base:Nat}{W wr:World}{v:Value}{l:List UInt8}(h:WBI Q base W wr v l):wr.frozen? ⟨Q,0,none⟩=false:=foh h.bx 0
theorem owns_ne {w:World}{base size n Q:Nat}{e t:TypeId}{v:Value}{xs:List Value}{cs:Array Value}(h:w.ownsRow base e size v n xs)(hQ:w.heap[Q]?=some (.cells cs t))(hne:e≠t):some Q≠v.ownBlock:=by
 rcases h.2 with ⟨rfl,_⟩|⟨g,cap,cur,rfl,_,hg,_⟩
 ·intro e;cases e
 ·intro e
  cases e
  exact types_ne hg hQ hne rfl
theorem heap_setCell_one (w:World)(Q:Nat)(v v':Value)(t:TypeId)(h:w.heap[Q]?=some (.cells #[v] t)):(w.setCell ⟨Q,0,none⟩ v').heap[Q]?=some (.cells #[v'] t):=by
 obtain⟨hlt,he⟩:=Array.getElem?_eq_some_iff.1 h
 simp[World.setCell,hlt]
 rw[Array.getElem_modify];simp[he]
theorem WBI.put {Q base:Nat}{W wr w1:World}{v v':Value}{l l':List UInt8}(h:WBI Q base W wr v l)(ho:w1.ownsRow base 5 1 v' l'.length (byts l'))(hg:wr.grownBy w1 v.ownBlock) :
  WBI Q base W (w1.setCell ⟨Q,0,none⟩ v') v' l':=by
 have hne:=owns_ne h.ow h.bx (by decide)
 have hlt:=(Array.getElem?_eq_some_iff.1 h.bx).1
 have hQ:w1.heap[Q]?=some (.cells #[v] 169):=(hg.block Q hlt hne).trans h.bx
 have hne':=owns_ne ho hQ (by decide)
 refine⟨heap_setCell_one w1 Q v v' _ hQ,ownsRow_setCell_other ho (Ne.symm hne') _, ?_,h.bQ,by have:=hg.size;have:=h.bs';simp;omega⟩
 exact (h.be.grown hg h.bs' (fun k hk=>(h.ow.lt k hk).1)).setCell h.bQ _
theorem WBI.mid {Q base:Nat}{W wr w1:World}{v:Value}{l:List UInt8}(h:WBI Q base W wr v l)(hg:wr.grownBy w1 v.ownBlock):w1.cell? ⟨Q,0,none⟩=some v∧w1.frozen? ⟨Q,0,none⟩=false:=by
 have hne:=owns_ne h.ow h.bx (by decide)
 have hlt:=(Array.getElem?_eq_some_iff.1 h.bx).1
 have hQ:w1.heap[Q]?=some (.cells #[v] 169):=(hg.block Q hlt hne).trans h.bx
 exact⟨by rw[coh hQ];rfl,foh hQ 0⟩
theorem WBI.below {Q base:Nat}{W wr w1:World}{v:Value}{l:List UInt8}(h:WBI Q base W wr v l)(hb:Below wr.heap.size wr w1):WBI Q base W w1 v l :=
 ⟨(hb.block Q (Array.getElem?_eq_some_iff.1 h.bx).1).trans h.bx,okp h.ow fun k _ hk=>hb.block k hk,h.be.trans (hb.mono h.bs'),h.bQ,Nat.le_trans h.bs' hb.size⟩
theorem WBI.keepT {Q base:Nat}{W wr w1:World}{v v':Value}{l:List UInt8}(h:WBI Q base W wr v l)(hg:wr.grownBy w1 v.ownBlock) :
  KeepT wr (w1.setCell ⟨Q,0,none⟩ v')∧KeepsOthers wr (w1.setCell ⟨Q,0,none⟩ v'):=by
 have hcells:∀ (j:Nat) (o:Obj),v.ownBlock=some j→wr.heap[j]?=some o→∃ cur fz,o=.cells cur 5 fz:=by
  intro j o hj ho';rcases h.ow.2 with ⟨hv,_⟩|⟨g,cap,cur,hv,_,hgg,_⟩
  ·rw[hv] at hj;cases hj
  ·rw[hv] at hj
   cases hj
   rw[hgg] at ho'
   cases ho'
   exact⟨cur,_,rfl⟩
 constructor
 ·intro k cs T fz h1 h2 h3
  have hlt:=(Array.getElem?_eq_some_iff.1 h3).1
  have hk1:some k≠v.ownBlock:=by
   intro e;obtain⟨cur,fz',he⟩:=hcells k _ e.symm h3
   cases he
   exact h1 rfl
  have hkQ:k≠Q:=by
   intro e;subst e;rw[h.bx] at h3
   cases h3
   exact h2 rfl
  rw[Below.heap_setCell _ _ _ _ (by exact hkQ),hg.block k hlt hk1]
  exact h3
 ·refine (KeepsOthers.of_grownBy hg ?_).trans (KeepsOthers.setCell _ _ _)
  intro j o hj ho';obtain⟨cur,fz,rfl⟩:=hcells j o hj ho'
  rfl
theorem wbi_own (Q base B:Nat)(W2:World)(L0:List UInt8)(hB:base≤B):OwnFrom B (fun (pre:List Int) W=>∃ v l,(l.length=L0.length+2*pre.length∧(pre.all numOk=true→l=L0++numsBytes pre))∧WBI Q base W2 W v l):=by
 rintro pre W W' row ⟨v,l,hp,I⟩ hg hr;have hcells:∀ (k:Nat) (cs:Array Value) (T:TypeId) (fz:Nat × Nat),W.heap[k]?=some (Obj.cells cs T fz)→some k≠row:=by
  intro k cs T fz hk e;obtain⟨_,o,ho,hc⟩:=hr k e.symm
  rw[hk] at ho
  cases ho
  cases hc
 refine⟨v,l,hp,(hg.block Q (Array.getElem?_eq_some_iff.1 I.bx).1 (hcells _ _ _ _ I.bx)).trans I.bx, ?_, ?_,I.bQ,Nat.le_trans I.bs' hg.size⟩
 ·refine⟨I.ow.1, ?_⟩
  rcases I.ow.2 with h0|⟨g,cap,cur,hv,hb,hgg,rest⟩
  ·exact .inl h0
  ·exact .inr ⟨g,cap,cur,hv,hb,(hg.block g (Array.getElem?_eq_some_iff.1 hgg).1 (hcells _ _ _ _ hgg)).trans hgg,rest⟩
 ·exact I.be.grown hg I.bs' (fun k hk=>Nat.le_trans hB (hr k hk).1)
theorem conv_row {w:World}{base:Nat}{v:Value}{l:List UInt8}{g c:Nat}(h:w.ownsRow base 5 1 v l.length (byts l))(hv:v=.slice (some ⟨g,0,none⟩) l.length c) :
  (convert 169 9 v).run Tryz.prog w=.ok (.string (bs l)) w:=by
 subst hv;refine run_convert_bytes_back w 169 9 5 ⟨g,0,none⟩ c l Tryz.underlying169 Tryz.underlying5 Tryz.underlying9 ?_
 intro j hj;have e:(⟨g,0,none⟩:Addr).add j=⟨g,j,none⟩:=by unfold Addr.add;simp;omega
 rw[e,h.cellAt j (by omega)]
 simp[byts,List.getElem?_eq_getElem hj]
theorem writeBody_start (C:Nat)(w:World)(base:Nat)(hb:base≤w.heap.size)(hC:C≤1000000) :
  WBI (w.heap.size+1) base w ((w.alloc (.cells (byteRow C) 5)).alloc (.cells #[.slice (some ⟨w.heap.size,0,none⟩) 0 C] 169)) (.slice (some ⟨w.heap.size,0,none⟩) 0 C) []:=by
 refine⟨?_, ?_,((Below.refl base w).alloc hb _).alloc (by simp;omega) _,by omega,by simp;omega⟩
 ·have:=hnw (w.alloc (.cells (byteRow C) 5)) (.cells #[.slice (some ⟨w.heap.size,0,none⟩) 0 C] 169)
  rwa [World.size_alloc] at this
 ·refine World.ownsRow.alloc ?_ _
  exact World.ownsRow_made w _ C hb (by unfold maxLen;omega) (size_madeCells _ _)
theorem writeBody_in (n:Nat)(hn:Hid (3≤n))(k f t ep ba vo po va:Int)(am al:Option Addr)(cm cl:Nat)(ms:List Int)(es:List Ent)(base0:Nat)(w:World)(hmem:IntsAt w (.slice am ms.length cm) ms)
  (hlog:w.ownsRow base0 42 5 (.slice al es.length cl) es.length (ints (entsNums es))) (hok:Hid (msgOk k [f,t,ep,ba,vo,po,va] ms es=true)) :
  CallsIn Fence.wide n Tryz.prog 123 #[.agg #[.int .i64 k,.int .i64 f,.int .i64 t,.int .i64 ep,.int .i64 ba,.int .i64 vo,.int .i64 po,.int .i64 va,.slice am ms.length cm,.slice al es.length cl]] w fun e w'=>e=.returned (.string (bs (body k [f,t,ep,ba,vo,po,va] ms es)))∧Below w.heap.size w w':=by
 obtain⟨⟨h1,h2,h3,h4⟩,g1,g2,g3⟩:=(msgOk_iff _ _ _ _).1 hok.out
 have G1:=hideA g1;have G2:=hideA g2;have G3:=hideA g3;clear g1 g2 g3;have mk:=make_bytes (17+2*ms.length+10*es.length) (by omega)
 have hC:17+2*ms.length+10*es.length≤1000000:=by omega
 have Hc:Hid (((17+2*ms.length+10*es.length:Nat):Int)=17+2*(ms.length:Int)+10*(es.length:Int)):=hideA (by omega)
 rw[Hc.out] at mk
 generalize 17+2*ms.length+10*es.length=C at mk hC Hc
 obtain⟨W1,hW1,hbW1,hsW1,q, -⟩:=boxed w #[.int .i64 k,.int .i64 f,.int .i64 t,.int .i64 ep,.int .i64 ba,.int .i64 vo,.int .i64 po,.int .i64 va,.slice am ms.length cm,.slice al es.length cl] 134
 refine callsIn_of_wp_marks Tryz.func123 rfl trivial ?_ rfl
 simp only [Tryz.ntmps123,List.size_toArray,List.length_cons,List.length_nil,Nat.reduceAdd,Nat.reduceSub,Array.replicate_succ,Array.replicate_zero,List.push_toArray,List.append_toArray,List.nil_append,List.cons_append]
 gi_wp2_with fail;clear hW1;refine⟨trivial,by simp[Fence.wide],(callsIn_wide.2 (bodySize_any _ _ _ (by omega) (by omega) (by omega) (by omega))).mono ?_⟩
 rintro e W2 ⟨rfl,rfl⟩;have I0:=writeBody_start C W2 W2.heap.size (Nat.le_refl _) hC
 have hcB:∀ j,W2.cell? ⟨w.heap.size,j,none⟩=#[.int .i64 k,.int .i64 f,.int .i64 t,.int .i64 ep,.int .i64 ba,.int .i64 vo,.int .i64 po,.int .i64 va,.slice am ms.length cm,.slice al es.length cl][j]?:=q
 have HcB:=hideA hcB;have hwl:w.heap.size<W2.heap.size:=by omega
 clear q hcB hsW1;have c0:=HcB.out 0
 have c8:=HcB.out 8
 have c9:=HcB.out 9
 obtain⟨V,hV⟩:∃ V,(W2.alloc (.cells (byteRow C) 5)).alloc (.cells #[.slice (some ⟨W2.heap.size,0,none⟩) 0 C] 169)=V:=⟨_,rfl⟩
 rw[hV] at I0
 have hbV:Below W2.heap.size W2 V:=by rw[← hV];exact ((Below.refl _ _).alloc (Nat.le_refl _) _).alloc (by simp) _
 have hsV:W2.heap.size+1<V.heap.size:=by rw[← hV];simp
 have cQ:=I0.cell
 have fQ:=I0.frozen
 have d0:V.cell? ⟨w.heap.size,0,none⟩=some (.int .i64 k):=(hbV.cell (p:=⟨w.heap.size,0,none⟩) hwl).trans c0
 gi_wp2_with (gi_at_builtin;refine wpListIn_append_bytes rfl _ _ rfl W2.heap.size _ [] rfl (I0.ow.alloc _) V.heap.size 1 1 (oneB k.toNat) rfl rfl ?hnews ?h63 ?hbase ?_)
 case hnews =>
  intro j hj;match j,hj with
  | 0,_=>simp[oneB,toNat_low];omega
 case h63=>simp
 case hbase=>simp;omega
 intro v1 w1 ho hg;have hg':=grown_alloc hg
 obtain⟨cQ1,fQ1⟩:=I0.mid hg'
 have I1:=I0.put (l':=oneB k.toNat) ho hg'
 obtain⟨a1,x1,hv1⟩:=osh ho
 have Hv1:=hideA hv1;rw[hv1];rw[hv1] at I1
 clear hv1 cQ fQ d0 hV mk;generalize hQ:W2.heap.size+1=Q at *
 gi_wp2_with fail;refine⟨trivial,by simp[Fence.wide],(callsIn_wide.2 (header_any w.heap.size _)).mono ?_⟩
 rintro e V2 ⟨hb2,rfl⟩;have I2:=I1.below hb2
 have hcB:∀ (wr:World) (v:Value) (l:List UInt8),WBI Q W2.heap.size W2 wr v l→∀ j,wr.cell? ⟨w.heap.size,j,none⟩=#[.int .i64 k,.int .i64 f,.int .i64 t,.int .i64 ep,.int .i64 ba,.int .i64 vo,.int .i64 po,.int .i64 va,.slice am ms.length cm,.slice al es.length cl][j]?:=fun _ _ _ I j=>(I.be.cell (p:=⟨w.heap.size,j,none⟩) hwl).trans (HcB.out j)
 have HB:=hideA hcB;have hbW2:Below w.heap.size w W2:=hbW1
 clear hcB I0 I1 c0 c8 c9 cQ1 fQ1 hg hg' hb2 ho hbV hsV Hv1 hQ;gi_wp2_with fail;gi_loopw [24] (fun i wr=>∃ (j:Nat) (v:Value),j≤7∧i=.int .i64 j∧WBI Q W2.heap.size W2 wr v (oneB k.toNat++numsBytes (List.take j [f,t,ep,ba,vo,po,va]))) (fun i _=>7-(intOf i).toNat)
 case atStart=>exact⟨0,_,Nat.zero_le _,rfl,by simpa [numsBytes] using I2⟩
 case round =>
  clear I2;obtain⟨j,vA,hj,rfl,I⟩:=hrel;by_cases hlt:j<7
  ·have hix:=head_index w.heap.size j hlt
   have hcj:=head_cell (HB.out _ _ _ I) j hlt
   have ht:Hid (List.take (j+1) [f,t,ep,ba,vo,po,va]=List.take j [f,t,ep,ba,vo,po,va]++[List.getD [f,t,ep,ba,vo,po,va] j 0]):=take_snoc_ints _ _ hlt
   have hxok:=all_get G1.out (show j<([f,t,ep,ba,vo,po,va]:List Int).length from hlt)
   have hll:(oneB k.toNat++numsBytes (List.take j [f,t,ep,ba,vo,po,va])).length≤1000:=by rw[List.length_append,numsBytes_length,List.length_take,oneB_length];omega
   generalize List.getD [f,t,ep,ba,vo,po,va] j 0=x at *
   have cQ:=I.cell
   have fQ:=I.frozen
   gi_wp2_with fail;refine wpIn_wide.2 (wp_region_noPanic ?_)
   go_region_with ((go_at_call 157;refine (appendNumber_any W2.heap.size vA (oneB k.toNat++numsBytes (List.take j [f,t,ep,ba,vo,po,va])) x _ (by exact I.ow) (by exact I.bs') hxok.1 hxok.2 (by omega)).mono ?_;rintro e w5 ⟨v5,rfl,ho5,hg5⟩;have hg5':wr.grownBy w5 vA.ownBlock:=⟨hg5.os,hg5.tape,hg5.output,hg5.size,hg5.block⟩;obtain⟨cQ5,fQ5⟩:=I.mid hg5';have I5:=I.put ho5 hg5';obtain⟨a5,n5,x5,rfl⟩:=owns_slice ho5))
   all_goals
    refine NoPanic.normal ?_
    gi_wp2_with fail;exact⟨⟨j+1,_,by omega,by go_num,by rw[ht.out,numsBytes_append,numsBytes_one, ← List.append_assoc];exact I5⟩,by simp[intOf];omega⟩
  ·have hj7:Hid (j=7):=hideA (by omega)
   have hj7':(7:Int)≤(j:Int):=by have:=hj7.out;omega
   have I7:WBI Q W2.heap.size W2 wr vA (oneB k.toNat++numsBytes [f,t,ep,ba,vo,po,va]):=by rw[hj7.out] at I;exact I
   have c8:wr.cell? ⟨w.heap.size,8,none⟩=some (.slice am ms.length cm):=HB.out _ _ _ I7 8
   have cQ:=I7.cell
   have fQ:=I7.frozen
   have hll:(oneB k.toNat++numsBytes [f,t,ep,ba,vo,po,va]).length≤1000:=by rw[List.length_append,numsBytes_length,oneB_length];simp
   have hle:=I7.be.size
   clear I hlt hj;gi_wp2_with (gi_at_builtin;refine wpListIn_append_bytes rfl _ _ rfl W2.heap.size _ (oneB k.toNat++numsBytes [f,t,ep,ba,vo,po,va]) rfl (I7.ow.alloc _) wr.heap.size 1 1 (oneB ms.length) rfl rfl ?hnews ?h63 ?hbase ?_)
   case hnews =>
    intro j hj;match j,hj with
    | 0,_=>simp[oneB,toNat_low];omega
   case h63=>omega
   case hbase=>simp;omega
   intro v2 w2 ho2 hg2;have hg2':=grown_alloc hg2
   obtain⟨cQ2,fQ2⟩:=I7.mid hg2'
   have I8:=I7.put ho2 hg2'
   obtain⟨a2,n2,x2,hv2⟩:=owns_slice ho2
   have Hv2:=hideA hv2;rw[hv2];rw[hv2] at I8
   have cB8:=HB.out _ _ _ I8 8
   clear hv2 cQ fQ I7 hg2 hg2' ho2 c8;generalize hY:w2.setCell ⟨Q,0,none⟩ (.slice a2 n2 x2)=Y at *
   gi_wp2_with fail;clear hY;clear hle;generalize wr.heap.size=N1 at *
   gi_loopw [43] (fun i wr=>∃ (m:Nat) (v:Value),m≤ms.length∧i=.int .i64 m∧WBI Q W2.heap.size W2 wr v (oneB k.toNat++numsBytes [f,t,ep,ba,vo,po,va]++oneB ms.length++numsBytes (ms.take m))) (fun i _=>ms.length-(intOf i).toNat)
   case atStart=>exact⟨0,_,Nat.zero_le _,rfl,by simpa [numsBytes] using I8⟩
   case round =>
    clear I8 cB8;obtain⟨m,v,hm,rfl,I⟩:=hrel;have hbwr:Below w.heap.size w wr:=hbW2.trans (I.be.mono hbW2.size)
    by_cases hlt:m<ms.length
    ·obtain⟨am',cm',hvm,hcells⟩:=hmem
     obtain⟨b1,o1,ha1,hcm⟩:=hcells m hlt
     injection hvm with e1 _ e3
     subst e1 e3 ha1
     have hcm':=cell_later hbwr hcm
     have ht:Hid (ms.take (m+1)=ms.take m++[ms.getD m 0]):=take_snoc_ints _ _ hlt
     have hxok:=all_get G2.out hlt
     have hll:(oneB k.toNat++numsBytes [f,t,ep,ba,vo,po,va]++oneB ms.length++numsBytes (ms.take m)).length≤2000:=by rw[List.length_append,List.length_append,numsBytes_length,List.length_take,oneB_length];omega
     clear hcells hcm;generalize ms.getD m 0=x at *
     have cQ:=I.cell
     have fQ:=I.frozen
     gi_wp2_with fail;refine⟨trivial,by simp[Fence.wide],(callsIn_wide.2 (appendNumber_any W2.heap.size v _ x _ (by exact I.ow) (by exact I.bs') hxok.1 hxok.2 (by omega))).mono ?_⟩
     rintro e w5 ⟨v5,rfl,ho5,hg5⟩;obtain⟨cQ5,fQ5⟩:=I.mid hg5
     have I5:=I.put ho5 hg5
     obtain⟨a5,n5,x5,rfl⟩:=owns_slice ho5
     gi_wp2_with fail;exact⟨⟨m+1,_,by omega,by go_num,by rw[ht.out,numsBytes_append,numsBytes_one, ← List.append_assoc];exact I5⟩,by simp[intOf];omega⟩
    ·obtain rfl:m=ms.length:=by omega
     rw[List.take_length] at I
     have c9:wr.cell? ⟨w.heap.size,9,none⟩=some (.slice al es.length cl):=HB.out _ _ _ I 9
     have cQ:=I.cell
     have fQ:=I.frozen
     have hll:(oneB k.toNat++numsBytes [f,t,ep,ba,vo,po,va]++oneB ms.length++numsBytes ms).length≤2000:=by rw[List.length_append,List.length_append,numsBytes_length,oneB_length];omega
     have hle3:=I.be.size
     clear hlt hm;gi_wp2_with (gi_at_builtin;refine wpListIn_append_bytes rfl _ _ rfl W2.heap.size _ (oneB k.toNat++numsBytes [f,t,ep,ba,vo,po,va]++oneB ms.length++numsBytes ms) rfl (I.ow.alloc _) wr.heap.size 1 1 (oneB es.length) rfl rfl ?hnews ?h63 ?hbase ?_)
     case hnews =>
      intro j hj;match j,hj with
      | 0,_=>simp[oneB,toNat_low];omega
     case h63=>omega
     case hbase=>simp;omega
     intro v3 w3 ho3 hg3;have hg3':=grown_alloc hg3
     obtain⟨cQ3,fQ3⟩:=I.mid hg3'
     have ho3':w3.ownsRow W2.heap.size 5 1 v3 (oneB k.toNat++(numsBytes [f,t,ep,ba,vo,po,va]++(oneB ms.length++(numsBytes ms++oneB es.length)))).length (byts (oneB k.toNat++(numsBytes [f,t,ep,ba,vo,po,va]++(oneB ms.length++(numsBytes ms++oneB es.length))))):=by
      rw[List.length_append,List.length_append,List.length_append,List.length_append];exact ho3
     have I9:=I.put ho3' hg3'
     obtain⟨a3,n3,x3,hv3⟩:=owns_slice ho3
     have Hv3:=hideA hv3;rw[hv3];rw[hv3] at I9
     have cB9:(w3.setCell ⟨Q,0,none⟩ (.slice a3 n3 x3)).cell? ⟨w.heap.size,9,none⟩=some (.slice al es.length cl):=HB.out _ _ _ I9 9
     clear hv3 cQ fQ I hg3 hg3' ho3 ho3' c9 hbwr;generalize hZ:w3.setCell ⟨Q,0,none⟩ (.slice a3 n3 x3)=Z at *
     gi_wp2_with fail;clear hZ;refine⟨trivial,by simp[Fence.wide],(logNumbers_in _ al es.length cl _).mono ?_⟩
     rintro e W5 ⟨rfl,rfl⟩;obtain⟨X,hX,hbX,hsX,qX, -⟩:=boxed Z #[.slice al es.length cl] 44
     rw[hX];clear hX;gi_wp2_with fail;have I10:=I9.below hbX
     have hbwX:Below w.heap.size w X:=hbW2.trans (I10.be.mono hbW2.size)
     have hlogX:=okp hlog fun k _ hk=>hbwX.block k hk
     have hsXl2:Z.heap.size<X.heap.size:=by omega
     have qX0:=qX 0
     have hXW:W2.heap.size≤X.heap.size:=I10.bs'
     clear hsX qX cB9 I9;have Hbody:Hid (oneB k.toNat++(numsBytes [f,t,ep,ba,vo,po,va]++(oneB ms.length++(numsBytes ms++oneB es.length)))++numsBytes (entsNums es)=body k [f,t,ep,ba,vo,po,va] ms es):=hideA (by unfold body;simp only [List.append_assoc])
     have Hlen:Hid ((oneB k.toNat++(numsBytes [f,t,ep,ba,vo,po,va]++(oneB ms.length++(numsBytes ms++oneB es.length)))).length≤100):=hideA (by simp only [List.length_append,numsBytes_length,oneB_length,List.length_cons,List.length_nil];omega)
     generalize oneB k.toNat++(numsBytes [f,t,ep,ba,vo,po,va]++(oneB ms.length++(numsBytes ms++oneB es.length)))=L0 at *
     refine wpIn_rangeFunc_ownF rfl (by have:=hn.out;omega) (gf:=181) (lb:=#[.pointer (some ⟨Z.heap.size,0,none⟩)]) rfl trivial (enters_of Tryz.func181 (by kernel_rfl) rfl)
      (nums_stops (n-1) Z.heap.size base0 _ es X h4 hsXl2 qX0 hlogX) KeepT.trans (fun W l o o' _ hl hc _=>keepT_put W l o o' hl hc) (Below.refl _ _) (fun _=>rfl)
      (fun pre W=>∃ v l,(l.length=L0.length+2*pre.length∧(pre.all numOk=true→l=L0++numsBytes pre))∧WBI Q W2.heap.size W2 W v l)
      (fun _ _ _=>False)
      (wbi_own Q W2.heap.size X.heap.size W2 L0 hXW)
      (fun _ _ _ _ _ hs _ _=>hs)
      ⟨_,L0,⟨by simp,fun _=>by simp[numsBytes]⟩,I10⟩
      (fun x=>{ tmps:=#[Value.agg #[Value.int IntKind.i64 k,Value.int IntKind.i64 f,Value.int IntKind.i64 t,Value.int IntKind.i64 ep,Value.int IntKind.i64 ba,Value.int IntKind.i64 vo,Value.int IntKind.i64 po,Value.int IntKind.i64 va,Value.slice am ms.length cm,Value.slice al es.length cl],Value.pointer (some { block:=w.heap.size,off:=0 }),Value.string { data:=#[] },Value.pointer (some { block:=Q,off:=0 }),undef,u5,undef,u7,.int .i64 x,Value.pointer (some { block:=w.heap.size,off:=8 }),Value.slice am ms.length cm,Value.int IntKind.i64 (ms.length:Int),Value.pointer (some { block:=w.heap.size,off:=9 }),Value.slice al es.length cl,Value.int IntKind.i64 (es.length:Int),Value.int IntKind.i64 (17+2*(ms.length:Int)+10*(es.length:Int)),Value.slice (some { block:=W2.heap.size,off:=0 }) 0 C,Value.slice (some { block:=W2.heap.size,off:=0 }) 0 C,Value.pointer (some { block:=w.heap.size,off:=0 }),Value.int IntKind.i64 k,Value.int IntKind.u8 k,Value.slice (some { block:=V.heap.size,off:=0 }) 1 1,Value.slice a1 (oneB k.toNat).length x1,Value.agg #[Value.pointer (some { block:=w.heap.size,off:=1 }),Value.pointer (some { block:=w.heap.size,off:=2 }),Value.pointer (some { block:=w.heap.size,off:=3 }),Value.pointer (some { block:=w.heap.size,off:=4 }),Value.pointer (some { block:=w.heap.size,off:=5 }),Value.pointer (some { block:=w.heap.size,off:=6 }),Value.pointer (some { block:=w.heap.size,off:=7 })],Value.int IntKind.i64 (j:Int),Value.bool (decide ((j:Int)<7)),u26,u27,u28,u29,u30,u31,u32,vA,Value.pointer (some { block:=w.heap.size,off:=8 }),Value.slice am ms.length cm,Value.int IntKind.i64 (ms.length:Int),Value.int IntKind.u8 (ms.length:Int),Value.slice (some { block:=N1,off:=0 }) 1 1,Value.slice a2 n2 x2,Value.pointer (some { block:=w.heap.size,off:=8 }),Value.slice am ms.length cm,Value.int IntKind.i64 (ms.length:Int),Value.int IntKind.i64 (ms.length:Int),Value.bool false,u45,u46,u47,u48,u49,u50,v,Value.pointer (some { block:=w.heap.size,off:=9 }),Value.slice al es.length cl,Value.int IntKind.i64 (es.length:Int),Value.int IntKind.u8 (es.length:Int),Value.slice (some { block:=wr.heap.size,off:=0 }) 1 1,Value.slice a3 n3 x3,Value.pointer (some { block:=w.heap.size,off:=9 }),Value.slice al es.length cl,Value.func (Fn.func 181) #[] #[Value.pointer (some { block:=Z.heap.size,off:=0 })],.int .i64 x,undef,undef,undef,undef,undef],defers:=[] }) ?assign ?body ?done ?stop
     case assign =>
      intro l x W K hK;gi_wp2
      exact hK
     case body =>
      rintro l pre x W ⟨v6,l6,⟨hl6,hp6⟩,I⟩ hpl;have hl6':l6.length≤100000:=by have:=Hlen.out;rw[entsNums_length] at hpl;omega
      have HL6:=hideA hl6;have HP6:=hideA hp6;have cQ:=I.cell
      have fQ:=I.frozen
      clear hl6 hp6;gi_wp2_with fail;refine⟨trivial,by simp[Fence.wide],(CallsIn.inRound l (callsIn_wide.2 (appendNumber_tot W2.heap.size v6 l6 x _ (by exact I.ow) (by exact I.bs') hl6'))).mono ?_⟩
      rintro e w5 ⟨v5,l5,⟨hl5,hp5⟩,rfl,ho5,hg5⟩;obtain⟨cQ5,fQ5⟩:=I.mid hg5
      have I5:=I.put ho5 hg5
      have K5:=I.keepT (v':=v5) hg5
      have HL5:=hideA hl5;have HP5:=hideA hp5;clear hl5 hp5;obtain⟨a5,n5,x5,rfl⟩:=owns_slice ho5
      gi_wp2
      refine⟨K5.2,K5.1,_,_,⟨?_, ?_⟩,I5⟩
      ·rw[List.length_append,HL6.out,HL5.out,List.length_append];simp;omega
      ·intro hall
       rw[List.all_append] at hall
       simp only [Bool.and_eq_true,List.all_cons,List.all_nil,Bool.and_true] at hall
       rw[HP6.out hall.1,HP5.out hall.2,numsBytes_append,numsBytes_one,List.append_assoc]
     case done =>
      rintro D ys W hD rfl ⟨v6,l6,⟨hl0,hp6⟩,I⟩ hK;clear hl0;have hl6:=hp6 G3.out
      rw[Hbody.out] at hl6
      have hbd:=body_length k [f,t,ep,ba,vo,po,va] ms es
      have hl1:(body k [f,t,ep,ba,vo,po,va] ms es).length≤1000:=by rw[hbd];simp only [List.length_cons,List.length_nil];omega
      have hpos:0<(body k [f,t,ep,ba,vo,po,va] ms es).length:=by rw[hbd];omega
      clear hp6 hbd;subst hl6;generalize hBD:body k [f,t,ep,ba,vo,po,va] ms es=BD at *
      have HBD:=hideA hBD;clear hBD;obtain⟨g6,c6,hv6⟩:=owns_form I.ow hpos
      have cQ:=I.cell
      have hconv:=conv_row I.ow hv6
      rw[hv6] at cQ hconv
      gi_wp2
      refine⟨by simp,.inl ⟨_,_,rfl,run_takeDeferred hK, ?_⟩⟩
      have hbW:Below w.heap.size w W:=hbW2.trans (I.be.mono hbW2.size)
      exact⟨_,results_tmp rfl _ _ _,by rw[HBD.out];rfl,hbW.trans (belowK_b (w:=w) (Nat.le_refl _) W D _ _ (by have:=hbwX.size;omega) hK rfl rfl)⟩
     case stop =>
      rintro D c pre W _ _ h _;exact h.elim
end Go.Proofs.YtgieeeeeiggoeaaGreat
