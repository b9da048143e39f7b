import Derived.RangeFuncNested
import Derived.RangeFuncBound
import Derived.RangeFuncCalls
import Derived.RangeFuncLeaves
import Derived.Shelf.Abstract
import Derived.Shelf.RegionOpen
import Derived.OwnWalkIn
import Derived.TacticsInMore
import Derived.LoopNIn
import Derived.LoopIn
import Derived.Test.YtgieeeeeiggoeaaGreatD09
set_option maxRecDepth 100000
set_option maxHeartbeats 2000000
namespace Go.Proofs.YtgieeeeeiggoeaaGreat
open Go.RowKit Go.Shelf
open Tryz
variable {g:Nat}{A B:World}
attribute [local go_sem] Oper.semAt_some
def jQ (W W':World):Prop:=∀ (k:Nat) (cs:Array Value) (T:TypeId) (fz:Nat × Nat),T≠5->T≠169->W.heap[k]?=some (Obj.cells cs T fz)->W'.heap[k]?=some (Obj.cells cs T fz)
theorem jQ.refl (W:World):jQ W W:=fun _ _ _ _ _ _ h=>h
theorem jQ.trans {C:World}(h:jQ A B)(k:jQ B C):jQ A C:=fun i cs T fz h1 h2 h3=>k i cs T fz h1 h2 (h i cs T fz h1 h2 h3)
theorem jQ.below (h:ai A B):jQ A B:=fun i _ _ _ _ _ h3=>(h.block i (aQ h3)).trans h3
theorem Eb (h:ai A B):A.grownBy B none:=⟨h.os,h.tape,h.output,h.size,fun k hk _=>h.block k hk⟩
def gR (w:World)(g:Nat)(es:List aH):Prop :=
 ∃ cur fz,w.heap[g]?=some (.cells cur 42 fz)/\∀ i,i<es.length ->
  w.cell? ⟨g,i*5,none⟩=some (.int .i64 (es.getD i aH.zero).client)/\w.cell? ⟨g,i*5+1,none⟩=some (.int .i64 (es.getD i aH.zero).seq) /\
  w.cell? ⟨g,i*5+2,none⟩=some (.int .i64 (es.getD i aH.zero).kind)/\w.cell? ⟨g,i*5+3,none⟩=some (.int .i64 (es.getD i aH.zero).key) /\
  w.cell? ⟨g,i*5+4,none⟩=some (.int .i64 (es.getD i aH.zero).value)
theorem mI (h:B.heap[g]?=A.heap[g]?)(j:Nat):B.cell? ⟨g,j,none⟩=A.cell? ⟨g,j,none⟩:=iR (a:=⟨g,j,none⟩) h
theorem gR.keep {es:List aH}(h:gR A g es)(k:jQ A B):gR B g es:=by
 obtain⟨cur,fz,h1,h2⟩:=h;have h3:=k g cur 42 fz (by decide) (by decide) h1
 have e:B.heap[g]?=A.heap[g]?:=h3.trans h1.symm;refine⟨cur,fz,h3,fun i hi => ?_⟩
 rw[mI e,mI e,mI e,mI e,mI e];exact h2 i hi
theorem RF (e:aH)(j:Nat)(h:j<5):e.nums.take (j+1)=e.nums.take j++[e.nums.getD j 0]:=mD _ _ h
theorem L4 {w:World}{E:Nat}{e:aH}(h:w.heap[E]?=some (.cells #[e.client,e.seq,e.kind,e.key,e.value] 42))(j:Nat)(hj:j<5) :
  w.cell? ⟨E,j,none⟩=some (.int .i64 (e.nums.getD j 0)):=by
 rw[aj h];match j,hj with
 | 0,_=>rfl
 | 1,_=>rfl
 | 2,_=>rfl
 | 3,_=>rfl
 | 4,_=>rfl
theorem RE (n:Nat)(l Bs g cap:Nat)(es:List aH)(hl:es.length<=24)(J Jx:List Int->World->Prop)(W:World)
  (hJ:AbidesFrom W.heap.size J)
  (hY:∀ pre x W1,J pre W1->pre.length<(bk es).length->YieldAt Fence.wide (n-1) prog l #[.int .i64 x] W1 fun e W' =>
   (e=.returned (.bool true)/\J (pre++[x]) W'/\jQ W1 W')\/(e=.returned (.bool false)/\Jx (pre++[x]) W'))
  (eb:W.cell? (Bs,0)=some (.slice (some g) es.length cap)) (hrow:gR W g es) (h0:J [] W) :
  CallsIn Fence.wide n prog 181 #[.func (.yield l) #[] #[],Bs] W fun e W'=>(∃ v,e=.returned v) /\
   ((∃ ys,ys=bk es/\J ys W')\/(∃ pre,pre <+: bk es/\Jx pre W')):=by
 refine callsIn_of_wp func181 rfl trivial ?_ rfl
 simp only [ntmps181,jr,eu,fG,Nat.reduceAdd,Nat.reduceSub,jG,jH,jJ,jI,fH,js];gi_wp2;gi_loopw [9] (fun i wr=>∃ k:Nat,k<=es.length/\i=.int .i64 k/\J (bk (es.take k)) wr/\gR wr g es  )
  (fun i _=>es.length-(intOf i).toNat)
 case atStart=>exact⟨0,bl _,rfl,h0,hrow⟩
 case round =>
  obtain⟨k,hk,rfl,hJs,hr⟩:=hrel;by_cases hlt:k<es.length
  ·obtain⟨cur,fz,hg,hc⟩:=hr
   obtain⟨c0,c1,c2,c3,c4⟩:=hc k hlt;have hr:gR wr g es:=⟨cur,fz,hg,hc⟩;have Hg:Hid (wr.heap[g]?=some (.cells cur 42 fz)):=hg;clear hc hg;have ht:Hid (es.take (k+1)=es.take k++[es.getD k aH.zero]):=xN es k hlt;have Jp:Hid (∃ rest,es=es.take k++[es.getD k aH.zero]++rest):=⟨es.drop (k+1),by rw[<- xN es k hlt,List.take_append_drop]⟩
   generalize es.getD k aH.zero=x at *;gi_wp2_with fail;obtain⟨A,hA,fp,hszA, -, -⟩:=fI wr #[x.client,x.seq,x.kind,x.key,x.value] 42;have hE:A.heap[wr.heap.size]?=some (.cells #[x.client,x.seq,x.kind,x.key,x.value] 42):=by rw[<- hA];exact hnw _ _
   rw[hA];clear hA;refine⟨trivial,by simp[Fence.wide],(ei.2 (DT wr.heap.size 0 A)).mono ?_⟩
   rintro e w5 ⟨hb5,rfl⟩;have ED:ai wr w5:=fp.trans (hb5.mono fp.size);have Ej:=hJ _ _ _ none hJs (Eb ED) (fun r e=>by cases e)
   have E5:=hr.keep (jQ.below ED);have Eg:w5.heap[wr.heap.size]?=some (.cells #[x.client,x.seq,x.kind,x.key,x.value] 42):=(hb5.block _ (by omega)).trans hE
   have Cp:=ae Eg;generalize wr.heap.size=E at *;clear hE Eg c0 c1 c2 c3 c4 Hg hszA;gi_wp2_with fail;gi_loopw [14] (fun i wr=>∃ j:Nat,j<=5/\i=.int .i64 j/\J (bk (es.take k)++x.nums.take j) wr/\gR wr g es/\Hid (wr.heap[E]?=some (.cells #[x.client,x.seq,x.kind,x.key,x.value] 42))  )
    (fun i _=>5-(intOf i).toNat)
   case atStart=>exact⟨0,bl _,rfl,by simpa using Ej,E5,Cp⟩
   case round =>
    clear Ej E5 Cp;obtain⟨j,hj,rfl,Ek,E8,Eh⟩:=hrel;by_cases hlj:j<5
    ·have hix:=DS E 0 j hlj
     have hcj:=L4 Eh.out j hlj;have htj:Hid (x.nums.take (j+1)=x.nums.take j++[x.nums.getD j 0]):=RF x j hlj;have hpl:(bk (es.take k)++x.nums.take j).length<(bk es).length:=by
      rw[bG,kt,kt,dA,dA];have:x.nums.length=5:=rfl;omega
     obtain⟨fn,tmps,assign,bX,hy,hR⟩:=hY _ (x.nums.getD j 0) _ Ek hpl;generalize x.nums.getD j 0=z at *;gi_wp2;refine⟨by simp[Fence.wide],hR.mono ?_⟩
     rintro e W3 (⟨rfl,hJ3,hk3⟩|⟨rfl,hJx3⟩)
     ·gi_wp2
      go_roundw
      case rel=>exact⟨j+1,by omega,by go_num,by rw[htj.out, <- eH];exact hJ3,E8.keep hk3,hk3 _ _ _ _ (by decide) (by decide) Eh.out⟩
      case measure=>simp[intOf];omega
     ·gi_wp2
      refine dB (results_none rfl _ _ _) rfl ?_
      refine⟨⟨_,rfl⟩,.inr ⟨_, ?_,hJx3⟩⟩
      obtain⟨rest,hrest⟩:=Jp.out;refine⟨x.nums.drop (j+1)++bk rest, ?_⟩
      rw[eH (bk (es.take k)), <- htj.out,eH, <- eH (x.nums.take (j+1)),List.take_append_drop]
      conv=>rhs;rw[hrest]
      rw[ou,ou,qP,eH]
    ·obtain rfl:j=5:=by omega
     gi_wp2;go_roundw
     case rel =>
      refine⟨k+1,by omega,by go_num, ?_,E8⟩
      rw[ht.out,ou,qP];exact Ek
     case measure=>simp[intOf];omega
  ·obtain rfl:k=es.length:=by omega
   rw[je] at hJs;gi_wp2;go_end0;exact⟨⟨_,rfl⟩,.inl ⟨_,rfl,hJs⟩⟩
end Go.Proofs.YtgieeeeeiggoeaaGreat
namespace Go.Proofs.YtgieeeeeiggoeaaGreat
open Go.RowKit Go.Shelf
open Tryz
variable {w:World}
def eZ (l:List UInt8):List Value:=l.map fun b=>.int .u8 (b.toNat:Int)
theorem wj (l:List UInt8):(eZ l).length=l.length:=by simp[eZ]
theorem Dl (l m:List UInt8):eZ (l++m)=eZ l++eZ m:=by simp[eZ]
theorem Dm (l:List UInt8):∀ u∈eZ l,u.oneCell'=true:=by
 intro u hu;simp only [eZ,List.mem_map] at hu;obtain⟨n,_,rfl⟩:=hu;rfl
theorem Bt : (prog.info? 5).map (fun i=>(i.zero,i.size,i.bytes))=some (some (.int .u8 0),1,1):=by kernel_rfl
theorem H7 {w:World}{ops:Array Oper}{rest:List Oper}{o:Oper}{a:Act}{Q:Exit->Act->World->Prop}(hgd:o.guard=none)(s x:Operand)
  (ho:o.op=.call { callee:=.builtin .append,args:=#[s,x],argTypes:=#[169,169] })
  (base:Nat) (v:Value) (l:List UInt8) (hs:a.eval s=v) (hown:w.ownsRow base 5 1 v l.length (eZ l))
  (g m c:Nat) (news:List UInt8) (hx:a.eval x=.slice (some g) m c) (hm:news.length=m) (hnews:∀ j,j<m->w.cell? ⟨g,j,none⟩=some (.int .u8 ((news.getD j 0).toNat:Int)))
  (h63:l.length+m<=1000000) (hbase:base<=w.heap.size)
  (h:∀ v' w',w'.ownsRow base 5 1 v' (l++news).length (eZ (l++news))->w.grownBy w' v.ownBlock->wpList prog ops Q rest (a.put o.dst v') w'):wpList prog ops Q (o :: rest) a w:=by
 obtain⟨i0,hi,hz0,hz1,hz2⟩:=info_parts Bt;refine wpList_append_own w hgd s x 169 ho base 5 i0 _ 1 1 underlying169 hi hz0 hz1 hz2 rfl (by decide) v l.length (eZ l) hs hown ⟨g,0,none⟩ m c (eZ news) hx (by rw[wj,hm];omega) ?_ (Dm news) (by unfold maxLen;omega) (by omega) hbase ?_
 ·intro j u hj
  have hjl:j<news.length:=by
   have:=(dI.1 hj).1
   rwa [wj] at this
  have e:(⟨g,0,none⟩:Addr).add j=⟨g,j,none⟩:=by unfold Addr.add;simp;omega
  rw[e,hnews j (by omega)]
  simp[eZ,List.getElem?_eq_getElem hjl] at hj
  simp[List.getD,List.getElem?_eq_getElem hjl,hj]
 ·intro v' w' h1 h2 _
  refine h v' w' ?_ h2
  rw[Dl,bG,hm];exact h1
theorem tS {w':World}{o:Obj}{row:Option Nat}(h:(w.alloc o).grownBy w' row):w.grownBy w' row :=
 ⟨h.os,h.tape,h.output,by have:=h.size;simp at this;omega,fun k hk hr=>(h.block k (by simp;omega) hr).trans (j6 w o k hk)⟩
theorem vp (n:Nat):((jZ n).toNat:Int)=((n % 256:Nat):Int):=by
 unfold jZ;simp
theorem yR (base:Nat)(v:Value)(l:List UInt8)(n:Int)(w:World)(hown:w.ownsRow base 5 1 v l.length (eZ l))(hb:base<=w.heap.size)(h1 : -1<=n)(h2:n<=65534)(hl:l.length<=100000) :
  Calls prog 157 #[v,.int .i64 n] w fun e w'=>∃ v',e=.returned v'/\w'.ownsRow base 5 1 v' (l++gX n).length (eZ (l++gX n))/\w.grownBy w' v.ownBlock:=by
 go_enter func157,ntmps157;go_wp2_with (at_builtin;refine H7 rfl _ _ rfl base _ _ rfl (hown.alloc _) w.heap.size 2 2 (gX n) rfl rfl ?hnews ?h63 ?hbase ?_)
 case hnews =>
  intro j hj;match j,hj with
  | 0,_=>simp[gX,vp];omega
  | 1,_=>simp[gX,vp];omega
 case h63=>omega
 case hbase=>simp;omega
 intro v' w1 h3 h4;go_wp2;go_ret;exact⟨_,rfl,by simpa using h3,tS h4⟩
theorem Kh (base:Nat)(v:Value)(l:List UInt8)(n:Int)(w:World)(hown:w.ownsRow base 5 1 v l.length (eZ l))(hb:base<=w.heap.size)(hl:l.length<=100000) :
  Calls prog 157 #[v,.int .i64 n] w fun e w'=>∃ v' l',l'.length=2/\e=.returned v'/\w'.ownsRow base 5 1 v' (l++l').length (eZ (l++l'))/\w.grownBy w' v.ownBlock:=by
 go_enter func157,ntmps157;go_wp2_with (at_builtin;refine H7 rfl _ _ rfl base _ _ rfl (hown.alloc _) w.heap.size 2 2 [UInt8.ofNat (wrap64 (n+1) / 256 % 256).toNat,UInt8.ofNat (wrap64 (n+1) % 256).toNat] rfl rfl ?hnews ?h63 ?hbase ?_)
 case hnews =>
  intro j hj;match j,hj with
  | 0,_=>simp;omega
  | 1,_=>simp;omega
 case h63=>omega
 case hbase=>simp;omega
 intro v' w1 h3 h4;go_wp2;go_ret;refine⟨_,[UInt8.ofNat (wrap64 (n+1) / 256 % 256).toNat,UInt8.ofNat (wrap64 (n+1) % 256).toNat],rfl,rfl, ?_,tS h4⟩
 rw[bG];exact h3
theorem Ki (base:Nat)(v:Value)(l:List UInt8)(n:Int)(w:World)(hown:w.ownsRow base 5 1 v l.length (eZ l))(hb:base<=w.heap.size)(hl:l.length<=100000) :
  Calls prog 157 #[v,.int .i64 n] w fun e w'=>∃ v' l',(l'.length=2/\(db n=true->l'=gX n))/\e=.returned v'/\w'.ownsRow base 5 1 v' (l++l').length (eZ (l++l'))/\w.grownBy w' v.ownBlock:=by
 by_cases h:db n=true
 ·obtain⟨h1,h2⟩:=(rJ n).1 h
  refine (yR base v l n w hown hb h1 h2 hl).mono ?_
  rintro e w' ⟨v',rfl,ho,hg⟩;exact⟨v',_,⟨rfl,fun _=>rfl⟩,rfl,ho,hg⟩
 ·refine (Kh base v l n w hown hb hl).mono ?_
  rintro e w' ⟨v',l',hl',rfl,ho,hg⟩;exact⟨v',l',⟨hl',fun h'=>absurd h' h⟩,rfl,ho,hg⟩
end Go.Proofs.YtgieeeeeiggoeaaGreat
