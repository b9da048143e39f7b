import Derived.Test.YtgieeeeeiggoeaaGreatD09
import Derived.Deep.AppendLies
import Derived.Deep.RegionLaw
import Derived.Maps.Own
import Derived.Shelf.RegionOpenPlain
import Derived.Lib.SliceRun
set_option maxRecDepth 1000000
set_option maxHeartbeats 4000000
namespace Go.Proofs.YtgieeeeeiggoeaaGreat
open Go.RowKit
open Tryz
theorem Hd (L:List UInt8)(i:Int)(k:Nat)(hi:i=k)(hk:k<=L.length):∀ w,(Instr.slice 9 (.string (bs L)) none (some (.int .i64 i)) none).run prog w=.ok (.string (bs (L.take k))) w:=by
 intro w;subst hi;have hs:=iy L;have hx:=zc L k;have hk':(k:Int)<=(L.length:Int):=by omega
 have h0:(0:Int)<=k:=by omega
 go_simp
theorem Ha (L:List UInt8)(i:Int)(k:Nat)(hi:i=k)(hk:k<=L.length):∀ w,(Instr.slice 9 (.string (bs L)) (some (.int .i64 i)) none none).run prog w=.ok (.string (bs (L.drop k))) w:=by
 intro w;subst hi;have hs:=iy L;have hx:=zb L k;have hk':(k:Int)<=(L.length:Int):=by omega
 have h0:(0:Int)<=k:=by omega
 go_simp
theorem US (L:List UInt8)(w:World)(h:L.length<21) :
  Calls prog 117 #[.string (bs L)] w fun e w'=>ai w w'/\e=.returned (.tuple #[.agg #[(),(),(),(),(),(),(),(),true,true],.int .i64 1]):=by
 have hs:=iy L;go_enter func117,ntmps117;go_wp2_with fail;exact dB (v:=.tuple #[.agg #[(),(),(),(),(),(),(),(),true,true],.int .i64 1]) (by simp[results,results117,go_sem]) rfl ⟨(ax _ _).alloc (aG _) _,rfl⟩
theorem obs {w:World}{base base' size n:Nat}{e:TypeId}{v:Value}{xs:List Value}(h:w.ownsRow base e size v n xs)(hb:base'<=base):w.ownsRow base' e size v n xs:=by
 refine⟨h.1, ?_⟩
 rcases h.2 with h0|⟨g,cap,cur,hv,hg,rest⟩
 ·exact .inl h0
 ·exact .inr ⟨g,cap,cur,hv,bP hb hg,rest⟩
theorem aM {w:World}{base size n:Nat}{e:TypeId}{v:Value}{xs:List Value}(h:w.ownsRow base e size v n xs):∃ a cap,v=.slice a n cap:=by
 rcases h.2 with ⟨h1,h0⟩|⟨g,cap,_,hv,_⟩
 ·exact⟨none,0,by rw[h1,h0]⟩
 ·exact⟨_,cap,hv⟩
def CO (T:List UInt8)(w:World)(e:Ending)(w':World):Prop :=
 (kQ T=true/\∃ mem log,w'.ownsRow (w.heap.size+1) 3 1 mem (gu T).length (aJ (gu T))/\w'.ownsRow (w.heap.size+1) 42 5 log (fD T).length (aJ (bk (fD T))) /\
  e=.returned (.tuple #[.agg #[.int .i64 (fa T),.int .i64 (bo T 1),.int .i64 (bo T 3),.int .i64 (bo T 5),.int .i64 (bo T 7),.int .i64 (bo T 9),.int .i64 (bo T 11),.int .i64 (bo T 13),mem,log],()])) \/
 (kQ T=false/\e=.returned (.tuple #[.agg #[(),(),(),(),(),(),(),(),true,true],.int .i64 1]))
theorem UU (L T:List UInt8)(w:World)(h:21<=L.length)(hm:L.length<=140737488355328)(hT:T=L.take (L.length-4))(hno:L.drop (L.length-4)≠h_ T) :
  Calls prog 117 #[.string (bs L)] w fun e w'=>ai w w'/\e=.returned (.tuple #[.agg #[(),(),(),(),(),(),(),(),true,true],.int .i64 2]):=by
 have hs:=iy L;have hx:=Hd L ((L.length:Int)-4) (L.length-4) (by omega) (by omega)
 rw[<- hT] at hx;have hy:=Ha L ((L.length:Int)-4) (L.length-4) (by omega) (by omega)
 have hw4:IntKind.i64.wrap ((L.length:Int)-4)=(L.length:Int)-4:=by
  rw[show ((L.length:Int)-4)=((L.length-4:Nat):Int) by omega];exact nk _ (by omega)
 have qZ:T.length<=140737488355328:=by rw[hT,dA];omega
 clear hT;obtain⟨W,hW,hb0,hsz,q,fz⟩:=fI w #[(),(),(),(),(),(),(),(),true,true] 134;go_enter func117,ntmps117;go_wp2_with fail;clear hW;go_region_held3 (fun _=>True) (trivial) (fail)
 go_wp2_with fail;refine (BR (bs T) _ (by rw[iy];unfold maxLen;omega)).mono ?_
 rintro e w5 ⟨rfl,hb5⟩;rw[gS];have dt:ai W w5:=(ax W.heap.size W).drew.trans (by exact hb5)
 obtain⟨q',pS⟩:=wg dt hsz q fz;have hbw:=hb0.trans (dt.mono hb0.size);have hne:((bs (L.drop (L.length-4))).toList == (bs (h_ T)).toList)=false:=by rw[tO];exact ee hno
 clear q fz hsz hx hy;go_wp2_with fail;refine dB (v:=.tuple #[.agg #[(),(),(),(),(),(),(),(),true,true],.int .i64 2]) (by simp[results,results117,go_sem,q']) rfl ⟨?_,rfl⟩
 iterate 10 refine eE ?_ (by exact aG _) _
 exact hbw
theorem UW (L T:List UInt8)(w:World)(h:21<=L.length)(hm:L.length<=140737488355328)(hT:T=L.take (L.length-4))(hyes:L.drop (L.length-4)=h_ T) :
  Calls prog 117 #[.string (bs L)] w fun e w'=>ai w w'/\CO T w e w':=by
 have hs:=iy L;have hx:=Hd L ((L.length:Int)-4) (L.length-4) (by omega) (by omega)
 rw[<- hT] at hx;have hy:=Ha L ((L.length:Int)-4) (L.length-4) (by omega) (by omega)
 have hw4:IntKind.i64.wrap ((L.length:Int)-4)=(L.length:Int)-4:=by
  rw[show ((L.length:Int)-4)=((L.length-4:Nat):Int) by omega];exact nk _ (by omega)
 have qZ:T.length<=140737488355328:=by rw[hT,dA];omega
 have Nd:17<=T.length:=by rw[hT,dA];omega
 clear hT;obtain⟨W,hW,hb0,hsz,q,fz⟩:=fI w #[(),(),(),(),(),(),(),(),true,true] 134;go_enter func117,ntmps117;go_wp2_with fail;clear hW;go_region_held3 (fun _=>True) (trivial) (fail)
 go_wp2_with fail;refine (BR (bs T) _ (by rw[iy];unfold maxLen;omega)).mono ?_
 rintro e w5 ⟨rfl,hb5⟩;rw[gS];have dt:ai W w5:=(ax W.heap.size W).drew.trans (by exact hb5)
 obtain⟨q',pS⟩:=wg dt hsz q fz;have hbw:=hb0.trans (dt.mono hb0.size);have hne:((bs (L.drop (L.length-4))).toList == (bs (h_ T)).toList)=true:=by rw[tO];exact eR hyes
 have i0:=sJ T 0 0 rfl (by omega)
 have hb256:=lC T 0;have hwT:w.heap.size<w5.heap.size:=by have:=dt.size;omega
 clear q fz hsz hx hy hw4;go_wp2_with fail;refine (Q0 T _ Nd qZ).mono ?_
 rintro e w6 ⟨rfl,rfl⟩;by_cases hok:kQ T=true
 ·obtain⟨hk,eC,On,hlen,wR⟩:=DJ hok
  have jB:(ld T).2.2=true:=by rw[wR]
  have hHk:Hid (ld T=(bn T 15,bn T (16+2*bn T 15),true)):=wR;rw[wR];have HKK:Hid (j7 (bn T 0:Nat)=true):=hk;have hok':Hid (kQ T=true):=hok;clear wR jB hk hok;have HE:Hid (fD T=kR T (17+2*bn T 15) (bn T (16+2*bn T 15))):=rfl;have HM:Hid (gu T=eD T 16 (bn T 15)):=rfl;go_wp2_with fail;refine (sK _ _).mono ?_
  rintro e w7 ⟨rfl,rfl⟩;rw[HKK.out];go_wp2_with fail;refine (Sq T _ _ _ eC On hlen).mono ?_
  rintro e w8 ⟨mn,mem,log,rfl,om,ol⟩;have r1:∀ j,w8.cell? ⟨w.heap.size,j,none⟩=#[.int .i64 0,.int .i64 0,.int .i64 0,.int .i64 0,.int .i64 0,.int .i64 0,.int .i64 0,.int .i64 0,.slice none 0 0,.slice none 0 0][j]?:=fun j=>(mn.cell (p:=⟨w.heap.size,j,none⟩) hwT).trans (q' j);have r2:∀ j,w8.frozen? ⟨w.heap.size,j,none⟩=false:=fun j=>(mn.frozen (p:=⟨w.heap.size,j,none⟩) hwT).trans (pS j);have Nx:=hbw.trans (mn.mono hbw.size);obtain⟨am,cm,dG⟩:=aM om;obtain⟨al,cl,hvl⟩:=aM ol;rw[dG,hvl];have Jv:Hid (mem=.slice am (bn T 15) cm):=dG;have CI:Hid (log=.slice al (bn T (16+2*bn T 15)) cl):=hvl;clear dG hvl i0 q' pS;go_wp2_with fail;refine dB (v:=.tuple #[.agg #[.int .i64 (fa T),.int .i64 (bo T 1),.int .i64 (bo T 3),.int .i64 (bo T 5),.int .i64 (bo T 7),.int .i64 (bo T 9),.int .i64 (bo T 11),.int .i64 (bo T 13),mem,log],()]) (by simp[results,results117,go_sem,r1,Jv.out,CI.out]) rfl ⟨?_,.inl ⟨hok'.out,mem,log, ?_, ?_,rfl⟩⟩
  ·iterate 10 refine eE ?_ (by exact aG _) _
   exact Nx
  ·iterate 10 refine bC ?_ (by exact Nat.lt_succ_self _) _
   rw[HM.out,uT];exact obs om (by omega)
  ·iterate 10 refine bC ?_ (by exact Nat.lt_succ_self _) _
   rw[HE.out,zm];exact obs ol (by omega)
 ·have hfin:∀ w',CO T w (.returned (.tuple #[.agg #[(),(),(),(),(),(),(),(),true,true],.int .i64 1])) w':=fun w'=>.inr ⟨by simpa using hok,rfl⟩
  cases hm:(ld T).2.2 with
  | false =>
   go_wp2_with fail;refine dB (v:=.tuple #[.agg #[(),(),(),(),(),(),(),(),true,true],.int .i64 1]) (by simp[results,results117,go_sem,q']) rfl ⟨?_,hfin _⟩
   iterate 10 refine eE ?_ (by exact aG _) _
   exact hbw
  | true =>
   have hk:Hid (j7 (bn T 0:Nat)=false):=LS hok hm;go_wp2_with fail;refine (sK _ _).mono ?_
   rintro e w7 ⟨rfl,rfl⟩;rw[hk.out];go_wp2_with fail;refine dB (v:=.tuple #[.agg #[(),(),(),(),(),(),(),(),true,true],.int .i64 1]) (by simp[results,results117,go_sem,q']) rfl ⟨?_,hfin _⟩
   iterate 10 refine eE ?_ (by exact aG _) _
   exact hbw
section
variable {P:Program} (w:World)
theorem Tr (t ty:TypeId)(base:Nat)(e:TypeId)(i:TypeInfo)(z:Value)(size bytes:Nat)(ht:P.underlying t=some (.slice e))(hi:P.info? e=some i)(hz:i.zero=some z)
  (hsize:i.size=size) (hby:i.bytes=bytes) (hzs:z.cells.size=size) (hsz:0<size)
  (v:Value) (n:Nat) (xs:List Value) (hown:w.ownsRow base e size v n xs)
  (ad:Addr) (m c:Nat) (news:List Value) (hl:news.length=m*size) (hnews:∀ j u,news[j]?=some u->w.cell? (ad.add j)=some u) (h1:∀ u∈news,u.oneCell'=true)
  (hm:0<m) (h63:n+m<=maxLen) (hbytes:(n+m)*bytes<=140737488355328) (hbase:base<=w.heap.size) :
  ∃ g cap w',(Builtin.append_ #[t,t] ty #[v,.slice (some ad) m c]).run P w=.ok (.slice (some ⟨g,0,none⟩) (n+m) cap) w' /\
   w'.ownsRow base e size (.slice (some ⟨g,0,none⟩) (n+m) cap) (n+m) (xs++news)/\w.grownBy w' v.ownBlock/\w'.ownsRow base e size v n xs/\(v.ownBlock=some g\/g=w.heap.size):=by
 obtain⟨g,cap,w',hr,h2,h3,h4,h5⟩:=run_append_lies (P:=P) w t ty base e i z size bytes ht hi hz hsize hby hzs hsz v n xs hown ad m c news hl hnews h1 hm h63 hbytes hbase _ rfl;refine⟨g,cap,w',hr,h2,h3, ?_,h4⟩
 have hsmall:n+m<=9223372036854775807:=by simp only [maxLen] at h63;omega
 rcases hown.2 with ⟨rfl,rfl⟩|⟨g0,cap0,cur,rfl,hbg,hg,hnc,hcm,hcs,htake⟩
 ·exact⟨hown.1,.inl ⟨rfl,rfl⟩⟩
 ·by_cases hroom:n+m<=cap0
  ·have hfit:n*i.size+news.length<=cur.size:=by rw[hl,hcs,hsize, <- Nat.add_mul];exact Nat.mul_le_mul_right _ hroom
   have hr2:=run_append_room (P:=P) w t ty e i ht hi g0 n cap0 cur hg ad m c news (by rw[hsize];exact hl) hnews h1 hroom hfit
   rw[hr2] at hr;injection hr with hv hw
   subst hw;refine⟨hown.1,.inr ⟨g0,cap0,_,rfl,hbg,setRow_heap w g0 cur _ e _ hg,hnc,hcm, ?_, ?_⟩⟩
   ·simp only [jr,bG,dA,iQ,Array.length_toList]
    omega
   ·have hlen:xs.length=n*size:=hown.1
    rw[hsize,htake,eH];simp only [];rw[<- hlen];exact List.take_left
  ·have holds:∀ j u,xs[j]?=some u->w.cell? ((⟨g0,0,none⟩:Addr).add j)=some u:=hown.cells (g:=g0) rfl
   have hr2:=run_append_grow (P:=P) w t ty e i z ht hi hz ⟨g0,0,none⟩ n cap0 xs (by rw[hsize];exact hown.1) holds ad m c news (by rw[hsize];exact hl) hnews (by omega) (by omega) (growslice_fits (by omega) (by rw[hby];exact hbytes))
   rw[hr2] at hr;injection hr with hv hw
   subst hw;refine⟨hown.1,.inr ⟨g0,cap0,cur,rfl,hbg, ?_,hnc,hcm,hcs,htake⟩⟩
   rw[j6 w.drew _ g0 (aQ hg)];exact hg
theorem vx {ops:Array Oper}{rest:List Oper}{o:Oper}{a:Act}{Q:Exit->Act->World->Prop}(hgd:o.guard=none)(s x:Operand)(t:TypeId)
  (ho:o.op=.call { callee:=.builtin .append,args:=#[s,x],argTypes:=#[t,t] })
  (base:Nat) (e:TypeId) (i:TypeInfo) (z:Value) (size bytes:Nat) (ht:P.underlying t=some (.slice e)) (hi:P.info? e=some i) (hz:i.zero=some z)
  (hsize:i.size=size) (hby:i.bytes=bytes) (hzs:z.cells.size=size) (hsz:0<size)
  (v:Value) (n:Nat) (xs:List Value) (hs:a.eval s=v) (hown:w.ownsRow base e size v n xs)
  (ad:Addr) (m c:Nat) (news:List Value) (hx:a.eval x=.slice (some ad) m c) (hl:news.length=m*size) (hnews:∀ j u,news[j]?=some u->w.cell? (ad.add j)=some u) (h1:∀ u∈news,u.oneCell'=true)
  (hm:0<m) (h63:n+m<=maxLen) (hbytes:(n+m)*bytes<=140737488355328) (hbase:base<=w.heap.size)
  (h:∀ g cap w',w'.ownsRow base e size (.slice (some ⟨g,0,none⟩) (n+m) cap) (n+m) (xs++news)->w.grownBy w' v.ownBlock->w'.ownsRow base e size v n xs->(v.ownBlock=some g\/g=w.heap.size)->wpList P ops Q rest (a.put o.dst (.slice (some ⟨g,0,none⟩) (n+m) cap)) w'):wpList P ops Q (o :: rest) a w:=by
 refine wpList_plain hgd fun _ hK => ?_
 obtain⟨g,cap,w',hr,h2,h3,h4,h5⟩:=Tr (P:=P) w t o.type base e i z size bytes ht hi hz hsize hby hzs hsz v n xs hown ad m c news hl hnews h1 hm h63 hbytes hbase;unfold Oper.wp execOp;simp only [ho,resolve,invoke,builtin,Sem.run_bind,Sem.run_pure,Result.andThen_ok,List.map_toArray,List.map_cons,List.map_nil,hs,hx,hr];exact hK _ _ (h g cap w' h2 h3 h4 h5)
end
theorem nc {w w':World}{Da qJ:Nat}{e1 e2:TypeId}{size n1 n2:Nat}{v1 v2:Value}{te tf:List Value}(h1:w.ownsRow Da e1 size v1 n1 te)(h2:w.ownsRow qJ e2 size v2 n2 tf)
  (hg:w.grownBy w' v2.ownBlock) (h2':w'.ownsRow qJ e2 size v2 n2 tf) (hle:n1<=n2) (hs:0<size):w'.ownsRow Da e1 size v1 n1 te:=by
 rcases h1.2 with ⟨rfl,rfl⟩|⟨g1,tK,LP,rfl,hb1,hg1,hn1,hc1,hs1,ht1⟩
 ·exact⟨h1.1,.inl ⟨rfl,rfl⟩⟩
 ·by_cases he:v2.ownBlock=some g1
  ·rcases h2.2 with ⟨rfl,rfl⟩|⟨g2,cap2,Vs,rfl,hb2,hg2,hn2,hc2,hs2,ht2⟩
   ·cases he
   ·have hgg:g2=g1:=by simpa [Value.ownBlock] using he
    subst hgg;rw[hg1] at hg2;cases hg2;have hcap:tK=cap2:=Nat.eq_of_mul_eq_mul_right hs (by rw[<- hs1, <- hs2])
    subst hcap;rcases h2'.2 with ⟨h0,_⟩|⟨g3,Vp,zj,hv3,hb3,hg3,At,hc3,hs3,ht3⟩
    ·cases h0
    ·cases hv3
     refine⟨h1.1,.inr ⟨_,_,zj,rfl,hb1,hg3,hn1,hc1,hs3, ?_⟩⟩
     have e1:zj.toList.take (n1*size)=(zj.toList.take (n2*size)).take (n1*size):=by
      rw[List.take_take,Nat.min_eq_left (Nat.mul_le_mul_right _ hle)]
     rw[e1,ht3, <- ht2,List.take_take,Nat.min_eq_left (Nat.mul_le_mul_right _ hle),ht1]
  ·refine⟨h1.1,.inr ⟨g1,tK,LP,rfl,hb1, ?_,hn1,hc1,hs1,ht1⟩⟩
   rw[hg.block g1 (aQ hg1) (fun h=>he h.symm)];exact hg1
structure Moved (w w':World)(S:Nat->Prop):Prop where
 os:w'.os=w.os
 tape:w'.tape=w.tape
 output:w'.output=w.output
 size:w.heap.size<=w'.heap.size
 block:∀ k,k<w.heap.size->¬ S k->w'.heap[k]?=w.heap[k]?
theorem Moved.refl (w:World)(S:Nat->Prop):Moved w w S:=⟨rfl,rfl,rfl,aG _,fun _ _ _=>rfl⟩
theorem Moved.trans {w w1 w2:World}{S S':Nat->Prop}(h:Moved w w1 S)(h':Moved w1 w2 S')(hs:∀ k,k<w.heap.size->S' k->S k):Moved w w2 S :=
 ⟨h'.os.trans h.os,h'.tape.trans h.tape,h'.output.trans h.output,bP h.size h'.size,fun k hk hS=>(h'.block k (j5 hk h.size) (fun h2=>hS (hs k hk h2))).trans (h.block k hk hS)⟩
theorem Moved.grown {w w1 w2:World}{S:Nat->Prop}{row:Option Nat}(h:Moved w w1 S)(h':w1.grownBy w2 row)(hs:∀ k,k<w.heap.size->row=some k->S k):Moved w w2 S :=
 h.trans (S':=fun k=>row=some k) ⟨h'.os,h'.tape,h'.output,h'.size,fun k hk hS=>h'.block k hk (fun e=>hS e.symm)⟩ hs
theorem Moved.alloc {w w1:World}{S:Nat->Prop}(h:Moved w w1 S)(o:Obj):Moved w (w1.alloc o) S :=
 h.trans (S':=fun _=>False) ⟨rfl,rfl,rfl,by simp,fun k hk _=>j6 _ _ k hk⟩ (fun _ _ h=>h.elim)
theorem Moved.setCell {w w1:World}{S:Nat->Prop}(h:Moved w w1 S)(p:Addr)(hp:S p.block)(u:Value):Moved w (w1.setCell p u) S :=
 h.trans (S':=fun k=>k=p.block) ⟨rfl,rfl,rfl,by simp,fun k _ hS=>cJ _ _ _ k hS⟩ (fun k _ e=>e ▸ hp)
theorem Moved.drew {w w1:World}{S:Nat->Prop}(h:Moved w w1 S):Moved w w1.drew S:=⟨h.os,h.tape,h.output,h.size,h.block⟩
theorem Moved.below {w w1 w2:World}{S:Nat->Prop}(h:Moved w w1 S)(h':ai w1 w2):Moved w w2 S :=
 h.trans (S':=fun _=>False) ⟨h'.os,h'.tape,h'.output,h'.size,fun k hk _=>h'.block k hk⟩ (fun _ _ h=>h.elim)
theorem Moved.jg {w w':World}{S:Nat->Prop}{B:Nat}(h:Moved w w' S)(hS:∀ k,S k->B<=k)(hB:B<=w.heap.size):Below B w w' :=
 ⟨h.os,h.tape,h.output,h.size,fun k hk=>h.block k (j5 hk hB) (fun hs=>by have:=hS k hs;omega)⟩
theorem Moved.owns {w w':World}{S:Nat->Prop}{base size n:Nat}{e:TypeId}{v:Value}{xs:List Value}(h:Moved w w' S)(ho:w.ownsRow base e size v n xs)(hv:∀ k,v.ownBlock=some k->¬ S k):w'.ownsRow base e size v n xs:=by
 refine⟨ho.1, ?_⟩
 rcases ho.2 with h0|⟨g,cap,cur,rfl,hb,hg,rest⟩
 ·exact .inl h0
 ·exact .inr ⟨g,cap,cur,rfl,hb,(h.block g (aQ hg) (hv g rfl)).trans hg,rest⟩
theorem bM {w:World}{b1 b2 s1 s2 n1 n2:Nat}{e1 e2:TypeId}{v1 v2:Value}{te tf:List Value}(h1:w.ownsRow b1 e1 s1 v1 n1 te)(h2:w.ownsRow b2 e2 s2 v2 n2 tf)(he:e1≠e2):∀ k,v1.ownBlock=some k->v2.ownBlock≠some k:=by
 intro k hk hk2;rcases h1.2 with ⟨rfl,_⟩|⟨g1,_,_,rfl,_,hg1,_⟩
 ·cases hk
 ·rcases h2.2 with ⟨rfl,_⟩|⟨g2,_,_,rfl,_,hg2,_⟩
  ·cases hk2
  ·have qL:g1=k:=by simpa [Value.ownBlock] using hk
   have e2':g2=k:=by simpa [Value.ownBlock] using hk2
   subst qL e2';rw[hg1] at hg2;injection hg2 with h
   injection h with _ h
   exact he h
end Go.Proofs.YtgieeeeeiggoeaaGreat
namespace Go.Proofs.YtgieeeeeiggoeaaGreat
open Go.RowKit
open Tryz
def kd (k:Int):List (Int × Value)->Nat->Option (Nat × Value)
 | [],_=>none
 | p :: l,i=>if k=p.1 then some (i,p.2) else kd k l (i+1)
def kF (l:List (Int × Value))(k:Int):Option Value:=(kd k l 0).map Prod.snd
def sU (l:List (Int × Value))(k:Int)(v:Value):List (Int × Value) :=
 match kd k l 0 with
 | some (j,_)=>l.set j (k,v)
 | none=>l++[(k,v)]
theorem BE (k:Int):∀ (l:List (Int × Value)) (i:Nat),(kd k l i).map Prod.snd=(kd k l 0).map Prod.snd
 | [],_=>rfl
 | p :: l,i=>by
  unfold kd;split
  ·rfl
  ·rw[BE k l (i+1),BE k l (0+1)]
theorem rG (p:Int × Value)(l:List (Int × Value))(k:Int):kF (p :: l) k=if k=p.1 then some p.2 else kF l k:=by
 unfold kF;rw[show kd k (p :: l) 0=if k=p.1 then some (0,p.2) else kd k l 1 from rfl]
 split
 ·rfl
 ·exact BE k l 1
theorem BF (k:Int):∀ (l:List (Int × Value)) (i j:Nat) (v:Value),kd k l i=some (j,v)->∃ d,j=i+d/\l[d]?=some (k,v)/\∀ x u,kF (l.set d (k,u)) x=if x=k then some u else kF l x
 | [],_,_,_,h=>by cases h
 | p :: l,i,j,v,h=>by
  unfold kd at h;split at h
  ·rename_i hk
   cases h;refine⟨0,rfl,by simp[hk],fun x u => ?_⟩
   rw[fT,rG,rG,hk];by_cases hx:x=p.1
   ·simp[hx]
   ·simp[hx]
  ·rename_i hk
   obtain⟨d,h1,h2,h3⟩:=BF k l (i+1) j v h;refine⟨d+1,by omega,by simpa using h2,fun x u => ?_⟩
   rw[ir,rG,rG,h3];by_cases hx:x=p.1
   ·rw[if_pos hx,if_pos hx,if_neg (fun e=>hk (by rw[<- e,hx]))]
   ·rw[if_neg hx,if_neg hx]
theorem GS (k:Int):∀ (l:List (Int × Value)) (i:Nat),kd k l i=none->∀ x u,kF (l++[(k,u)]) x=if x=k then some u else kF l x
 | [],_,_,x,u=>by
  rw[fH,rG]
 | p :: l,i,h,x,u=>by
  unfold kd at h;split at h
  ·cases h
  ·rename_i hk
   rw[js,rG,rG,GS k l (i+1) h];by_cases hx:x=p.1
   ·rw[if_pos hx,if_pos hx,if_neg (fun e=>hk (by rw[<- e,hx]))]
   ·rw[if_neg hx,if_neg hx]
theorem Qi (l:List (Int × Value))(k:Int)(v:Value)(x:Int):kF (sU l k v) x=if x=k then some v else kF l x:=by
 unfold sU;split
 ·rename_i j u h
  obtain⟨d,h1,_,h3⟩:=BF k l 0 j u h;rw[show j=d by omega]
  exact h3 x v
 ·rename_i h
  exact GS k l 0 h x v
def ng (w:World)(b:Nat)(l:List (Int × Value)):Prop :=
 ∃ es clock,w.heap[b]?=some (.map es clock)/\es.toList.map (fun e=>(e.key,e.val))=l.map (fun p=>(Value.int .i64 p.1,p.2))
theorem ng.keep {w w':World}{b:Nat}{l:List (Int × Value)}(h:ng w b l)(hk:w'.heap[b]?=w.heap[b]?):ng w' b l:=by
 obtain⟨es,c,h1,h2⟩:=h;exact⟨es,c,hk.trans h1,h2⟩
theorem DU (k:Int):∀ (es:List MapEntry) (l:List (Int × Value)) (i:Nat),es.map (fun e=>(e.key,e.val))=l.map (fun p=>(Value.int .i64 p.1,p.2))->Instr.findNow (.int .i64) (.int .i64 k) es i=some (kd k l i)
 | [],l,i,h=>by
  cases l with
  | nil=>rfl
  | cons p l=>cases h
 | e :: es,l,i,h=>by
  cases l with
  | nil=>cases h
  | cons p l =>
   simp only [List.map_cons,List.cons.injEq,Prod.mk.injEq] at h;obtain⟨⟨h1,h2⟩,h3⟩:=h;unfold Instr.findNow kd;rw[h1];by_cases hk:k=p.1
   ·simp[Instr.sameNow,hk,h2]
   ·have hb:(k == p.1)=false:=by simpa using hk
    simp only [Instr.sameNow,hb,if_true,if_neg hk];exact DU k es l (i+1) h3
theorem BA (w:World)(k:Int)(es:List MapEntry)(l:List (Int × Value))(h:es.map (fun e=>(e.key,e.val))=l.map (fun p=>(Value.int .i64 p.1,p.2))):(Instr.findKey 3 (.int .i64 k) es).run prog w=.ok (kd k l 0) w:=by
 unfold Instr.findKey;simp only [Sem.run_bind,run_underlying underlying3,Result.andThen];rw[DU k es l 0 h];rfl
theorem Tv (w:World)(b:Nat)(l:List (Int × Value))(k:Int)(h:ng w b l):(Instr.lookup 155 (.map (some b)) (.int .i64 k) true).run prog w =
  .ok (.tuple #[(kF l k).getD (.agg #[(),(),true,true]),.bool (kF l k).isSome]) w:=by
 obtain⟨es,clock,h1,h2⟩:=h;have hz:(zeroValue 310).run prog w=.ok (.agg #[(),(),true,true]) w:=by kernel_rfl
 have hc:(Instr.checkKey es.isEmpty 10000 3 (.int .i64 k)).run prog w=.ok () w:=MapKept.run_checkKey underlying3 (by simp[MapKept.IsKey]) _ 9999
 unfold Instr.lookup;simp only [Sem.run_bind,run_underlying underlying155,MapKept.run_getObj_map h1,Result.andThen,Sem.run_pure,hc,BA w k es.toList l h2];unfold kF;cases hs:kd k l 0 with
 | none=>simp[hz]
 | some p=>simp
theorem GR (w:World)(b:Nat)(l:List (Int × Value))(k:Int)(v:Value)(h:ng w b l):∃ w',(Instr.mapUpdate 155 (.map (some b)) (.int .i64 k) v).run prog w=.ok () w'/\ng w' b (sU l k v)/\Moved w w' (fun x=>x=b):=by
 obtain⟨es,clock,h1,h2⟩:=h;have hc:(Instr.checkKey false 10000 3 (.int .i64 k)).run prog w=.ok () w:=MapKept.run_checkKey underlying3 (by simp[MapKept.IsKey]) _ 9999
 have hm:∀ o:Obj,Moved w (ChangeMaps.setBlock w b o) (fun x=>x=b):=fun o=>⟨rfl,rfl,rfl,by simp[ChangeMaps.setBlock],fun x _ hx=>ChangeMaps.heap_setBlock_other h1 o hx⟩
 unfold Instr.mapUpdate sU;cases hs:kd k l 0 with
 | none =>
  refine⟨_, ?_,⟨_,_,ChangeMaps.heap_setBlock_same h1 (.map (es.push { key:=.int .i64 k,val:=v,born:=clock }) (clock+1)), ?_⟩,hm _⟩
  ·simp only [Sem.run_bind,run_underlying underlying155,MapKept.run_getObj_map h1,Result.andThen,hc,BA w k es.toList l h2,hs,MapKept.run_setObj_map _ h1]
   rfl
  ·simp[h2]
 | some q =>
  obtain⟨j,u⟩:=q;obtain⟨d,e1,e2, -⟩:=BF k l 0 j u hs;obtain rfl:j=d:=by omega
  have hj:(es.toList.map (fun e=>(e.key,e.val)))[j]?=some (.int .i64 k,u):=by rw[h2,fe,e2];rfl
  rw[fe] at hj;obtain⟨e,he,hee⟩:∃ e,es.toList[j]?=some e/\(e.key,e.val)=(.int .i64 k,u):=by
   cases h9:es.toList[j]? with
   | none=>rw[h9] at hj;cases hj
   | some e=>rw[h9] at hj;simp at hj;exact⟨e,rfl,by simp[hj]⟩
  have hke:e.key=.int .i64 k:=by simp at hee;exact hee.1
  have hk2:((es[j]?).map (·.key)).getD (.int .i64 k)=.int .i64 k:=by
   rw[show es[j]?=some e by simpa using he]
   simp[hke]
  have hst:(Instr.keyThatStays (.int .i64 k) (.int .i64 k)).run prog w=.ok (.int .i64 k) w:=MapKept.run_keyThatStays (d:=.int .i64) (by simp[MapKept.IsKey])
  refine⟨_, ?_,⟨_,_,ChangeMaps.heap_setBlock_same h1 (.map (es.modify j fun e=>{ e with key:=.int .i64 k,val:=v }) clock), ?_⟩,hm _⟩
  ·simp only [Sem.run_bind,run_underlying underlying155,MapKept.run_getObj_map h1,Result.andThen,hc,BA w k es.toList l h2,hs,hk2,hst,MapKept.run_setObj_map _ h1]
   rfl
  ·have hjl:j<es.size:=by
    have:=(dI.1 he).1
    simpa using this
   rw[Array.toList_modify];apply List.ext_getElem?;intro i;rw[fe,fe,List.getElem?_set,List.getElem?_modify]
   have hi:(es.toList[i]?).map (fun e=>(e.key,e.val))=(l[i]?).map (fun p=>(Value.int .i64 p.1,p.2)):=by
    rw[<- fe,h2,fe]
   by_cases hij:j=i
   ·subst hij
    have hl:j<l.length:=(dI.1 e2).1;rw[he];simp[hl]
   ·simp only [if_neg hij]
    rw[<- hi];cases es.toList[i]?<;>rfl
end Go.Proofs.YtgieeeeeiggoeaaGreat
namespace Go.Proofs.YtgieeeeeiggoeaaGreat
open Go.RowKit Go.Shelf
open Tryz
theorem uj (g:Nat)(T:TypeId):∀ (vs:List Value) (o:Nat) (w:World) (cs:Array Value),w.heap[g]?=some (.cells cs T)->o+vs.length<=cs.size ->
  ∃ cs',(w.setCells g o vs).heap[g]?=some (.cells cs' T)/\cs'.toList=cs.toList.take o++vs++cs.toList.drop (o+vs.length)
 | [],o,w,cs,h,_=>⟨cs,h,by simp⟩
 | v :: r,o,w,cs,h,hl=>by
  simp only [eu] at hl;have h1:=bV w g o cs T v h;obtain⟨cs',h2,h3⟩:=uj g T r (o+1) _ _ h1 (by simp;omega)
  refine⟨cs',h2, ?_⟩
  rw[h3];have e:(cs.setIfInBounds o v).toList=cs.toList.set o v:=by simp
  rw[e,List.take_set,List.drop_set];have ho:o<cs.toList.length:=by simp;omega
  rw[if_pos (by omega)]
  rw[nU ho,lP _ _ (by simp;omega)]
  simp;rw[show min o cs.size=o by simp at ho;omega,Nat.sub_self]
  simp;congr 1;omega
theorem uP (g:Nat):∀ (vs:List Value) (o:Nat) (w:World),(w.setCells g o vs).os=w.os/\(w.setCells g o vs).tape=w.tape/\(w.setCells g o vs).output=w.output/\(w.setCells g o vs).heap.size=w.heap.size/\∀ k,k≠g->(w.setCells g o vs).heap[k]?=w.heap[k]?
 | [],_,_=>⟨rfl,rfl,rfl,rfl,fun _ _=>rfl⟩
 | v :: r,o,w=>by
  obtain⟨a,b,c,d,e⟩:=uP g r (o+1) (w.setCell ⟨g,o,none⟩ v);exact⟨a,b,c,by rw[World.setCells,d];simp,fun k hk=>(e k hk).trans (cJ _ _ _ k hk)⟩
structure qH (w w':World)(g:Nat):Prop where
 os:w'.os=w.os
 tape:w'.tape=w.tape
 output:w'.output=w.output
 size:w'.heap.size=w.heap.size
 block:∀ k,k≠g->w'.heap[k]?=w.heap[k]?
theorem tP {α : Type}(l:List α)(i:Nat):l.eraseIdx i=l.take i++l.drop (i+1):=List.eraseIdx_eq_take_drop_succ l i
theorem LW (base g n cap i:Nat)(xs:List Value)(w:World)(hown:w.ownsRow base 3 1 (.slice (some g) n cap) n xs)(h1:∀ u∈xs,u.oneCell'=true)(hin:i<n) :
  Calls prog 242 #[.slice (some g) n cap,.int .i64 (i:Int),.int .i64 ((i:Int)+1)] w fun e w'=>e=.returned (.slice (some g) (n-1) cap) /\
   w'.ownsRow base 3 1 (.slice (some g) (n-1) cap) (n-1) (xs.eraseIdx i)/\qH w w' g:=by
 obtain⟨hxl,hrow⟩:=hown;rcases hrow with ⟨h0,_⟩|⟨g',cap',cur,hv,hb,hg,hnc,hcm,hcs,htk⟩
 ·cases h0
 cases hv;rw[Nat.mul_one] at hxl hcs htk;have hcell:∀ j,j<cap->w.cell? ⟨g,j,none⟩=cur[j]?:=fun j _=>aj hg j;have hfro:∀ j,w.frozen? ⟨g,j,none⟩=false:=fun j=>aW hg j;have hgl:∀ j,j<n->cur[j]?=xs[j]?:=by
  intro j hj;rw[<- htk,List.getElem?_take_of_lt hj,Array.getElem?_toList]
 obtain⟨i0,hi0,hz0,hz1,hz2⟩:=info_parts rD;obtain⟨news,hnews⟩:∃ news,news=xs.drop (i+1):=⟨_,rfl⟩;have hlen:news.length=n-(i+1):=by rw[hnews];simp;omega
 obtain⟨A,hA,hsrc⟩:∃ A:Addr,(if cap=i+1 then some (⟨g,0,none⟩:Addr) else some ⟨g,i+1,none⟩)=some A/\Hid (∀ t u,news[t]?=some u->w.drew.cell? (A.add t)=some u):=by
  by_cases h:cap=i+1
  ·refine⟨⟨g,0,none⟩,by simp[h],fun t u hu => ?_⟩
   have h0:news.length=0:=by rw[hlen];omega
   rw[List.length_eq_zero_iff.1 h0] at hu;simp at hu
  ·refine⟨⟨g,i+1,none⟩,by simp[h],fun t u hu => ?_⟩
   have ht:t<n-(i+1):=by
    have:=(dI.1 hu).1
    rwa [hlen] at this
   rw[Addr.add_lit];show w.cell? _=_;rw[hcell _ (by omega),hgl _ (by omega)]
   rw[hnews,List.getElem?_drop] at hu
   exact hu
 have s1:Hid (news.length=(n-(i+1))*1):=by rw[Nat.mul_one];exact hlen
 have s2:Hid (∀ u∈news,u.oneCell'=true):=by
  intro u hu;rw[hnews] at hu;exact h1 u (List.mem_of_mem_drop hu)
 have s3:Hid (∀ t,t<news.length->(w.drew.cell? ⟨g,0+i*1+t,none⟩).isSome=true/\w.drew.frozen? ⟨g,0+i*1+t,none⟩=false):=by
  intro t ht;rw[hlen] at ht;refine⟨?_,hfro _⟩
  show (w.cell? _).isSome=true;rw[hcell _ (by omega),Array.getElem?_eq_getElem (by omega)]
  rfl
 obtain⟨W1,hW1⟩:∃ W1,W1=w.drew.setCells g (0+i*1) news:=⟨_,rfl⟩;have hgd:w.drew.heap[g]?=some (.cells cur 3):=hg;obtain⟨cs1,hc1,hl1⟩:=uj g 3 news (0+i*1) w.drew cur hgd (by omega)
 rw[<- hW1] at hc1;have hs1:cs1.size=cap:=by
  rw[<- Array.length_toList,hl1];simp only [bG,dA,iQ,Array.length_toList];omega
 have hcl:∀ ty,(Builtin.clear_ #[29] ty #[.slice (some ⟨g,i+(n-(i+1)),none⟩) (n-(i+(n-(i+1)))) (cap-(i+(n-(i+1))))]).run prog W1=.ok (.tuple #[]) (W1.setCells g (i+(n-(i+1))) (List.replicate (n-(i+(n-(i+1)))) (.int .i64 0))) :=
  fun ty=>Lib.run_clear_slice W1 _ _ ty _ underlying29 (fun _=>by kernel_rfl) rfl rfl g _ _ _ (by omega) (fun t ht=>by rw[aj hc1,Array.getElem?_eq_getElem (by omega)];rfl) (fun t ht=>aW hc1 _)
 obtain⟨cs2,hc2,hl2⟩:=uj g 3 (List.replicate (n-(i+(n-(i+1)))) ((.int .i64 0):Value)) (i+(n-(i+1))) W1 cs1 hc1 (by simp;omega)
 have HF:Hid ((W1.setCells g (i+(n-(i+1))) (List.replicate (n-(i+(n-(i+1)))) (.int .i64 0))).ownsRow base 3 1 (.slice (some g) (n-1) cap) (n-1) (xs.eraseIdx i)/\qH w (W1.setCells g (i+(n-(i+1))) (List.replicate (n-(i+(n-(i+1)))) (.int .i64 0))) g):=ae (by
  refine⟨⟨?_,.inr ⟨g,cap,cs2,rfl,hb,hc2,by omega,hcm, ?_, ?_⟩⟩, ?_⟩
  ·rw[List.length_eraseIdx];split<;>omega
  ·rw[<- Array.length_toList,hl2]
   simp only [bG,dA,iQ,Array.length_toList,List.length_replicate];omega
  ·rw[hl2,Nat.mul_one,eH,List.take_append_of_le_length (by simp;omega),List.take_take,Nat.min_eq_left (by omega),hl1,eH,tP xs i, <- hnews]
   rw[List.take_append,List.take_take,List.take_append_of_le_length (by simp;omega)]
   rw[jF (l:=news) (by simp;omega)]
   congr 1;rw[<- htk,List.take_take];congr 1;simp;omega
  ·obtain⟨a,b,c,d,e⟩:=uP g news (0+i*1) w.drew
   obtain⟨a2,b2,c2,d2,e2⟩:=uP g (List.replicate (n-(i+(n-(i+1)))) ((.int .i64 0):Value)) (i+(n-(i+1))) W1;rw[<- hW1] at a b c d e;exact⟨a2.trans a,b2.trans b,c2.trans c,d2.trans d,fun k hk=>(e2 k hk).trans (e k hk)⟩)
 have hW:Hid (W1=w.drew.setCells g (0+i*1) news):=hW1;have hic:i<=cap:=by omega
 have hjc:i+1<=cap:=by omega
 have mixed:prog.follows Departure.mixedOrders=true:=by kernel_rfl
 have hle1:(0:Int)<=(i:Int)+1:=by omega
 have hle2:(i:Int)+1<=(n:Int):=by omega
 have hij:((i:Int) == (i:Int)+1)=false:=by simp;omega
 clear hW1 hc1 hl1 hs1 hc2 hl2 hcell hgl hnews hg hgd htk hcs hxl h1;go_enter func242,ntmps242;go_wp2_with fail;go_region_law_o (refine step_append_room rfl (.tmp 22) (.tmp 25) 29 rfl 3 i0 1 underlying29 hi0 hz1 g 0 i cap (by simp[Act.eval,Act.put]) A (n-(i+1)) (cap-(i+1)) news (by simp[Act.eval,Act.put]) s1.out hsrc.out s2.out (by omega) s3.out ?_;rw[<- hW.out])
 go_wp2;go_ret;refine⟨?_,HF.out⟩
 rw[show n-1=i+(n-(i+1)) by omega]
 rfl
theorem Fl : (prog.info? 138).map (fun i=>(i.zero,i.size,i.bytes))=some (some (.agg #[.string ⟨#[]⟩,.bool false]),2,24):=by kernel_rfl
theorem Ts {P:Program}(w:World)(t e ty:TypeId)(z:Value)(vs:List Value)(ht:P.underlying t=some (.slice e))(hv:∀ w,(zeroValue e).run P w=.ok z w)(hz:(Builtin.zeroCells z.cells 1).toList=vs)(h1:∀ u∈vs,u.oneCell'=true)(b o c:Nat)
  (hc:∀ j,j<vs.length->(w.cell? ⟨b,o+j,none⟩).isSome=true) (hf:∀ j,j<vs.length->w.frozen? ⟨b,o+j,none⟩=false) :
  (Builtin.clear_ #[t] ty #[.slice (some ⟨b,o,none⟩) 1 c]).run P w=.ok (.tuple #[]) (w.setCells b o vs):=by
 have hst:=run_storeCells_cells (P:=P) b o vs 0 w (by simpa using hc) (by simpa using hf) h1
 simp only [Nat.add_zero] at hst;simp[Builtin.clear_,run_underlying ht,hv,hz,hst]
def tM (xs:List Value)(i:Nat):List Value:=xs.take (i*2)++xs.drop ((i+1)*2)
theorem LV (base g n cap i:Nat)(xs:List Value)(w:World)(hown:w.ownsRow base 138 2 (.slice (some g) n cap) n xs)(h1:∀ u∈xs,u.oneCell'=true)(hin:i<n) :
  Calls prog 119 #[.slice (some g) n cap,.int .i64 (i:Int),.int .i64 ((i:Int)+1)] w fun e w'=>e=.returned (.slice (some g) (n-1) cap) /\
   w'.ownsRow base 138 2 (.slice (some g) (n-1) cap) (n-1) (tM xs i)/\qH w w' g:=by
 obtain⟨hxl,hrow⟩:=hown;rcases hrow with ⟨h0,_⟩|⟨g',cap',cur,hv,hb,hg,hnc,hcm,hcs,htk⟩
 ·cases h0
 cases hv;have hcell:∀ j,j<cap*2->w.cell? ⟨g,j,none⟩=cur[j]?:=fun j _=>aj hg j;have hfro:∀ j,w.frozen? ⟨g,j,none⟩=false:=fun j=>aW hg j;have hgl:∀ j,j<n*2->cur[j]?=xs[j]?:=by
  intro j hj;rw[<- htk,List.getElem?_take_of_lt hj,Array.getElem?_toList]
 obtain⟨i0,hi0,hz0,hz1,hz2⟩:=info_parts Fl;obtain⟨news,hnews⟩:∃ news,news=xs.drop ((i+1)*2):=⟨_,rfl⟩;have hlen:news.length=(n-(i+1))*2:=by rw[hnews];simp;omega
 obtain⟨A,hA,hsrc⟩:∃ A:Addr,(if cap=i+1 then some (⟨g,0,none⟩:Addr) else some ⟨g,(i+1)*2,none⟩)=some A/\Hid (∀ t u,news[t]?=some u->w.drew.cell? (A.add t)=some u):=by
  by_cases h:cap=i+1
  ·refine⟨⟨g,0,none⟩,by simp[h],fun t u hu => ?_⟩
   have h0:news.length=0:=by rw[hlen];omega
   rw[List.length_eq_zero_iff.1 h0] at hu;simp at hu
  ·refine⟨⟨g,(i+1)*2,none⟩,by simp[h],fun t u hu => ?_⟩
   have ht:t<(n-(i+1))*2:=by
    have:=(dI.1 hu).1
    rwa [hlen] at this
   rw[Addr.add_lit];show w.cell? _=_;rw[hcell _ (by omega),hgl _ (by omega)]
   rw[hnews,List.getElem?_drop] at hu
   exact hu
 have s1:Hid (news.length=(n-(i+1))*2):=hlen;have s2:Hid (∀ u∈news,u.oneCell'=true):=by
  intro u hu;rw[hnews] at hu;exact h1 u (List.mem_of_mem_drop hu)
 have s3:Hid (∀ t,t<news.length->(w.drew.cell? ⟨g,0+i*2+t,none⟩).isSome=true/\w.drew.frozen? ⟨g,0+i*2+t,none⟩=false):=by
  intro t ht;rw[hlen] at ht;refine⟨?_,hfro _⟩
  show (w.cell? _).isSome=true;rw[hcell _ (by omega),Array.getElem?_eq_getElem (by omega)]
  rfl
 obtain⟨W1,hW1⟩:∃ W1,W1=w.drew.setCells g (0+i*2) news:=⟨_,rfl⟩;have hgd:w.drew.heap[g]?=some (.cells cur 138):=hg;obtain⟨cs1,hc1,hl1⟩:=uj g 138 news (0+i*2) w.drew cur hgd (by omega)
 rw[<- hW1] at hc1;have hs1:cs1.size=cap*2:=by
  rw[<- Array.length_toList,hl1];simp only [bG,dA,iQ,Array.length_toList];omega
 have hone:n-(i+(n-(i+1)))=1:=by omega
 have hcl:∀ ty,(Builtin.clear_ #[88] ty #[.slice (some ⟨g,(i+(n-(i+1)))*2,none⟩) (n-(i+(n-(i+1)))) (cap-(i+(n-(i+1))))]).run prog W1=.ok (.tuple #[]) (W1.setCells g ((i+(n-(i+1)))*2) [.string ⟨#[]⟩,.bool false]):=by
  rw[hone];exact fun ty=>Ts W1 _ _ ty (.agg #[.string ⟨#[]⟩,.bool false]) _ underlying88 (fun _=>by kernel_rfl) (by first|kernel_rfl|(simp[Builtin.zeroCells,Value.cells];done)|decide) (by intro u hu;simp at hu;rcases hu with rfl|rfl<;>rfl) g _ _ (fun t ht=>by simp at ht;rw[aj hc1,Array.getElem?_eq_getElem (by omega)];rfl) (fun t ht=>aW hc1 _)
 obtain⟨cs2,hc2,hl2⟩:=uj g 138 [(.string ⟨#[]⟩:Value),.bool false] ((i+(n-(i+1)))*2) W1 cs1 hc1 (by simp;omega)
 have HF:Hid ((W1.setCells g ((i+(n-(i+1)))*2) [.string ⟨#[]⟩,.bool false]).ownsRow base 138 2 (.slice (some g) (n-1) cap) (n-1) (tM xs i)/\qH w (W1.setCells g ((i+(n-(i+1)))*2) [.string ⟨#[]⟩,.bool false]) g):=ae (by
  unfold tM;refine⟨⟨?_,.inr ⟨g,cap,cs2,rfl,hb,hc2,by omega,hcm, ?_, ?_⟩⟩, ?_⟩
  ·rw[bG,dA,iQ];omega
  ·rw[<- Array.length_toList,hl2]
   simp only [bG,dA,iQ,Array.length_toList,eu,fG];omega
  ·rw[hl2,eH,List.take_append_of_le_length (by simp;omega),List.take_take,Nat.min_eq_left (by omega),hl1,eH, <- hnews]
   rw[List.take_append,List.take_take,List.take_append_of_le_length (by simp;omega)]
   rw[jF (l:=news) (by simp;omega)]
   congr 1;rw[<- htk,List.take_take];congr 1;simp;omega
  ·obtain⟨a,b,c,d,e⟩:=uP g news (0+i*2) w.drew
   obtain⟨a2,b2,c2,d2,e2⟩:=uP g [(.string ⟨#[]⟩:Value),.bool false] ((i+(n-(i+1)))*2) W1;rw[<- hW1] at a b c d e;exact⟨a2.trans a,b2.trans b,c2.trans c,d2.trans d,fun k hk=>(e2 k hk).trans (e k hk)⟩)
 have hW:Hid (W1=w.drew.setCells g (0+i*2) news):=hW1;have hic:i<=cap:=by omega
 have hjc:i+1<=cap:=by omega
 have mixed:prog.follows Departure.mixedOrders=true:=by kernel_rfl
 have hle1:(0:Int)<=(i:Int)+1:=by omega
 have hle2:(i:Int)+1<=(n:Int):=by omega
 have hij:((i:Int) == (i:Int)+1)=false:=by simp;omega
 clear hW1 hc1 hl1 hs1 hc2 hl2 hcell hgl hnews hg hgd htk hcs hxl h1 hone;go_enter func119,ntmps119;go_wp2_with fail;go_region_law_o (refine step_append_room rfl (.tmp 22) (.tmp 25) 88 rfl 138 i0 2 underlying88 hi0 hz1 g 0 i cap (by simp[Act.eval,Act.put]) A (n-(i+1)) (cap-(i+1)) news (by simp[Act.eval,Act.put]) s1.out hsrc.out s2.out (by omega) s3.out ?_;rw[<- hW.out])
 go_wp2;go_ret;refine⟨?_,HF.out⟩
 rw[show n-1=i+(n-(i+1)) by omega]
 rfl
end Go.Proofs.YtgieeeeeiggoeaaGreat
namespace Go.Proofs.YtgieeeeeiggoeaaGreat
open Go.RowKit
open Tryz
variable {a:Act}{ops:Array Oper}{Q:Exit->Act->World->Prop}{rest:List Oper}{o:Oper}{w:World}
def kj.value (d:kj)(mem log:Value):Value :=
 .tuple #[.agg #[d.k,d.f,d.t,d.ep,d.ba,d.vo,d.po,d.va,mem,log],d.err]
theorem UT (L:List UInt8)(w:World)(hm:L.length<=140737488355328) :
  Calls prog 117 #[.string (bs L)] w fun e w'=>ai w w'/\∃ mem log,e=.returned ((cH L).value mem log) /\
   w'.ownsRow (w.heap.size+1) 3 1 mem (cH L).ms.length (aJ (cH L).ms)/\w'.ownsRow (w.heap.size+1) 42 5 log (cH L).es.length (aJ (bk (cH L).es)):=by
 by_cases h:L.length<21
 ·refine (US L w h).mono ?_
  rintro e w' ⟨hb,rfl⟩;rw[DF h];exact⟨hb,_,_,rfl,bE _ _ _ _,bE _ _ _ _⟩
 ·by_cases h2:L.drop (L.length-4)≠h_ (L.take (L.length-4))
  ·refine (UU L _ w (by omega) hm rfl h2).mono ?_
   rintro e w' ⟨hb,rfl⟩;rw[DG h h2];exact⟨hb,_,_,rfl,bE _ _ _ _,bE _ _ _ _⟩
  ·refine (UW L _ w (by omega) hm rfl (by simpa using h2)).mono ?_
   rintro e w' ⟨hb,hp⟩;rcases hp with ⟨h3,mem,log,o1,o2,rfl⟩|⟨h3,rfl⟩
   ·rw[zl h h2 h3]
    exact⟨hb,mem,log,rfl,o1,o2⟩
   ·rw[DH h h2 (by simp[h3])]
    exact⟨hb,_,_,rfl,bE _ _ _ _,bE _ _ _ _⟩
theorem bJ.nil (w:World):bJ w (.slice none 0 0) []:=⟨none,0,rfl,fun _ hi=>absurd hi (Nat.not_lt_zero _)⟩
theorem eM.nil (w:World):eM w (.slice none 0 0) []:=⟨none,0,rfl,fun _ hi=>absurd hi (Nat.not_lt_zero _)⟩
theorem SD (L:List UInt8)(w:World)(hm:L.length<=140737488355328) :
  Calls prog 139 #[.string (bs L)] w fun e w'=>ai w w'/\∃ mem log,e=.returned ((cH L).value mem log) /\
   w'.ownsRow (w.heap.size+1) 3 1 mem (cH L).ms.length (aJ (cH L).ms)/\w'.ownsRow (w.heap.size+1) 42 5 log (cH L).es.length (aJ (bk (cH L).es)):=by
 by_cases h:L.length<21
 ·refine (SC L w h).mono ?_
  rintro e w' ⟨hb,rfl⟩;rw[DF h];exact⟨hb,_,_,rfl,bE _ _ _ _,bE _ _ _ _⟩
 ·have hs:=T7 L _ (by omega) rfl
  by_cases h2:L.drop (L.length-4)≠h_ (L.take (L.length-4))
  ·refine (SE L _ w (by omega) hm rfl (fun e=>h2 (hs.1 e))).mono ?_
   rintro e w' ⟨hb,rfl⟩;rw[DG h h2];exact⟨hb,_,_,rfl,bE _ _ _ _,bE _ _ _ _⟩
  ·have he:=hs.2 (by simpa using h2)
   have hi:=DI _ _ he;refine (SF L _ w (by omega) hm rfl he).mono ?_
   rintro e w' ⟨hb,hp⟩;rcases hp with ⟨h3,mem,log,o1,o2,rfl⟩|⟨h3,rfl⟩
   ·rw[zl h h2 (hi.2 h3)]
    exact⟨hb,mem,log,rfl,o1,o2⟩
   ·rw[DH h h2 (fun h4=>h3 (hi.1 h4))]
    exact⟨hb,_,_,rfl,bE _ _ _ _,bE _ _ _ _⟩
theorem Pa : (prog.info? 29).map (fun i=>(i.zero,i.size,i.bytes))=some (some (.slice none 0 0),1,24):=by kernel_rfl
theorem OY : (prog.info? 44).map (fun i=>(i.zero,i.size,i.bytes))=some (some (.slice none 0 0),1,24):=by kernel_rfl
theorem U0 {w:World}{ops:Array Oper}{rest:List Oper}{a:Act}{Q:Exit->Act->World->Prop}(hgd:o.guard=none)(s x:Operand)
  (ho:o.op=.call { callee:=.builtin .append,args:=#[s,x],argTypes:=#[29,29] })
  (base:Nat) (v:Value) (l:List Int) (hs:a.eval s=v) (hown:w.ownsRow base 3 1 v l.length (aJ l))
  (g c:Nat) (z:Int) (hx:a.eval x=.slice (some g) 1 c) (hnew:w.cell? (g,0)=some (.int .i64 z))
  (h63:l.length<=2000000000) (hbase:base<=w.heap.size)
  (h:∀ g' cap w',w'.ownsRow base 3 1 (.slice (some ⟨g',0,none⟩) (l.length+1) cap) (l++[z]).length (aJ (l++[z]))->w.grownBy w' v.ownBlock->w'.ownsRow base 3 1 v l.length (aJ l)->(v.ownBlock=some g'\/g'=w.heap.size)->wpList prog ops Q rest (a.put o.dst (.slice (some ⟨g',0,none⟩) (l.length+1) cap)) w') :
  wpList prog ops Q (o :: rest) a w:=by
 obtain⟨i0,hi,hz0,hz1,hz2⟩:=info_parts rD;refine vx w hgd s x 29 ho base 3 i0 _ 1 8 underlying29 hi hz0 hz1 hz2 rfl (by decide) v l.length (aJ l) hs hown ⟨g,0,none⟩ 1 c (aJ [z]) hx rfl ?_ (kE _) (by omega) (by unfold maxLen;omega) (by omega) hbase ?_
 ·intro j u hj
  have hj0:j=0:=by
   have:=(dI.1 hj).1;rw[fP] at this;simp at this;exact this
  subst hj0;have e:(⟨g,0,none⟩:Addr).add 0=⟨g,0,none⟩:=by unfold Addr.add;simp
  rw[e,hnew];simpa [aJ] using hj
 ·intro g' cap w' h1 h2 h3 h4
  refine h g' cap w' ?_ h2 h3 h4
  rw[pk,bG];exact h1
theorem x6 {w:World}{ops:Array Oper}{rest:List Oper}{a:Act}{Q:Exit->Act->World->Prop}(hgd:o.guard=none)(s x:Operand)(T E:TypeId)
  (hT:prog.underlying T=some (.slice E)) (hE:(prog.info? E).map (fun i=>(i.zero,i.size,i.bytes))=some (some (.slice none 0 0),1,24))
  (ho:o.op=.call { callee:=.builtin .append,args:=#[s,x],argTypes:=#[T,T] })
  (base:Nat) (v:Value) (N:Nat) (xs:List Value) (hs:a.eval s=v) (hown:w.ownsRow base E 1 v N xs)
  (g m c:Nat) (news:List Value) (hm:news.length=m) (hm0:0<m) (hm1:m<=1000) (hx:a.eval x=.slice (some g) m c) (hnew:w.heap[g]?=some (.cells news.toArray E)) (h1:∀ u∈news,u.oneCell'=true)
  (h63:N<=2000000000) (hbase:base<=w.heap.size)
  (h:∀ g' cap w',w'.ownsRow base E 1 (.slice (some ⟨g',0,none⟩) (N+m) cap) (N+m) (xs++news)->w.grownBy w' v.ownBlock->(v.ownBlock=some g'\/g'=w.heap.size)->wpList prog ops Q rest (a.put o.dst (.slice (some ⟨g',0,none⟩) (N+m) cap)) w') :
  wpList prog ops Q (o :: rest) a w:=by
 obtain⟨i0,hi,hz0,hz1,hz2⟩:=info_parts hE;refine vx w hgd s x T ho base E i0 _ 1 24 hT hi hz0 hz1 hz2 rfl (by decide) v N xs hs hown ⟨g,0,none⟩ m c news hx (by omega) ?_ h1 hm0 (by unfold maxLen;omega) (by omega) hbase ?_
 ·intro j u hj
  exact World.news_of_block hnew j u (by simpa using hj)
 ·intro g' cap w' h1 h2 h3 h4
  exact h g' cap w' h1 h2 h4
theorem Qv (n:Nat)(mk:Int):List.replicate n mk++[mk]=List.replicate (n+1) mk:=List.replicate_succ'.symm
theorem B9 {w:World}{ops:Array Oper}{rest:List Oper}{a:Act}{Q:Exit->Act->World->Prop}(hgd:o.guard=none)(s x:Operand)
  (ho:o.op=.call { callee:=.builtin .append,args:=#[s,x],argTypes:=#[29,29] })
  (base:Nat) (v:Value) (n:Nat) (mk:Int) (hs:a.eval s=v) (hown:w.ownsRow base 3 1 v n (aJ (List.replicate n mk)))
  (g c:Nat) (hx:a.eval x=.slice (some g) 1 c) (hnew:w.cell? (g,0)=some (.int .i64 mk))
  (h63:n<=2000000000) (hbase:base<=w.heap.size)
  (h:∀ g' cap w',w'.ownsRow base 3 1 (.slice (some ⟨g',0,none⟩) (n+1) cap) (n+1) (aJ (List.replicate (n+1) mk))->w.grownBy w' v.ownBlock->w'.ownsRow base 3 1 v n (aJ (List.replicate n mk))->(v.ownBlock=some g'\/g'=w.heap.size)->wpList prog ops Q rest (a.put o.dst (.slice (some ⟨g',0,none⟩) (n+1) cap)) w') :
  wpList prog ops Q (o :: rest) a w:=by
 have hn:(List.replicate n mk).length=n:=List.length_replicate;refine U0 hgd s x ho base v (List.replicate n mk) hs (by rw[hn];exact hown) g c mk hx hnew (by omega) hbase ?_
 intro g' cap w' h1 h2 h3 h4;rw[Qv] at h1;rw[hn] at h1 h3 |-;rw[List.length_replicate] at h1;exact h g' cap w' h1 h2 h3 h4
theorem xn (k:Int)(w:World)(h0:0<=k)(h1:k<=2000000000):Calls prog 49 #[.int .i64 k] w fun e w'=>e=.returned (.int .i64 (-1000-k))/\w'=w:=by
 go_enter func49,ntmps49;go_wp2;go_ret;exact⟨ni (by go_num),rfl⟩
theorem Qw (l:List Int)(k:Nat)(mk:Int)(hk:k<l.length):(aJ (List.replicate k mk++l.drop k)).set k (.int .i64 mk)=aJ (List.replicate (k+1) mk++l.drop (k+1)):=by
 rw[nV];congr 1;rw[lP _ _ (by simp),List.length_replicate,Nat.sub_self,List.drop_eq_getElem_cons hk,fT,List.replicate_succ',eH]
 rfl
theorem Qu (l:List Int)(k:Nat)(mk:Int)(hk:k<=l.length):(List.replicate k mk++l.drop k).length=l.length:=by
 rw[bG,List.length_replicate,iQ];omega
theorem mO {w':World}{o:Obj}{row:Option Nat}(h:(w.alloc o).grownBy w' row):w.grownBy w' row :=
 ⟨h.os,h.tape,h.output,by have:=h.size;rw[eJ] at this;omega,fun k hk hr=>(h.block k (by rw[eJ];omega) hr).trans (j6 _ _ k hk)⟩
end Go.Proofs.YtgieeeeeiggoeaaGreat
