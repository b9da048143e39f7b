import Derived.Test.YtgieeeeeiggoeaaGreatC32
import Derived.Test.YtgieeeeeiggoeaaGreatC14
import Derived.Lib.SmallJoins
import Derived.Test.YtgieeeeeiggoeaaGreatC12
import Derived.Test.YtgieeeeeiggoeaaGreatC09
import Derived.Laws.CopyRow
import Derived.Test.YtgieeeeeiggoeaaGreatC10
set_option maxRecDepth 100000
set_option maxHeartbeats 1000000
namespace Go.Proofs.YtgieeeeeiggoeaaGreat
open Go.RowKit Go.Shelf
def InF (F:Nat→Prop)(v:Value):Prop:=∀ k,v.ownBlock=some k→F k
theorem InF.nil (F:Nat→Prop):InF F (.slice none 0 0):=fun k e=>by simp[Value.ownBlock] at e
theorem InF.wider {F G:Nat→Prop}{v:Value}(h:InF F v)(hg:∀ k,F k→G k):InF G v:=fun k e=>hg k (h k e)
def Typed (w:World)(S:Nat→Prop)(T:List TypeId):Prop:=∀ k,S k→k<w.heap.size→∃ cs t,w.heap[k]?=some (.cells cs t)∧t∈T
theorem Moved.rowT {w w':World}{S:Nat→Prop}{T:List TypeId}{base size n:Nat}{e:TypeId}{v:Value}{xs:List Value}(hM:Moved w w' S)(hT:Typed w S T)(ho:w.ownsRow base e size v n xs)(he:e ∉ T):w'.ownsRow base e size v n xs :=
 hM.owns ho fun k hk hS=>by
  obtain⟨cs,hb,_⟩:=obc ho hk
  obtain⟨cs2,t,h1,h2⟩:=hT k hS (Array.getElem?_eq_some_iff.1 hb).1
  rw[hb] at h1
  injection h1 with h1
  injection h1 with _ h3
  exact he (h3 ▸ h2)
theorem Moved.blkT {w w':World}{S:Nat→Prop}{T:List TypeId}{b:Nat}{cs:Array Value}{t:TypeId}(hM:Moved w w' S)(hT:Typed w S T)(hb:w.heap[b]?=some (.cells cs t))(ht:t ∉ T):w'.heap[b]?=some (.cells cs t):=by
 refine (hM.block b (Array.getElem?_eq_some_iff.1 hb).1 fun hS => ?_).trans hb
 obtain⟨cs2,t2,h1,h2⟩:=hT b hS (Array.getElem?_eq_some_iff.1 hb).1
 rw[hb] at h1
 injection h1 with h1
 injection h1 with _ h3
 exact ht (h3 ▸ h2)
def RRepAt (w:World)(F:Nat→Prop)(b:Nat)(r:Rep):Prop :=
 ∃ vm vl,w.heap[b]?=some (.cells #[.bool r.up,.int .i64 r.epoch,.int .i64 r.lock,vm,vl,.int .i64 (r.base:Int),.int .i64 (r.commit:Int)] 199)∧IntOwn w vm r.mems∧LogOwn w vl r.log∧F b ∧
  InF F vm∧InF F vl
abbrev VoteV := Int × AVote × Value × Value
def vcells (t:VoteV):List Value:=[.int .i64 t.1,.int .i64 t.2.1.promise,.int .i64 t.2.1.ballot,t.2.2.1,t.2.2.2]
def VotesAt (w:World)(F:Nat→Prop)(vv:Value)(f:Int→AVote):Prop :=
 ∃ vs:List VoteV,w.ownsRow 0 284 5 vv vs.length (vs.flatMap vcells)∧InF F vv ∧
  (∀ t∈vs,IntOwn w t.2.2.1 t.2.1.mems∧LogOwn w t.2.2.2 t.2.1.log∧InF F t.2.2.1∧InF F t.2.2.2 ∧ -1≤t.1∧t.1≤65534) ∧
  (vs.map Prod.fst).Nodup∧(∀ t∈vs,f t.1=t.2.1)∧∀ e,(∀ t∈vs,t.1≠e)→f e=AVote.none
def RAccAt (w:World)(F:Nat→Prop)(b:Nat)(vv:Value)(a:Acc):Prop :=
 ∃ vm,w.heap[b]?=some (.cells #[.bool a.up,.int .i64 a.epoch,vm,vv] 203)∧IntOwn w vm a.mems∧F b∧InF F vm∧VotesAt w F vv a.votes
def CameAt (w:World)(F:Nat→Prop)(vc:Value)(ms:List Msg):Prop :=
 ∃ ws:List MsgV,ws.map Prod.fst=ms∧w.ownsRow 0 134 10 vc ms.length (ws.flatMap mcells)∧InF F vc∧∀ t∈ws,IntOwn w t.2.1 t.1.mems∧LogOwn w t.2.2 t.1.log∧InF F t.2.1∧InF F t.2.2
def RMasAt (w:World)(F:Nat→Prop)(b:Nat)(vc:Value)(s:Mas):Prop :=
 ∃ vw vo vm vl,w.heap[b]?=some (.cells #[.bool s.up,.int .i64 (s.begun:Int),.int .i64 (s.does:Int),.int .i64 s.epoch,.int .i64 s.ballot,vw,vo,vm,vl,vc] 206) ∧
  (IntOwn w vw s.want∧IntOwn w vo s.old∧IntOwn w vm s.mems∧LogOwn w vl s.log)∧F b∧(InF F vw∧InF F vo∧InF F vm∧InF F vl)∧CameAt w F vc s.came
def frV (l:List (List UInt8 × Bool)):List Value:=l.flatMap (fun f=>[Value.string (bs f.1),.bool f.2])
structure RefIn (w:World)(F:Nat→Prop)(y:Nat)(c:Clu)(br ba bm:Nat→Nat)(vr va vm vb vt:Value)(vv vc:Nat→Value):Prop where
 blk:w.heap[y]?=some (.cells #[vr,va,vm,vb,vt] 120)
 rr:w.ownsRow 0 197 1 vr c.reps.length (ptrs br 0 c.reps.length)
 ra:w.ownsRow 0 200 1 va 3 (ptrs ba 0 3)
 rm:w.ownsRow 0 204 1 vm 2 (ptrs bm 0 2)
 reps:∀ i,i<c.reps.length→RRepAt w F (br i) (c.rep i)
 accs:∀ i,i<3→RAccAt w F (ba i) (vv i) (c.acc (100+(i:Int)))
 mass:∀ i,i<2→RMasAt w F (bm i) (vc i) (c.mas (200+(i:Int)))
 bag:w.ownsRow 0 214 2 vb c.bag.length (frV c.bag)
 told:w.ownsRow 0 113 3 vt c.told.length (ints (ansNums c.told))
 inF:∀ k,k=y∨vr.ownBlock=some k∨va.ownBlock=some k∨vb.ownBlock=some k∨vt.ownBlock=some k∨vm.ownBlock=some k→F k
 lt:∀ k,F k→k<w.heap.size
 sizes:c.accs.length=3∧c.mass.length=2
 ijr:∀ i j,i<c.reps.length→j<c.reps.length→br i=br j→i=j
 ija:∀ i j,i<3→j<3→ba i=ba j→i=j
 ijm:∀ i j,i<2→j<2→bm i=bm j→i=j
 ijv:∀ i j k,i<3→j<3→(vv i).ownBlock=some k→(vv j).ownBlock=some k→i=j
 ijc:∀ i j k,i<2→j<2→(vc i).ownBlock=some k→(vc j).ownBlock=some k→i=j
def RefAt (w:World)(F:Nat→Prop)(y:Nat)(c:Clu):Prop:=∃ br ba bm vr va vm vb vt vv vc,RefIn w F y c br ba bm vr va vm vb vt vv vc
theorem RRepAt.keep {w w':World}{F F':Nat→Prop}{b:Nat}{r:Rep}(h:RRepAt w F b r)(hF:∀ k,F k→F' k)(hb:w'.heap[b]?=w.heap[b]?)(hr:∀ {base size n:Nat} {e:TypeId} {v:Value} {xs:List Value},w.ownsRow base e size v n xs→InF F v→e=3∨e=42→w'.ownsRow base e size v n xs):RRepAt w' F' b r:=by
 obtain⟨vm,vl,h1,h2,h3,h4,h5,h6⟩:=h;exact⟨vm,vl,hb.trans h1,hr h2 h5 (.inl rfl),hr h3 h6 (.inr rfl),hF _ h4,h5.wider hF,h6.wider hF⟩
theorem VotesAt.keep {w w':World}{F F':Nat→Prop}{vv:Value}{f:Int→AVote}(h:VotesAt w F vv f)(hF:∀ k,F k→F' k)(hr:∀ {base size n:Nat} {e:TypeId} {v:Value} {xs:List Value},w.ownsRow base e size v n xs→InF F v→e=3∨e=42∨v=vv→w'.ownsRow base e size v n xs):VotesAt w' F' vv f:=by
 obtain⟨vs,h1,h2,h3,h4,h5,h6⟩:=h;exact⟨vs,hr h1 h2 (.inr (.inr rfl)),h2.wider hF,fun t ht=>⟨hr (h3 t ht).1 (h3 t ht).2.2.1 (.inl rfl),hr (h3 t ht).2.1 (h3 t ht).2.2.2.1 (.inr (.inl rfl)),(h3 t ht).2.2.1.wider hF,(h3 t ht).2.2.2.1.wider hF,(h3 t ht).2.2.2.2⟩,h4,h5,h6⟩
theorem RAccAt.keep {w w':World}{F F':Nat→Prop}{b:Nat}{vv:Value}{a:Acc}(h:RAccAt w F b vv a)(hF:∀ k,F k→F' k)(hb:w'.heap[b]?=w.heap[b]?)(hr:∀ {base size n:Nat} {e:TypeId} {v:Value} {xs:List Value},w.ownsRow base e size v n xs→InF F v→e=3∨e=42∨v=vv→w'.ownsRow base e size v n xs):RAccAt w' F' b vv a:=by
 obtain⟨vm,h1,h2,h3,h4,h5⟩:=h;exact⟨vm,hb.trans h1,hr h2 h4 (.inl rfl),hF _ h3,h4.wider hF,h5.keep hF hr⟩
theorem CameAt.keep {w w':World}{F F':Nat→Prop}{vc:Value}{ms:List Msg}(h:CameAt w F vc ms)(hF:∀ k,F k→F' k)(hr:∀ {base size n:Nat} {e:TypeId} {v:Value} {xs:List Value},w.ownsRow base e size v n xs→InF F v→e=3∨e=42∨v=vc→w'.ownsRow base e size v n xs):CameAt w' F' vc ms:=by
 obtain⟨ws,h1,h2,h3,h4⟩:=h;exact⟨ws,h1,hr h2 h3 (.inr (.inr rfl)),h3.wider hF,fun t ht=>⟨hr (h4 t ht).1 (h4 t ht).2.2.1 (.inl rfl),hr (h4 t ht).2.1 (h4 t ht).2.2.2 (.inr (.inl rfl)),(h4 t ht).2.2.1.wider hF,(h4 t ht).2.2.2.wider hF⟩⟩
theorem RMasAt.keep {w w':World}{F F':Nat→Prop}{b:Nat}{vc:Value}{s:Mas}(h:RMasAt w F b vc s)(hF:∀ k,F k→F' k)(hb:w'.heap[b]?=w.heap[b]?)(hr:∀ {base size n:Nat} {e:TypeId} {v:Value} {xs:List Value},w.ownsRow base e size v n xs→InF F v→e=3∨e=42∨v=vc→w'.ownsRow base e size v n xs):RMasAt w' F' b vc s:=by
 obtain⟨vw,vo,vm,vl,h1,⟨a1,a2,a3,a4⟩,h3,⟨b1,b2,b3,b4⟩,h5⟩:=h;exact⟨vw,vo,vm,vl,hb.trans h1,⟨hr a1 b1 (.inl rfl),hr a2 b2 (.inl rfl),hr a3 b3 (.inl rfl),hr a4 b4 (.inr (.inl rfl))⟩,hF _ h3,⟨b1.wider hF,b2.wider hF,b3.wider hF,b4.wider hF⟩,h5.keep hF hr⟩
theorem RefIn.keep {w w':World}{F:Nat→Prop}{y:Nat}{c:Clu}{br ba bm:Nat→Nat}{vr va vm vb vt:Value}{vv vc:Nat→Value}(h:RefIn w F y c br ba bm vr va vm vb vt vv vc)(hk:∀ k,F k→w'.heap[k]?=w.heap[k]?):RefIn w' F y c br ba bm vr va vm vb vt vv vc where
 blk:=(hk y (h.inF y (.inl rfl))).trans h.blk
 rr:=oon h.rr fun k e=>hk k (h.inF k (.inr (.inl e)))
 ra:=oon h.ra fun k e=>hk k (h.inF k (.inr (.inr (.inl e))))
 rm:=oon h.rm fun k e=>hk k (h.inF k (.inr (.inr (.inr (.inr (.inr e))))))
 reps:=fun i hi=>(h.reps i hi).keep (fun _ e=>e) (by obtain⟨_,_,_,_,_,q,_⟩:=h.reps i hi;exact hk _ q) (fun ho hF _=>oon ho fun k e=>hk k (hF k e))
 accs:=fun i hi=>(h.accs i hi).keep (fun _ e=>e) (by obtain⟨_,_,_,q,_⟩:=h.accs i hi;exact hk _ q) (fun ho hF _=>oon ho fun k e=>hk k (hF k e))
 mass:=fun i hi=>(h.mass i hi).keep (fun _ e=>e) (by obtain⟨_,_,_,_,_,_,q,_⟩:=h.mass i hi;exact hk _ q) (fun ho hF _=>oon ho fun k e=>hk k (hF k e))
 bag:=oon h.bag fun k e=>hk k (h.inF k (.inr (.inr (.inr (.inl e)))))
 told:=oon h.told fun k e=>hk k (h.inF k (.inr (.inr (.inr (.inr (.inl e))))))
 inF:=h.inF
 lt:=fun k e=>lt_of_keep (h.lt k e) (hk k e)
 sizes:=h.sizes
 ijr:=h.ijr
 ija:=h.ija
 ijm:=h.ijm
 ijv:=h.ijv
 ijc:=h.ijc
theorem RefAt.keep {w w':World}{F:Nat→Prop}{y:Nat}{c:Clu}(h:RefAt w F y c)(hk:∀ k,F k→w'.heap[k]?=w.heap[k]?):RefAt w' F y c:=by
 obtain⟨br,ba,bm,vr,va,vm,vb,vt,vv,vc,h⟩:=h;exact⟨br,ba,bm,vr,va,vm,vb,vt,vv,vc,h.keep hk⟩
theorem RefAt.lt' {w:World}{F:Nat→Prop}{y:Nat}{c:Clu}(h:RefAt w F y c){k:Nat}(hk:F k):k<w.heap.size:=by
 obtain⟨_,_,_,_,_,_,_,_,_,_,h⟩:=h;exact h.lt k hk
def kindOf (n:Nat)(d:Int):Int × Int :=
 if 0≤d∧d<n then (1,d) else if 100≤d∧d<103 then (2,d-100) else if d=200∨d=201 then (3,d-200) else (0,0)
theorem refKind_any (y n:Nat)(ar:Option Addr)(cr:Nat)(d:Int)(w:World)(hy:w.cell? ⟨y,0,none⟩=some (.slice ar n cr))(_hn:n≤5)(hi : -9223372036854775808≤d∧d≤9223372036854775807) :
  Calls Tryz.prog 133 #[.pointer (some ⟨y,0,none⟩),.int .i64 d] w fun e w'=>e=.returned (.tuple #[.int .i64 (kindOf n d).1,.int .i64 (kindOf n d).2])∧w'=w:=by
 by_cases h1:0≤d
 ·by_cases h2:d<(n:Int)
  ·have H:Hid (kindOf n d=(1,d)):=hideA (by unfold kindOf;rw[if_pos ⟨h1,h2⟩])
   go_enter Tryz.func133,Tryz.ntmps133
   go_wp2_with fail;go_ret2
   exact⟨by rw[H.out];rfl,rfl⟩
  ·by_cases h3:100≤d
   ·by_cases h4:d<103
    ·have H:Hid (kindOf n d=(2,d-100)):=hideA (by unfold kindOf;rw[if_neg (fun e=>h2 e.2),if_pos ⟨h3,h4⟩])
     go_enter Tryz.func133,Tryz.ntmps133
     go_wp2_with fail;go_ret2
     exact⟨by rw[H.out];rfl,rfl⟩
    ·by_cases h5:d=200
     ·have H:Hid (kindOf n d=(3,d-200)):=hideA (by unfold kindOf;rw[if_neg (fun e=>h2 e.2),if_neg (fun e=>h4 e.2),if_pos (.inl h5)])
      subst h5;go_enter Tryz.func133,Tryz.ntmps133
      go_wp2_with fail;go_ret2
      exact⟨by rw[H.out];rfl,rfl⟩
     ·have h5':(d == 200)=false:=by simpa using h5
      by_cases h6:d=201
      ·have H:Hid (kindOf n d=(3,d-200)):=hideA (by unfold kindOf;rw[if_neg (fun e=>h2 e.2),if_neg (fun e=>h4 e.2),if_pos (.inr h6)])
       subst h6;go_enter Tryz.func133,Tryz.ntmps133
       go_wp2_with fail;go_ret2
       exact⟨by rw[H.out];rfl,rfl⟩
      ·have h6':(d == 201)=false:=by simpa using h6
       have H:Hid (kindOf n d=(0,0)):=hideA (by unfold kindOf;rw[if_neg (fun e=>h2 e.2),if_neg (fun e=>h4 e.2),if_neg (fun e=>e.elim h5 h6)])
       go_enter Tryz.func133,Tryz.ntmps133
       go_wp2_with fail;go_ret2
       exact⟨by rw[H.out];rfl,rfl⟩
   ·have h5:¬ d=200:=by omega
    have h6:¬ d=201:=by omega
    have h5':(d == 200)=false:=by simpa using h5
    have h6':(d == 201)=false:=by simpa using h6
    have H:Hid (kindOf n d=(0,0)):=hideA (by unfold kindOf;rw[if_neg (fun e=>h2 e.2),if_neg (fun e=>h3 e.1),if_neg (fun e=>e.elim h5 h6)])
    go_enter Tryz.func133,Tryz.ntmps133
    go_wp2_with fail;go_ret2
    exact⟨by rw[H.out];rfl,rfl⟩
 ·have h3:¬ 100≤d:=by omega
  have h5:¬ d=200:=by omega
  have h6:¬ d=201:=by omega
  have h5':(d == 200)=false:=by simpa using h5
  have h6':(d == 201)=false:=by simpa using h6
  have H:Hid (kindOf n d=(0,0)):=hideA (by unfold kindOf;rw[if_neg (fun e=>h1 e.1),if_neg (fun e=>h3 e.1),if_neg (fun e=>e.elim h5 h6)])
  go_enter Tryz.func133,Tryz.ntmps133
  go_wp2_with fail;go_ret2
  exact⟨by rw[H.out];rfl,rfl⟩
end Go.Proofs.YtgieeeeeiggoeaaGreat
namespace Go.Proofs.YtgieeeeeiggoeaaGreat
open Go.RowKit
theorem infoRow : (Tryz.prog.info? 29).map (fun i=>(i.zero,i.size,i.bytes))=some (some (.slice none 0 0),1,24):=by kernel_rfl
theorem infoLog : (Tryz.prog.info? 44).map (fun i=>(i.zero,i.size,i.bytes))=some (some (.slice none 0 0),1,24):=by kernel_rfl
theorem wpList_keeps_int {w:World}{ops:Array Oper}{rest:List Oper}{o:Oper}{a:Act}{Q:Exit→Act→World→Prop}(hgd:o.guard=none)(s x:Operand)
  (ho:o.op=.call { callee:=.builtin .append,args:=#[s,x],argTypes:=#[29,29] })
  (base:Nat) (v:Value) (l:List Int) (hs:a.eval s=v) (hown:w.ownsRow base 3 1 v l.length (ints l))
  (g c:Nat) (z:Int) (hx:a.eval x=.slice (some ⟨g,0,none⟩) 1 c) (hnew:w.cell? ⟨g,0,none⟩=some (.int .i64 z))
  (h63:l.length≤2000000000) (hbase:base≤w.heap.size)
  (h:∀ g' cap w',w'.ownsRow base 3 1 (.slice (some ⟨g',0,none⟩) (l.length+1) cap) (l++[z]).length (ints (l++[z]))→w.grownBy w' v.ownBlock→w'.ownsRow base 3 1 v l.length (ints l)→(v.ownBlock=some g'∨g'=w.heap.size)→wpList Tryz.prog ops Q rest (a.put o.dst (.slice (some ⟨g',0,none⟩) (l.length+1) cap)) w') :
  wpList Tryz.prog ops Q (o :: rest) a w:=by
 obtain⟨i0,hi,hz0,hz1,hz2⟩:=info_parts infoInt
 refine wpList_append_keeps w hgd s x 29 ho base 3 i0 _ 1 8 Tryz.underlying29 hi hz0 hz1 hz2 rfl (by decide) v l.length (ints l) hs hown ⟨g,0,none⟩ 1 c (ints [z]) hx rfl ?_ (ints_one _) (by omega) (by unfold maxLen;omega) (by omega) hbase ?_
 ·intro j u hj
  have hj0:j=0:=by
   have:=(List.getElem?_eq_some_iff.1 hj).1
   rw[ints_length] at this
   simp at this
   exact this
  subst hj0;have e:(⟨g,0,none⟩:Addr).add 0=⟨g,0,none⟩:=by unfold Addr.add;simp
  rw[e,hnew];simpa [ints] using hj
 ·intro g' cap w' h1 h2 h3 h4
  refine h g' cap w' ?_ h2 h3 h4
  rw[ints_append,List.length_append];exact h1
theorem wpList_keeps_row {w:World}{ops:Array Oper}{rest:List Oper}{o:Oper}{a:Act}{Q:Exit→Act→World→Prop}(hgd:o.guard=none)(s x:Operand)(T E:TypeId)
  (hT:Tryz.prog.underlying T=some (.slice E)) (hE:(Tryz.prog.info? E).map (fun i=>(i.zero,i.size,i.bytes))=some (some (.slice none 0 0),1,24))
  (ho:o.op=.call { callee:=.builtin .append,args:=#[s,x],argTypes:=#[T,T] })
  (base:Nat) (v:Value) (N:Nat) (xs:List Value) (hs:a.eval s=v) (hown:w.ownsRow base E 1 v N xs)
  (g m c:Nat) (news:List Value) (hm:news.length=m) (hm0:0<m) (hm1:m≤1000) (hx:a.eval x=.slice (some ⟨g,0,none⟩) m c) (hnew:w.heap[g]?=some (.cells news.toArray E)) (h1:∀ u∈news,u.oneCell'=true)
  (h63:N≤2000000000) (hbase:base≤w.heap.size)
  (h:∀ g' cap w',w'.ownsRow base E 1 (.slice (some ⟨g',0,none⟩) (N+m) cap) (N+m) (xs++news)→w.grownBy w' v.ownBlock→(v.ownBlock=some g'∨g'=w.heap.size)→wpList Tryz.prog ops Q rest (a.put o.dst (.slice (some ⟨g',0,none⟩) (N+m) cap)) w') :
  wpList Tryz.prog ops Q (o :: rest) a w:=by
 obtain⟨i0,hi,hz0,hz1,hz2⟩:=info_parts hE
 refine wpList_append_keeps w hgd s x T ho base E i0 _ 1 24 hT hi hz0 hz1 hz2 rfl (by decide) v N xs hs hown ⟨g,0,none⟩ m c news hx (by omega) ?_ h1 hm0 (by unfold maxLen;omega) (by omega) hbase ?_
 ·intro j u hj
  exact World.news_of_block hnew j u (by simpa using hj)
 ·intro g' cap w' h1 h2 h3 h4
  exact h g' cap w' h1 h2 h4
theorem marks_snoc (n:Nat)(mk:Int):List.replicate n mk++[mk]=List.replicate (n+1) mk:=List.replicate_succ'.symm
theorem wpList_keeps_mark {w:World}{ops:Array Oper}{rest:List Oper}{o:Oper}{a:Act}{Q:Exit→Act→World→Prop}(hgd:o.guard=none)(s x:Operand)
  (ho:o.op=.call { callee:=.builtin .append,args:=#[s,x],argTypes:=#[29,29] })
  (base:Nat) (v:Value) (n:Nat) (mk:Int) (hs:a.eval s=v) (hown:w.ownsRow base 3 1 v n (ints (List.replicate n mk)))
  (g c:Nat) (hx:a.eval x=.slice (some ⟨g,0,none⟩) 1 c) (hnew:w.cell? ⟨g,0,none⟩=some (.int .i64 mk))
  (h63:n≤2000000000) (hbase:base≤w.heap.size)
  (h:∀ g' cap w',w'.ownsRow base 3 1 (.slice (some ⟨g',0,none⟩) (n+1) cap) (n+1) (ints (List.replicate (n+1) mk))→w.grownBy w' v.ownBlock→w'.ownsRow base 3 1 v n (ints (List.replicate n mk))→(v.ownBlock=some g'∨g'=w.heap.size)→wpList Tryz.prog ops Q rest (a.put o.dst (.slice (some ⟨g',0,none⟩) (n+1) cap)) w') :
  wpList Tryz.prog ops Q (o :: rest) a w:=by
 have hn:(List.replicate n mk).length=n:=List.length_replicate
 refine wpList_keeps_int hgd s x ho base v (List.replicate n mk) hs (by rw[hn];exact hown) g c mk hx hnew (by omega) hbase ?_
 intro g' cap w' h1 h2 h3 h4;rw[marks_snoc] at h1
 rw[hn] at h1 h3 ⊢
 rw[List.length_replicate] at h1
 exact h g' cap w' h1 h2 h3 h4
theorem markInt_any (k:Int)(w:World)(h0:0≤k)(h1:k≤2000000000):Calls Tryz.prog 49 #[.int .i64 k] w fun e w'=>e=.returned (.int .i64 (-1000-k))∧w'=w:=by
 go_enter Tryz.func49,Tryz.ntmps49
 go_wp2
 go_ret;exact⟨ret_int (by go_num),rfl⟩
theorem marks_step (l:List Int)(k:Nat)(mk:Int)(hk:k<l.length):(ints (List.replicate k mk++l.drop k)).set k (.int .i64 mk)=ints (List.replicate (k+1) mk++l.drop (k+1)):=by
 rw[ints_set];congr 1
 rw[List.set_append_right _ _ (by simp),List.length_replicate,Nat.sub_self,List.drop_eq_getElem_cons hk,List.set_cons_zero,List.replicate_succ',List.append_assoc]
 rfl
theorem marks_length (l:List Int)(k:Nat)(mk:Int)(hk:k≤l.length):(List.replicate k mk++l.drop k).length=l.length:=by
 rw[List.length_append,List.length_replicate,List.length_drop];omega
theorem grown_allocK {w w':World}{o:Obj}{row:Option Nat}(h:(w.alloc o).grownBy w' row):w.grownBy w' row :=
 ⟨h.os,h.tape,h.output,by have:=h.size;rw[World.size_alloc] at this;omega,fun k hk hr=>(h.block k (by rw[World.size_alloc];omega) hr).trans (Below.heap_alloc _ _ k hk)⟩
section
variable {P:Program}
end
theorem ents_write (A:List Ent)(x y:Ent)(C:List Ent)(n:Nat)(hn:n=A.length) :
  (((((ints (entsNums (A++x :: C))).set (n*5) (.int .i64 y.client)).set (n*5+1) (.int .i64 y.seq)).set (n*5+2) (.int .i64 y.kind)).set (n*5+3) (.int .i64 y.key)).set (n*5+4) (.int .i64 y.value)=ints (entsNums (A++y :: C)):=by
 subst hn;rw[ints_set,ints_set,ints_set,ints_set,ints_set];congr 1
 rw[entsNums_append,entsNums_append];have hl:(entsNums A).length=A.length*5:=by rw[entsNums_length];omega
 rw[← hl];have e1:entsNums (x :: C)=x.client :: x.seq :: x.kind :: x.key :: x.value :: entsNums C:=rfl
 have e2:entsNums (y :: C)=y.client :: y.seq :: y.kind :: y.key :: y.value :: entsNums C:=rfl
 rw[e1,e2];rw[List.set_append_right _ _ (Nat.le_refl _),List.set_append_right _ _ (by omega),List.set_append_right _ _ (by omega),List.set_append_right _ _ (by omega),List.set_append_right _ _ (by omega)]
 rw[Nat.sub_self,Nat.add_sub_cancel_left,Nat.add_sub_cancel_left,Nat.add_sub_cancel_left,Nat.add_sub_cancel_left];rfl
end Go.Proofs.YtgieeeeeiggoeaaGreat
namespace Go.Proofs.YtgieeeeeiggoeaaGreat
open Go.RowKit
def markE (mk:Int):Ent:=⟨mk,0,0,0,0⟩
theorem markEntry_any (k:Int)(w:World)(h0:0≤k)(h1:k≤2000000000):Calls Tryz.prog 50 #[.int .i64 k] w fun e w'=>e=.returned (.agg #[.int .i64 (-1000-k),.int .i64 0,.int .i64 0,.int .i64 0,.int .i64 0])∧Below w.heap.size w w':=by
 obtain⟨W,hW,hb0,hsz,q,fz⟩:=boxed w #[.int .i64 0,.int .i64 0,.int .i64 0,.int .i64 0,.int .i64 0] 42
 go_enter Tryz.func50,Tryz.ntmps50
 go_wp2_with fail;clear hW;refine (markInt_any _ _ h0 h1).mono ?_
 rintro e W1 ⟨rfl,rfl⟩;go_wp2_with fail;refine bodyPost_ret (v:=.agg #[.int .i64 (-1000-k),.int .i64 0,.int .i64 0,.int .i64 0,.int .i64 0]) (by simp[results,Tryz.results50,go_sem,q]) rfl ⟨rfl, ?_⟩
 iterate 5 refine Below.setCell ?_ (by exact Nat.le_refl _) _
 exact hb0
theorem wpList_keeps_ent {w:World}{ops:Array Oper}{rest:List Oper}{o:Oper}{a:Act}{Q:Exit→Act→World→Prop}(hgd:o.guard=none)(s x:Operand)
  (ho:o.op=.call { callee:=.builtin .append,args:=#[s,x],argTypes:=#[44,44] })
  (base:Nat) (v:Value) (n:Nat) (mk:Int) (hs:a.eval s=v) (hown:w.ownsRow base 42 5 v n (ints (entsNums (List.replicate n (markE mk)))))
  (g c:Nat) (hx:a.eval x=.slice (some ⟨g,0,none⟩) 1 c) (hnew:w.heap[g]?=some (.cells #[.int .i64 mk,.int .i64 0,.int .i64 0,.int .i64 0,.int .i64 0] 42))
  (h63:n≤2000000000) (hbase:base≤w.heap.size)
  (h:∀ g' cap w',w'.ownsRow base 42 5 (.slice (some ⟨g',0,none⟩) (n+1) cap) (n+1) (ints (entsNums (List.replicate (n+1) (markE mk))))→w.grownBy w' v.ownBlock→w'.ownsRow base 42 5 v n (ints (entsNums (List.replicate n (markE mk))))→(v.ownBlock=some g'∨g'=w.heap.size)→wpList Tryz.prog ops Q rest (a.put o.dst (.slice (some ⟨g',0,none⟩) (n+1) cap)) w') :
  wpList Tryz.prog ops Q (o :: rest) a w:=by
 obtain⟨i0,hi,hz0,hz1,hz2⟩:=info_parts infoEnt
 refine wpList_append_keeps w hgd s x 44 ho base 42 i0 _ 5 40 Tryz.underlying44 hi hz0 hz1 hz2 rfl (by decide) v n _ hs hown ⟨g,0,none⟩ 1 c (ints (markE mk).nums) hx rfl ?_ (ints_one _) (by omega) (by unfold maxLen;omega) (by omega) hbase ?_
 ·exact World.news_of_block hnew
 ·intro g' cap w' h1 h2 h3 h4
  rw[← ints_append, ← entsNums_one, ← entsNums_append, ← List.replicate_succ'] at h1
  exact h g' cap w' h1 h2 h3 h4
theorem infoTxt : (Tryz.prog.info? 111).map (fun i=>(i.zero,i.size,i.bytes))=some (some (.slice none 0 0),1,24):=by kernel_rfl
theorem infoAnsRow : (Tryz.prog.info? 91).map (fun i=>(i.zero,i.size,i.bytes))=some (some (.slice none 0 0),1,24):=by kernel_rfl
def markTail (acc:List UInt8)(k:Nat):List UInt8 :=
 if h:k=0 then acc else markTail (acc++[UInt8.ofNat (65+k % 26)]) (k / 26)
termination_by k
decreasing_by omega
def markT (k:Nat):List UInt8:=markTail [116,104,101,32,99,97,108,108,101,114,39,115,32] k
theorem markTail_zero (acc:List UInt8):markTail acc 0=acc:=by unfold markTail;simp
theorem markTail_pos (acc:List UInt8)(k:Nat)(h:0<k):markTail acc k=markTail (acc++[UInt8.ofNat (65+k % 26)]) (k / 26):=by rw[markTail];simp[Nat.ne_of_gt h]
theorem markText_any (k:Nat)(w:World)(hk:k≤1000000000):Calls Tryz.prog 51 #[.int .i64 (k:Int)] w fun e w'=>e=.returned (.string (bs (markT k)))∧Below w.heap.size w w':=by
 go_enter Tryz.func51,Tryz.ntmps51
 go_wp2_with fail;go_loopw [0,3] (fun n s wr=>∃ (j:Nat) (acc:List UInt8),j≤1000000000∧n=.int .i64 (j:Int)∧s=.string (bs acc)∧markTail acc j=markT k∧acc.length+j≤2000000000∧Below w.heap.size w wr) (fun n _ _=>(intOf n).toNat)
 case atStart=>exact⟨k,[116,104,101,32,99,97,108,108,101,114,39,115,32],hk,rfl,rfl,rfl,by simp;omega,Below.refl _ _⟩
 case round =>
  obtain⟨j,acc,hj,rfl,rfl,hm,hacc,hb⟩:=hrel;by_cases h0:0<j
  ·have hj1:(0:Int)<(j:Int):=by omega
   have hc:=conv1
   have ha:∀ w,(Op.stringOp .add (bs acc) { data:=#[65+UInt8.ofNat (j % 26)] }).run Tryz.prog w=.ok (.string (bs (acc++[65+UInt8.ofNat (j % 26)]))) w:=add_bs acc [65+UInt8.ofNat (j % 26)] (by simp;omega)
   have hstep:Hid (markTail (acc++[65+UInt8.ofNat (j % 26)]) (j / 26)=markT k):=hideA (by rw[← hm,markTail_pos acc j h0];congr 3;simp)
   have Hb:=hideA hb;clear hb hm;go_wp2_with fail;refine⟨⟨j / 26,_,by omega,by simp,rfl,hstep.out,by simp;omega,Hb.out.alloc Hb.out.size _⟩, ?_⟩
   simp[intOf]
   omega
  ·obtain rfl:j=0:=by omega
   rw[markTail_zero] at hm
   go_wp2_with fail;go_ret;exact⟨by rw[hm];rfl,hb⟩
theorem markText_int (z:Int)(w:World)(k:Nat)(hz:z=(k:Int))(hk:k≤1000000000):Calls Tryz.prog 51 #[.int .i64 z] w fun e w'=>e=.returned (.string (bs (markT k)))∧Below w.heap.size w w':=by
 subst hz;exact markText_any k w hk
def strs (l:List (List UInt8)):List Value:=l.map (fun x=>Value.string (bs x))
theorem strs_length (l:List (List UInt8)):(strs l).length=l.length:=List.length_map _
theorem strs_append (l m:List (List UInt8)):strs (l++m)=strs l++strs m:=List.map_append
theorem txts_length (l:List (List UInt8))(k:Nat)(mk:List UInt8)(hk:k≤l.length):(List.replicate k mk++l.drop k).length=l.length:=by
 rw[List.length_append,List.length_replicate,List.length_drop];omega
theorem strs_step (l:List (List UInt8))(k:Nat)(mk:List UInt8)(hk:k<l.length):(strs (List.replicate k mk++l.drop k)).set k (.string (bs mk))=strs (List.replicate (k+1) mk++l.drop (k+1)):=by
 unfold strs
 rw[← List.map_set (f:=fun x=>Value.string (bs x)) (a:=mk)]
 congr 1
 rw[List.set_append_right _ _ (by simp),List.length_replicate,Nat.sub_self,List.drop_eq_getElem_cons hk,List.set_cons_zero,List.replicate_succ',List.append_assoc]
 rfl
theorem infoStr1 : (Tryz.prog.info? 9).map (fun i=>(i.zero,i.size,i.bytes))=some (some (.string ⟨#[]⟩),1,16):=by kernel_rfl
theorem wpList_keeps_txt {w:World}{ops:Array Oper}{rest:List Oper}{o:Oper}{a:Act}{Q:Exit→Act→World→Prop}(hgd:o.guard=none)(s x:Operand)
  (ho:o.op=.call { callee:=.builtin .append,args:=#[s,x],argTypes:=#[111,111] })
  (base:Nat) (v:Value) (n:Nat) (mk:List UInt8) (hs:a.eval s=v) (hown:w.ownsRow base 9 1 v n (strs (List.replicate n mk)))
  (g c:Nat) (hx:a.eval x=.slice (some ⟨g,0,none⟩) 1 c) (hnew:w.cell? ⟨g,0,none⟩=some (.string (bs mk)))
  (h63:n≤2000000000) (hbase:base≤w.heap.size)
  (h:∀ g' cap w',w'.ownsRow base 9 1 (.slice (some ⟨g',0,none⟩) (n+1) cap) (n+1) (strs (List.replicate (n+1) mk))→w.grownBy w' v.ownBlock→w'.ownsRow base 9 1 v n (strs (List.replicate n mk))→(v.ownBlock=some g'∨g'=w.heap.size)→wpList Tryz.prog ops Q rest (a.put o.dst (.slice (some ⟨g',0,none⟩) (n+1) cap)) w') :
  wpList Tryz.prog ops Q (o :: rest) a w:=by
 obtain⟨i0,hi,hz0,hz1,hz2⟩:=info_parts infoStr1
 refine wpList_append_keeps w hgd s x 111 ho base 9 i0 _ 1 16 Tryz.underlying111 hi hz0 hz1 hz2 rfl (by decide) v n _ hs hown ⟨g,0,none⟩ 1 c [.string (bs mk)] hx rfl ?_ (by intro u hu;simp at hu;subst hu;rfl) (by omega) (by unfold maxLen;omega) (by omega) hbase ?_
 ·intro j u hj
  have hj0:j=0:=by
   have:=(List.getElem?_eq_some_iff.1 hj).1
   simp at this
   exact this
  subst hj0;have e:(⟨g,0,none⟩:Addr).add 0=⟨g,0,none⟩:=by unfold Addr.add;simp
  rw[e,hnew];simpa using hj
 ·intro g' cap w' h1 h2 h3 h4
  refine h g' cap w' ?_ h2 h3 h4
  have:strs (List.replicate (n+1) mk)=strs (List.replicate n mk)++[.string (bs mk)]:=by rw[List.replicate_succ',strs_append];rfl
  rw[this];exact h1
end Go.Proofs.YtgieeeeeiggoeaaGreat
