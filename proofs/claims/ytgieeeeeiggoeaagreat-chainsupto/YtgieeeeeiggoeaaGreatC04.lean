import Derived.Test.YtgieeeeeiggoeaaGreatC03
namespace Go.Proofs.YtgieeeeeiggoeaaGreat
theorem mk6 {g:Gh}{s:St}{m:Msg}(hk:m.kind=6)(h:∃ l0,g.cfg m.epoch (m.mems,l0)):MsgInv g s m:=by
 constructor<;>intro e<;>first|exact h|(exfalso;omega)
theorem mk7 {g:Gh}{s:St}{m:Msg}(hk:m.kind=7)(h:1≤m.epoch):MsgInv g s m:=by
 constructor<;>intro e<;>first|exact h|(exfalso;omega)
theorem mk9 {g:Gh}{s:St}{m:Msg}(hk:m.kind=9)(h:g.prepd m.epoch m.ballot):MsgInv g s m:=by
 constructor<;>intro e<;>first|exact h|(exfalso;omega)
theorem mk10 {g:Gh}{s:St}{m:Msg}(hk:m.kind=10)(h:g.promR m.src m.epoch m.ballot m.vote∧(0≤m.vote→g.prop m.epoch m.vote=some (m.mems,m.log))):MsgInv g s m:=by
 constructor<;>intro e<;>first|exact h|(exfalso;omega)
theorem mk11 {g:Gh}{s:St}{m:Msg}(hk:m.kind=11)(h:g.prop m.epoch m.ballot=some (m.mems,m.log)):MsgInv g s m:=by
 constructor<;>intro e<;>first|exact h|(exfalso;omega)
theorem mk12 {g:Gh}{s:St}{m:Msg}(hk:m.kind=12)(h:g.voted m.src m.epoch m.ballot):MsgInv g s m:=by
 constructor<;>intro e<;>first|exact h|(exfalso;omega)
theorem mk13 {g:Gh}{s:St}{m:Msg}(hk:m.kind=13)(h:g.cfg m.epoch (m.mems,m.log)∧m.dst∈m.mems):MsgInv g s m:=by
 constructor<;>intro e<;>first|exact h|(exfalso;omega)
theorem mk15 {g:Gh}{s:St}{m:Msg}(hk:m.kind=15)(h:∃ l0,g.cfg m.epoch (m.mems,l0)):MsgInv g s m:=by
 constructor<;>intro e<;>first|exact h|(exfalso;omega)
theorem setA_self (s:St)(i:Int):s.setA i (s.A i)=s:=by
 unfold St.setA
 have:(fun j=>if j=i then s.A i else s.A j)=s.A:=by
  funext j;by_cases h:j=i
  ·rw[if_pos h,h]
  ·rw[if_neg h]
 rw[this]
theorem setS_self (s:St)(i:Int):s.setS i (s.S i)=s:=by
 unfold St.setS
 have:(fun j=>if j=i then s.S i else s.S j)=s.S:=by
  funext j;by_cases h:j=i
  ·rw[if_pos h,h]
  ·rw[if_neg h]
 rw[this]
theorem setA_same (s:St)(i:Int)(r:Acc):(s.setA i r).A i=r:=if_pos rfl
theorem setA_other (s:St)(i j:Int)(r:Acc)(h:j≠i):(s.setA i r).A j=s.A j:=if_neg h
theorem setS_same (s:St)(i:Int)(r:Mas):(s.setS i r).S i=r:=if_pos rfl
theorem setS_other (s:St)(i j:Int)(r:Mas)(h:j≠i):(s.setS i r).S j=s.S j:=if_neg h
theorem Inv.accReg {g:Gh}{s:St}(h:Inv g s){a:Int}(_ha:isAcc a){a':Acc}(hv:a'.votes=(s.A a).votes)(hr:∃ l0,g.cfg a'.epoch (a'.mems,l0)) :
  Inv g (s.setA a a')∧Le g s g (s.setA a a'):=by
 have hle:Le g s g (s.setA a a'):=⟨rfl,id,id,id,id,id,fun h=>⟨_,h,List.prefix_refl _⟩,fun _ h=>h,id,fun h=>⟨_,h,List.prefix_refl _⟩,id,Nat.le_refl _,fun _ h _=>h⟩
 have hvotes:∀ x,((s.setA a a').A x).votes=(s.A x).votes:=by
  intro x;by_cases hx:x=a
  ·subst hx;rw[setA_same,hv]
  ·rw[setA_other _ _ _ _ hx]
 have hset:∀ E b,settledBy g s E b→settledBy g (s.setA a a') E b:=by
  intro E b hs;unfold settledBy at hs ⊢
  simp only [hvotes]
  exact hs
 refine⟨?_,hle⟩
 exact
  {npos:=h.npos
   voteAcc:=by intro x E b q;rw[hvotes];exact h.voteAcc q
   votes:=by intro x hx E;rw[hvotes];exact h.votes hx E
   prom:=by intro x E b v q;rw[hvotes];exact h.prom q
   prepd:=h.prepd
   propd:=h.propd
   prop:=h.prop
   mas:=fun hk=>(h.mas hk).mono hle rfl hset
   reg:=by
    intro x hx;by_cases hxa:x=a
    ·subst hxa;rw[setA_same];exact hr
    ·rw[setA_other _ _ _ _ hxa];exact h.reg hx
   rep:=h.rep
   hist:=h.hist
   chain:=h.chain }
def Gh.addProm (g:Gh)(a E b v:Int):Gh:={ g with promR:=fun a' E' b' v'=>g.promR a' E' b' v'∨(a'=a∧E'=E∧b'=b∧v'=v) }
def Gh.addVote (g:Gh)(a E b:Int):Gh:={ g with voted:=fun a' E' b'=>g.voted a' E' b'∨(a'=a∧E'=E∧b'=b) }
theorem upd_same (f:Int→AVote)(e:Int)(v:AVote):upd f e v e=v:=if_pos rfl
theorem upd_other (f:Int→AVote)(e e':Int)(v:AVote)(h:e'≠e):upd f e v e'=f e':=if_neg h
theorem Inv.accPrepare {g:Gh}{s:St}(h:Inv g s){a:Int}(ha:isAcc a){E b:Int}(hp:g.prepd E b)(hb:¬ b<((s.A a).votes E).promise) :
  Inv (g.addProm a E b ((s.A a).votes E).ballot) (s.setA a { s.A a with votes:=upd (s.A a).votes E { (s.A a).votes E with promise:=b } }) ∧
  Le g s (g.addProm a E b ((s.A a).votes E).ballot) (s.setA a { s.A a with votes:=upd (s.A a).votes E { (s.A a).votes E with promise:=b } }):=by
 generalize hs':s.setA a { s.A a with votes:=upd (s.A a).votes E { (s.A a).votes E with promise:=b } }=s'
 have hR:s'.R=s.R:=by rw[← hs'];rfl
 have hS:s'.S=s.S:=by rw[← hs'];rfl
 have hbal:∀ x E',((s'.A x).votes E').ballot=((s.A x).votes E').ballot∧((s'.A x).votes E').mems=((s.A x).votes E').mems∧((s'.A x).votes E').log=((s.A x).votes E').log:=by
  intro x E';rw[← hs'];by_cases hx:x=a
  ·subst hx
   rw[setA_same];by_cases he:E'=E
   ·subst he;simp only [upd_same,and_self]
   ·simp only [upd_other _ _ _ _ he,and_self]
  ·rw[setA_other _ _ _ _ hx];simp
 have hprm:∀ x E',((s.A x).votes E').promise≤((s'.A x).votes E').promise∧(x=a→E'=E→((s'.A x).votes E').promise=b):=by
  intro x E';rw[← hs'];by_cases hx:x=a
  ·subst hx
   rw[setA_same];by_cases he:E'=E
   ·subst he;simp only [upd_same];exact⟨by omega,fun _ _=>trivial⟩
   ·simp only [upd_other _ _ _ _ he];exact⟨Int.le_refl _,fun _ q=>absurd q he⟩
  ·rw[setA_other _ _ _ _ hx];exact⟨Int.le_refl _,fun q=>absurd q hx⟩
 have hrg:∀ x,(s'.A x).epoch=(s.A x).epoch∧(s'.A x).mems=(s.A x).mems:=by
  intro x;rw[← hs'];by_cases hx:x=a
  ·subst hx;rw[setA_same];exact⟨rfl,rfl⟩
  ·rw[setA_other _ _ _ _ hx];exact⟨rfl,rfl⟩
 have hfr:∀ i e,s'.frozen i e↔s.frozen i e:=by intro i e;unfold St.frozen;rw[hR]
 have hle:Le g s (g.addProm a E b ((s.A a).votes E).ballot) s' :=
  ⟨rfl,id,id,id,.inl,id,fun h=>⟨_,h,List.prefix_refl _⟩,fun _ h=>h,fun q=>(hfr _ _).2 q,fun h=>⟨_,h,List.prefix_refl _⟩,id,Nat.le_refl _,fun _ h _=>h⟩
 have hset:∀ E' b',settledBy g s E' b'→settledBy (g.addProm a E b ((s.A a).votes E).ballot) s' E' b':=by
  rintro E' b' ⟨a1,a2,h12,i1,i2,v1,v2,p1,p2⟩;refine⟨a1,a2,h12,i1,i2,by rw[(hbal _ _).1];exact v1,by rw[(hbal _ _).1];exact v2, ?_, ?_⟩
  ·rintro v (q|⟨rfl,rfl,rfl,rfl⟩)
   ·exact p1 v q
   ·exact v1
  ·rintro v (q|⟨rfl,rfl,rfl,rfl⟩)
   ·exact p2 v q
   ·exact v2
 refine⟨?_,hle⟩
 exact
  {npos:=h.npos
   voteAcc:=by intro x E' b' q;rw[(hbal _ _).1];exact h.voteAcc q
   votes:=by
    intro x hx E';obtain⟨q1,q2⟩:=h.votes hx E'
    obtain⟨e1,e2,e3⟩:=hbal x E'
    rw[e1,e2,e3];exact⟨Int.le_trans q1 (hprm x E').1,q2⟩
   prom:=by
    rintro x E' b' v (q|⟨rfl,rfl,rfl,rfl⟩)
    ·obtain⟨q1,q2,q3,q4⟩:=h.prom q
     exact⟨q1,q2,Int.le_trans q3 (hprm x E').1,q4⟩
    ·obtain⟨q1,q2⟩:=h.votes ha E'
     refine⟨ha,hp,by rw[(hprm x E').2 rfl rfl];exact Int.le_refl _,by omega,fun h0=>(q2 h0).1, ?_⟩
     intro b2 hv _;exact (h.voteAcc hv).2.2.2
   prepd:=by intro E' b' q;unfold Proofs.YtgieeeeeiggoeaaGreat.came;rw[hS];exact h.prepd q
   propd:=by intro E' b' q;unfold Proofs.YtgieeeeeiggoeaaGreat.came;rw[hS];exact h.propd q
   prop:=by
    intro E' b' val q;obtain⟨q1,q2,q3,q4,a1,a2,v1,v2,q5,q6,q7,q8⟩:=h.prop q
    exact⟨q1,q2,q3,hle.fresh q4,a1,a2,v1,v2,q5,.inl q6,.inl q7,q8⟩
   mas:=fun hk=>(h.mas hk).mono hle (by rw[hS]) hset
   reg:=by
    intro x hx;obtain⟨e1,e2⟩:=hrg x
    rw[e1,e2];exact h.reg hx
   rep:=by rw[hR];exact h.rep
   hist:=by rw[hR];exact h.hist
   chain:=h.chain }
theorem Inv.accAccept {g:Gh}{s:St}(h:Inv g s){a:Int}(ha:isAcc a){E b:Int}{mems:List Int}{log:List Ent}(hp:g.prop E b=some (mems,log))(hb:¬ b<((s.A a).votes E).promise) :
  Inv (g.addVote a E b) (s.setA a { s.A a with votes:=upd (s.A a).votes E ⟨b,b,mems,log⟩ }) ∧
  Le g s (g.addVote a E b) (s.setA a { s.A a with votes:=upd (s.A a).votes E ⟨b,b,mems,log⟩ }):=by
 generalize hs':s.setA a { s.A a with votes:=upd (s.A a).votes E ⟨b,b,mems,log⟩ }=s'
 have hR:s'.R=s.R:=by rw[← hs'];rfl
 have hS:s'.S=s.S:=by rw[← hs'];rfl
 have hsame:∀ x E',¬ (x=a∧E'=E)→(s'.A x).votes E'=(s.A x).votes E':=by
  intro x E' hn;rw[← hs'];by_cases hx:x=a
  ·subst hx
   rw[setA_same];exact upd_other _ _ _ _ (fun q=>hn ⟨rfl,q⟩)
  ·rw[setA_other _ _ _ _ hx]
 have hnew:(s'.A a).votes E=⟨b,b,mems,log⟩:=by rw[← hs',setA_same];exact upd_same _ _ _
 have hrg:∀ x,(s'.A x).epoch=(s.A x).epoch∧(s'.A x).mems=(s.A x).mems:=by
  intro x;rw[← hs'];by_cases hx:x=a
  ·subst hx;rw[setA_same];exact⟨rfl,rfl⟩
  ·rw[setA_other _ _ _ _ hx];exact⟨rfl,rfl⟩
 obtain⟨v1,v2⟩:=h.votes ha E
 obtain⟨p1,p2, -⟩:=h.prop hp
 have hprm:∀ x E',((s.A x).votes E').promise≤((s'.A x).votes E').promise∧((s.A x).votes E').ballot≤((s'.A x).votes E').ballot:=by
  intro x E';by_cases hx:x=a∧E'=E
  ·obtain⟨rfl,rfl⟩:=hx
   rw[hnew];exact⟨by show _≤b;omega,by show _≤b;omega⟩
  ·rw[hsame _ _ hx];exact⟨Int.le_refl _,Int.le_refl _⟩
 have hfr:∀ i e,s'.frozen i e↔s.frozen i e:=by intro i e;unfold St.frozen;rw[hR]
 have hcfg:∀ {E' v},g.cfg E' v→(g.addVote a E b).cfg E' v:=by
  rintro E' v (q|⟨q1,b',a1,a2,q2,q3,q4,q5⟩)
  ·exact .inl q
  ·exact .inr ⟨q1,b',a1,a2,q2,.inl q3,.inl q4,q5⟩
 have hle:Le g s (g.addVote a E b) s' :=
  ⟨rfl,id,id,.inl,id,id,fun h=>⟨_,h,List.prefix_refl _⟩,fun _ h=>h,fun q=>(hfr _ _).2 q,by
   rintro e c ⟨m,l,q,rfl⟩;exact⟨_,⟨m,l,hcfg q,rfl⟩,List.prefix_refl _⟩,id,Nat.le_refl _,fun _ h _=>h⟩
 have hset:∀ E' b',settledBy g s E' b'→settledBy (g.addVote a E b) s' E' b':=by
  rintro E' b' ⟨a1,a2,h12,i1,i2,w1,w2,q1,q2⟩;exact⟨a1,a2,h12,i1,i2,Int.le_trans w1 (hprm _ _).2,Int.le_trans w2 (hprm _ _).2,q1,q2⟩
 have hprom:∀ {x E' b' v},g.promR x E' b' v→isAcc x∧∀ b2,(g.addVote a E b).voted x E' b2→b2<b'→b2≤v:=by
  intro x E' b' v q;obtain⟨q1,q2,q3,q4,q5,q6⟩:=h.prom q
  refine⟨q1, ?_⟩
  rintro b2 (hv|⟨rfl,rfl,rfl⟩) hlt
  ·exact q6 b2 hv hlt
  ·omega
 have hpax:Pax (g.addVote a E b) :=
  {acc:=by
    rintro x E' b' (q|⟨rfl,rfl,rfl⟩)
    ·exact (h.voteAcc q).1
    ·exact ha
   prom:=hprom
   prop:=fun q=>⟨(h.prop q).1,(h.prop q).2.2.2.2⟩ }
 refine⟨?_,hle⟩
 exact
  {npos:=h.npos
   voteAcc:=by
    rintro x E' b' (q|⟨rfl,rfl,rfl⟩)
    ·obtain⟨q1,q2,q3,q4⟩:=h.voteAcc q
     exact⟨q1,q2,q3,Int.le_trans q4 (hprm x E').2⟩
    ·exact⟨ha,p2,⟨_,hp⟩,by rw[hnew];exact Int.le_refl _⟩
   votes:=by
    intro x hx E';by_cases hxe:x=a∧E'=E
    ·obtain⟨rfl,rfl⟩:=hxe
     rw[hnew];exact⟨Int.le_refl _,fun _=>⟨.inr ⟨rfl,rfl,rfl⟩,hp⟩⟩
    ·rw[hsame _ _ hxe]
     obtain⟨q1,q2⟩:=h.votes hx E'
     exact⟨q1,fun h0=>⟨.inl (q2 h0).1,(q2 h0).2⟩⟩
   prom:=by
    intro x E' b' v q;obtain⟨q1,q2,q3,q4,q5,q6⟩:=h.prom q
    exact⟨q1,q2,Int.le_trans q3 (hprm x E').1,q4,fun h0=>.inl (q5 h0),(hprom q).2⟩
   prepd:=by intro E' b' q;unfold Proofs.YtgieeeeeiggoeaaGreat.came;rw[hS];exact h.prepd q
   propd:=by intro E' b' q;unfold Proofs.YtgieeeeeiggoeaaGreat.came;rw[hS];exact h.propd q
   prop:=by
    intro E' b' val q;obtain⟨q1,q2,q3,q4,q5⟩:=h.prop q
    exact⟨q1,q2,q3,hle.fresh q4,q5⟩
   mas:=fun hk=>(h.mas hk).mono hle (by rw[hS]) hset
   reg:=by
    intro x hx;obtain⟨e1,e2⟩:=hrg x
    rw[e1,e2];obtain⟨l0,q⟩:=h.reg hx
    exact⟨l0,hcfg q⟩
   rep:=by
    rw[hR];intro i hi0 hi1;obtain⟨q1,q2,qs,l0,q3,q4,c,q5,q6⟩:=h.rep hi0 hi1
    obtain⟨c',q7,q8⟩:=hle.com q5
    exact⟨q1,q2,qs,l0,hcfg q3,q4,c',q7,by have:=q8.length_le;omega⟩
   hist:=by
    rw[hR];intro i e l q;obtain⟨q1,q2,q3,⟨m,l0,q4,q5,q6⟩,q7⟩:=h.hist q
    exact⟨q1,q2,q3,⟨m,l0,hcfg q4,q5,q6⟩,q7⟩
   chain:=by
    intro e m l0 hc i x y hx hy;by_cases hex:∃ v,g.cfg e v
    ·obtain⟨v,hv⟩:=hex
     have:=hpax.cfg_one hc (hcfg hv)
     subst this;exact h.chain hv hx hy
    ·have hno:∀ j,g.hist j e=none:=by
      intro j;cases hj:g.hist j e with
      | none=>rfl
      | some l =>
       obtain⟨_,_,_,⟨m2,l2,q4,_⟩,_⟩:=h.hist hj
       exact absurd ⟨_,q4⟩ hex
     show (g.hist y e).getD l0 <+: (g.hist x e).getD l0
     rw[hno,hno];exact List.prefix_refl _ }
theorem Inv.accTake {g:Gh}{s:St}(h:Inv g s){a:Int}(ha:isAcc a)(m:Msg)(hm:MsgInv g s m)(hd:m.dst=a) :
  ∃ g',Inv g' (s.setA a ((s.A a).take m).1)∧Le g s g' (s.setA a ((s.A a).take m).1)∧∀ x∈((s.A a).take m).2,MsgInv g' (s.setA a ((s.A a).take m).1) x:=by
 unfold Acc.take
 have quiet:∀ (out:List Msg),(∀ x∈out,MsgInv g s x)→∃ g',Inv g' (s.setA a (s.A a))∧Le g s g' (s.setA a (s.A a))∧∀ x∈out,MsgInv g' (s.setA a (s.A a)) x:=by
  intro out ho;rw[setA_self];exact⟨g,h,Le.refl g s,ho⟩
 split
 ·refine quiet _ ?_
  intro x hx;rw[List.mem_singleton] at hx
  subst hx;exact mk6 rfl (h.reg ha)
 ·split
  ·rename_i hk
   split
   ·exact quiet _ (fun x hx=>by cases hx)
   ·rename_i hb
    obtain⟨h1,h2⟩:=h.accPrepare ha (hm.pre hk) hb
    refine⟨_,h1,h2, ?_⟩
    intro x hx;rw[List.mem_singleton] at hx
    subst hx;refine mk10 rfl ⟨.inr ⟨hd,rfl,rfl,rfl⟩,fun h0 => ?_⟩
    exact ((h.votes ha m.epoch).2 h0).2
  ·split
   ·rename_i hk
    split
    ·exact quiet _ (fun x hx=>by cases hx)
    ·rename_i hb
     obtain⟨h1,h2⟩:=h.accAccept ha (hm.acc hk) hb
     refine⟨_,h1,h2, ?_⟩
     intro x hx;rw[List.mem_singleton] at hx
     subst hx;exact mk12 rfl (.inr ⟨hd,rfl,rfl⟩)
   ·split
    ·rename_i hk
     have hout:∀ (g':Gh) (s':St),∀ x∈[({ kind:=16,src:=m.dst,dst:=m.src,epoch:=m.epoch }:Msg)],MsgInv g' s' x:=by
      intro g' s' x hx;rw[List.mem_singleton] at hx
      subst hx;exact mk14 (.inr (.inr rfl))
     split
     ·obtain⟨h1,h2⟩:=h.accReg ha (a':={ s.A a with epoch:=m.epoch,mems:=m.mems }) rfl (hm.wri hk)
      exact⟨_,h1,h2,hout _ _⟩
     ·exact quiet _ (hout _ _)
    ·exact quiet _ (fun x hx=>by cases hx)
theorem MasInv.asks_ok {g:Gh}{s:St}{k:Int}(h:MasInv g s k):∀ x∈(s.S k).asks k,MsgInv g s x:=by
 intro x hx;unfold Mas.asks at hx
 simp only [List.mem_map,List.mem_filter] at hx
 obtain⟨d,⟨hd,_⟩,rfl⟩:=hx;have h6:=h.does
 unfold Mas.ask
 split
 ·exact mk14 (.inl rfl)
 ·rename_i q
  exact mk7 rfl (h.old (by omega)).1
 ·rename_i q
  exact mk9 rfl (h.prep (by omega))
 ·rename_i q
  exact mk11 rfl (h.prop (by omega))
 ·rename_i q
  refine mk13 rfl ⟨h.cfg (by omega), ?_⟩
  unfold Mas.all at hd
  rw[q] at hd
  exact hd
 ·rename_i q1 q2 q3 q4 q5
  by_cases h0:(s.S k).does=0
  ·unfold Mas.all at hd
   rw[h0] at hd
   cases hd
  ·have:(s.S k).does≠1:=fun e=>q1 e
   have:(s.S k).does≠2:=fun e=>q2 e
   have:(s.S k).does≠3:=fun e=>q3 e
   have:(s.S k).does≠4:=fun e=>q4 e
   have:(s.S k).does≠5:=fun e=>q5 e
   exact mk15 rfl ⟨_,h.cfg (by omega)⟩
theorem came_begun {s:St}{b E:Int}{d:Nat}{k:Int}(h:Proofs.YtgieeeeeiggoeaaGreat.came s b E d)(hk:isMas k){n:Nat}(hb:b=2*(n:Int)+(k-200)):n≤(s.S k).begun∧((s.S k).does≠0→(s.S k).ballot=b→d≤(s.S k).does∧(s.S k).epoch=E):=by
 obtain⟨k',hk',⟨x,e1,e2,e3⟩,h2⟩:=h;unfold isMas at hk hk'
 have:k'=k:=by omega
 subst this;have:x=n:=by omega
 subst this;exact⟨e3,h2⟩
theorem came_mono {s:St}{k:Int}{m':Mas}{b E:Int}{d:Nat}(h:Proofs.YtgieeeeeiggoeaaGreat.came s b E d)(hbg:(s.S k).begun≤m'.begun)
  (hgo:m'.does≠0→m'.ballot=b→(∃ n:Nat,b=2*(n:Int)+(k-200)∧n≤(s.S k).begun)→d≤(s.S k).does→(s.S k).epoch=E→(s.S k).does≠0∧(s.S k).ballot=b→d≤m'.does∧m'.epoch=E)
  (hsame:m'.does≠0→(∃ n:Nat,m'.ballot=2*(n:Int)+(k-200)∧n≤(s.S k).begun)→(s.S k).does≠0∧(s.S k).ballot=m'.ballot) :
  Proofs.YtgieeeeeiggoeaaGreat.came (s.setS k m') b E d:=by
 obtain⟨k',hk',⟨x,e1,e2,e3⟩,h2⟩:=h;by_cases hk:k'=k
 ·subst hk
  refine⟨k',hk',⟨x,e1,e2,by rw[setS_same];omega⟩, ?_⟩
  rw[setS_same];intro q1 q2;obtain⟨w1,w2⟩:=hsame q1 ⟨x,by rw[q2];exact e1,e3⟩
  obtain⟨y1,y2⟩:=h2 w1 (w2.trans q2)
  exact hgo q1 q2 ⟨x,e1,e3⟩ y1 y2 ⟨w1,w2.trans q2⟩
 ·refine⟨k',hk',⟨x,e1,e2,by rw[setS_other _ _ _ _ hk];exact e3⟩, ?_⟩
  rw[setS_other _ _ _ _ hk];exact h2
theorem Inv.masStep {g:Gh}{s:St}(h:Inv g s){k:Int}{m':Mas}(hm:MasInv g (s.setS k m') k)(hcm:∀ b E d,3≤d→Proofs.YtgieeeeeiggoeaaGreat.came s b E d→Proofs.YtgieeeeeiggoeaaGreat.came (s.setS k m') b E d) :
  Inv g (s.setS k m')∧Le g s g (s.setS k m'):=by
 have hle:Le g s g (s.setS k m'):=⟨rfl,id,id,id,id,id,fun h=>⟨_,h,List.prefix_refl _⟩,fun _ h=>h,id,fun h=>⟨_,h,List.prefix_refl _⟩,id,Nat.le_refl _,fun _ h _=>h⟩
 refine⟨?_,hle⟩
 exact { h with
   prepd:=fun q=>⟨(h.prepd q).1,hcm _ _ _ (by omega) (h.prepd q).2⟩
   propd:=fun q=>hcm _ _ _ (by omega) (h.propd q)
   mas:=by
    intro k' hk';by_cases e:k'=k
    ·subst e;exact hm
    ·exact (h.mas hk').mono hle (setS_other _ _ _ _ e) (fun _ _ q=>q) }
def Gh.addPrep (g:Gh)(E b:Int):Gh:={ g with prepd:=fun E' b'=>g.prepd E' b'∨(E'=E∧b'=b) }
theorem Inv.masPrep {g:Gh}{s:St}(h:Inv g s){k:Int}{m':Mas}{E b:Int}(hE:1≤E)(hb:Proofs.YtgieeeeeiggoeaaGreat.came (s.setS k m') b E 3)(hm:MasInv (g.addPrep E b) (s.setS k m') k)
  (hcm:∀ b E d,3≤d→Proofs.YtgieeeeeiggoeaaGreat.came s b E d→Proofs.YtgieeeeeiggoeaaGreat.came (s.setS k m') b E d) :
  Inv (g.addPrep E b) (s.setS k m')∧Le g s (g.addPrep E b) (s.setS k m'):=by
 have hle:Le g s (g.addPrep E b) (s.setS k m'):=⟨rfl,id,id,id,id,.inl,fun h=>⟨_,h,List.prefix_refl _⟩,fun _ h=>h,id,fun h=>⟨_,h,List.prefix_refl _⟩,id,Nat.le_refl _,fun _ h _=>h⟩
 refine⟨?_,hle⟩
 exact
  {npos:=h.npos,voteAcc:=h.voteAcc,votes:=h.votes,reg:=h.reg,rep:=h.rep,hist:=h.hist,chain:=h.chain,prop:=h.prop
   prom:=fun q=>⟨(h.prom q).1,.inl (h.prom q).2.1,(h.prom q).2.2⟩
   prepd:=by
    rintro E' b' (q|⟨rfl,rfl⟩)
    ·exact⟨(h.prepd q).1,hcm _ _ _ (by omega) (h.prepd q).2⟩
    ·exact⟨hE,hb⟩
   propd:=fun q=>hcm _ _ _ (by omega) (h.propd q)
   mas:=by
    intro k' hk';by_cases e:k'=k
    ·subst e;exact hm
    ·exact (h.mas hk').mono hle (setS_other _ _ _ _ e) (fun _ _ q=>q) }
def Gh.addProp (g:Gh)(E b:Int)(v:List Int × List Ent):Gh:={ g with prop:=fun E' b'=>if E'=E∧b'=b then some v else g.prop E' b' }
theorem Inv.masProp {g:Gh}{s:St}(h:Inv g s){k:Int}{m':Mas}{E b:Int}{v:List Int × List Ent}(hnone:g.prop E b=none)(hE:1≤E)(hb0:0≤b)(hv:memsOk v.1 g.n=true)(hf:fresh g s E v.2)
  (hq:∃ a1 a2 v1 v2,a1≠a2∧g.promR a1 E b v1∧g.promR a2 E b v2∧v1<b∧v2<b∧(0≤v1∨0≤v2→g.prop E (max v1 v2)=some v))
  (hb:Proofs.YtgieeeeeiggoeaaGreat.came (s.setS k m') b E 4) (hm:(∀ {E' w},g.cfg E' w→(g.addProp E b v).cfg E' w)→Le g s (g.addProp E b v) (s.setS k m')→MasInv (g.addProp E b v) (s.setS k m') k)
  (hcm:∀ b E d,3≤d→Proofs.YtgieeeeeiggoeaaGreat.came s b E d→Proofs.YtgieeeeeiggoeaaGreat.came (s.setS k m') b E d) :
  Inv (g.addProp E b v) (s.setS k m')∧Le g s (g.addProp E b v) (s.setS k m'):=by
 have hprop:∀ {E' b' w},g.prop E' b'=some w→(g.addProp E b v).prop E' b'=some w:=by
  intro E' b' w q;show (if _ then _ else _)=_
  rw[if_neg]
  ·exact q
  ·rintro⟨rfl,rfl⟩
   rw[hnone] at q
   cases q
 have hback:∀ {E' b' w},(g.addProp E b v).prop E' b'=some w→g.prop E' b'=some w∨(E'=E∧b'=b∧w=v):=by
  intro E' b' w q;by_cases e:E'=E∧b'=b
  ·right
   have:(g.addProp E b v).prop E' b'=some v:=if_pos e
   rw[this] at q
   injection q with q
   exact⟨e.1,e.2,q.symm⟩
  ·left
   have:(g.addProp E b v).prop E' b'=g.prop E' b':=if_neg e
   rw[this] at q
   exact q
 have hcfg:∀ {E' w},g.cfg E' w→(g.addProp E b v).cfg E' w:=by
  rintro E' w (q|⟨q1,b',a1,a2,q2,q3,q4,q5⟩)
  ·exact .inl q
  ·exact .inr ⟨q1,b',a1,a2,q2,q3,q4,hprop q5⟩
 have hcfg':∀ {E' w},(g.addProp E b v).cfg E' w→g.cfg E' w:=by
  rintro E' w (q|⟨q1,b',a1,a2,q2,q3,q4,q5⟩)
  ·exact .inl q
  ·rcases hback q5 with q|⟨rfl,rfl,rfl⟩
   ·exact .inr ⟨q1,b',a1,a2,q2,q3,q4,q⟩
   ·obtain⟨_,_,⟨w,hw⟩,_⟩:=h.voteAcc q3
    rw[hnone] at hw
    cases hw
 have hle:Le g s (g.addProp E b v) (s.setS k m'):=⟨rfl,id,hprop,id,id,id,fun h=>⟨_,h,List.prefix_refl _⟩,fun _ h=>h,id,by
   rintro e c ⟨m,l,q,rfl⟩;exact⟨_,⟨m,l,hcfg q,rfl⟩,List.prefix_refl _⟩,id,Nat.le_refl _,fun _ h _=>h⟩
 refine⟨?_,hle⟩
 exact
  {npos:=h.npos
   voteAcc:=by
    intro a E' b' q;obtain⟨q1,q2,⟨w,q3⟩,q4⟩:=h.voteAcc q
    exact⟨q1,q2,⟨w,hprop q3⟩,q4⟩
   votes:=by
    intro a ha E';obtain⟨q1,q2⟩:=h.votes ha E'
    exact⟨q1,fun h0=>⟨(q2 h0).1,hprop (q2 h0).2⟩⟩
   prom:=h.prom
   prepd:=fun q=>⟨(h.prepd q).1,hcm _ _ _ (by omega) (h.prepd q).2⟩
   propd:=by
    intro E' b' q;obtain⟨w,hw⟩:=Option.isSome_iff_exists.1 q
    rcases hback hw with q'|⟨rfl,rfl,rfl⟩
    ·exact hcm _ _ _ (by omega) (h.propd (by rw[q'];rfl))
    ·exact hb
   prop:=by
    intro E' b' w q;rcases hback q with q'|⟨rfl,rfl,rfl⟩
    ·obtain⟨q1,q2,q3,q4,a1,a2,v1,v2,q5,q6,q7,q8,q9,q10⟩:=h.prop q'
     exact⟨q1,q2,q3,hle.fresh q4,a1,a2,v1,v2,q5,q6,q7,q8,q9,fun x=>hprop (q10 x)⟩
    ·obtain⟨a1,a2,v1,v2,q5,q6,q7,q8,q9,q10⟩:=hq
     exact⟨hb0,hE,hv,hle.fresh hf,a1,a2,v1,v2,q5,q6,q7,q8,q9,fun x=>hprop (q10 x)⟩
   mas:=by
    intro k' hk';by_cases e:k'=k
    ·subst e;exact hm hcfg hle
    ·exact (h.mas hk').mono hle (setS_other _ _ _ _ e) (fun _ _ q=>q)
   reg:=by
    intro a ha;obtain⟨l0,q⟩:=h.reg ha
    exact⟨l0,hcfg q⟩
   rep:=by
    intro i hi0 hi1;obtain⟨q1,q2,qs,l0,q3,q4,c,q5,q6⟩:=h.rep hi0 hi1
    obtain⟨c',q7,q8⟩:=hle.com q5
    exact⟨q1,q2,qs,l0,hcfg q3,q4,c',q7,Nat.le_trans q6 q8.length_le⟩
   hist:=by
    intro i e l q;obtain⟨q1,q2,q3,⟨m,l0,q4,q5,q6⟩,q7⟩:=h.hist q
    exact⟨q1,q2,q3,⟨m,l0,hcfg q4,q5,q6⟩,q7⟩
   chain:=fun hc=>h.chain (hcfg' hc) }
theorem better_max (f:Msg→Int)(c:List Msg)(d:Msg):f (better f c d)=max (f (c.headD d)) (f d):=by
 unfold better
 split<;>omega
theorem better_or (f:Msg→Int)(c:List Msg)(d:Msg):better f c d=c.headD d∨better f c d=d:=by
 unfold better
 split
 ·exact .inr rfl
 ·exact .inl rfl
theorem headD_mem {c:List Msg}(h:c≠[])(d:Msg):c.headD d∈c:=by
 cases c with
 | nil=>exact absurd rfl h
 | cons a t=>exact List.mem_cons_self
theorem fits_iff {s:Mas}{m:Msg}(h:s.fits m=true):s.does≠0∧m.kind=4+2*(s.does:Int)∧(s.does≠1→m.epoch=s.epoch)∧(s.does<5→m.ballot=s.ballot)∧m.src∈s.all∧∀ x∈s.came,x.src≠m.src:=by
 unfold Mas.fits at h
 simp only [Bool.and_eq_true,Bool.or_eq_true,decide_eq_true_eq,Bool.not_eq_true'] at h
 obtain⟨⟨⟨⟨⟨h1,h2⟩,h3⟩,h4⟩,h5⟩,h6⟩:=h;refine⟨h1,h2,by omega,by omega,h5, ?_⟩
 intro x hx e;unfold Mas.cameFrom at h6
 rw[List.any_eq_false] at h6
 exact h6 x hx (by simpa using e)
end Go.Proofs.YtgieeeeeiggoeaaGreat
