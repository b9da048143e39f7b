import Derived.Test.YtgieeeeeiggoeaaGreatC02
namespace Go.Proofs.YtgieeeeeiggoeaaGreat
structure Le (g:Gh)(s:St)(g':Gh)(s':St):Prop where
 n:g'.n=g.n
 asked:∀ {x},g.asked x→g'.asked x
 prop:∀ {E b v},g.prop E b=some v→g'.prop E b=some v
 voted:∀ {a E b},g.voted a E b→g'.voted a E b
 promR:∀ {a E b v},g.promR a E b v→g'.promR a E b v
 prepd:∀ {E b},g.prepd E b→g'.prepd E b
 hist:∀ {i e l},g.hist i e=some l→∃ l',g'.hist i e=some l'∧l <+: l'
 still:∀ {i e l},s.frozen i e→g.hist i e=some l→g'.hist i e=some l
 fz:∀ {i e},s.frozen i e→s'.frozen i e
 com:∀ {e c},g.com e c→∃ c',g'.com e c'∧c <+: c'
 back:∀ {x},g'.asked x→g.asked x
 seen:g.seen≤g'.seen
 top:∀ K,g.seen≤K→(∀ i:Int,0≤i→i<g.n→(s'.R i).commit≤K)→g'.seen≤K
theorem Le.refl (g:Gh)(s:St):Le g s g s :=
 ⟨rfl,id,id,id,id,id,fun h=>⟨_,h,List.prefix_refl _⟩,fun _ h=>h,id,fun h=>⟨_,h,List.prefix_refl _⟩,id,Nat.le_refl _,fun _ h _=>h⟩
theorem Le.cfg {g g':Gh}{s s':St}(h:Le g s g' s'){E:Int}{v:List Int × List Ent}(hc:g.cfg E v):g'.cfg E v:=by
 rcases hc with ⟨e,rfl⟩|⟨e,b,a1,a2,n12,q1,q2,p⟩
 ·exact .inl ⟨e,by rw[h.n]⟩
 ·exact .inr ⟨e,b,a1,a2,n12,h.voted q1,h.voted q2,h.prop p⟩
theorem Le.fresh {g g':Gh}{s s':St}(h:Le g s g' s'){E:Int}{l:List Ent}(hf:fresh g s E l):fresh g' s' E l:=by
 obtain⟨r,mems,l0,hc,hr,hz,hh⟩:=hf;exact⟨r,mems,l0,h.cfg hc,hr,h.fz hz,h.still hz hh⟩
theorem prefix_take {a b:List Ent}(h:a <+: b)(p:Nat)(hp:p≤a.length):b.take p=a.take p:=by
 obtain⟨t,rfl⟩:=h;rw[List.take_append_of_le_length hp]
theorem prefix_get {a b:List Ent}(h:a <+: b){p:Nat}{x:Ent}(hx:a[p]?=some x):b[p]?=some x:=by
 obtain⟨t,rfl⟩:=h;rw[List.getElem?_append_left (List.getElem?_eq_some_iff.1 hx).1]
 exact hx
theorem answer_prefix {a b:List Ent}(h:a <+: b){p:Nat}{x:Ent}(hx:a[p]?=some x):answerAt b p=answerAt a p:=by
 have hlt:=(List.getElem?_eq_some_iff.1 hx).1
 unfold answerAt
 rw[prefix_take h p (by omega),List.getD,List.getD,prefix_get h hx,hx]
theorem MsgInv.mono {g g':Gh}{s s':St}(h:Le g s g' s'){m:Msg}(k:MsgInv g s m):MsgInv g' s' m where
 req:=fun e=>by obtain⟨x,h1,h2⟩:=k.req e;exact⟨x,h1,h.asked h2⟩
 fwd:=fun e=>by
  obtain⟨l,x,p,h1,h2,h3,h4⟩:=k.fwd e
  obtain⟨l',h1',hp⟩:=h.hist h1
  exact⟨l',x,p,h1',h2,prefix_get hp h3,h4⟩
 ack:=fun e=>by
  obtain⟨c,h1,h2⟩:=k.ack e
  obtain⟨c',h1',hp⟩:=h.com h1
  exact⟨c',h1',by have:=hp.length_le;omega⟩
 rep:=fun e=>by
  obtain⟨ep,c,x,p,h1,h2,h3,h4,h5,h6⟩:=k.rep e
  obtain⟨c',h1',hp⟩:=h.com h1
  exact⟨ep,c',x,p,h1',prefix_get hp h2,h3,h4,by rw[h5,answer_prefix hp h2],Nat.lt_of_lt_of_le h6 h.seen⟩
 reg:=fun e=>by obtain⟨l,hl⟩:=k.reg e;exact⟨l,h.cfg hl⟩
 sea:=k.sea
 sed:=fun e=>by
  rcases k.sed e with ⟨hz,hh⟩|⟨v,hv⟩
  ·exact .inl ⟨h.fz hz,h.still hz hh⟩
  ·exact .inr ⟨v,h.cfg hv⟩
 pre:=fun e=>h.prepd (k.pre e)
 pro:=fun e=>⟨h.promR (k.pro e).1,fun h0=>h.prop ((k.pro e).2 h0)⟩
 acc:=fun e=>h.prop (k.acc e)
 acd:=fun e=>h.voted (k.acd e)
 ins:=fun e=>⟨h.cfg (k.ins e).1,(k.ins e).2⟩
 wri:=fun e=>by obtain⟨l,hl⟩:=k.wri e;exact⟨l,h.cfg hl⟩
theorem MasInv.mono {g g':Gh}{s s':St}(h:Le g s g' s'){k:Int}(hS:s'.S k=s.S k)(hset:∀ E b,settledBy g s E b→settledBy g' s' E b)(m:MasInv g s k):MasInv g' s' k where
 does:=by rw[hS];exact m.does
 bal:=by rw[hS];exact m.bal
 want:=by rw[hS,h.n];exact m.want
 cameI:=by
  rw[hS];intro x hx;obtain⟨h1,h2⟩:=m.cameI x hx
  exact⟨h1.mono h,h2⟩
 old:=by
  rw[hS];intro hd;obtain⟨h1,l0,h2⟩:=m.old hd
  exact⟨h1,l0,h.cfg h2⟩
 prep:=by rw[hS];exact fun hd=>h.prepd (m.prep hd)
 logs:=by
  rw[hS];intro hd;rcases m.logs hd with h1|h1
  ·exact .inl (h.fresh h1)
  ·exact .inr (hset _ _ h1)
 prop:=by rw[hS];exact fun hd=>h.prop (m.prop hd)
 cfg:=by rw[hS];exact fun hd=>h.cfg (m.cfg hd)
def Gh.setHist (g:Gh)(i e:Int)(l:List Ent)(c:Nat):Gh:={ g with hist:=fun j e'=>if j=i∧e'=e then some l else g.hist j e',seen:=max g.seen c }
def St.setR (s:St)(i:Int)(r:Rep):St:={ s with R:=fun j=>if j=i then r else s.R j }
def St.setA (s:St)(i:Int)(a:Acc):St:={ s with A:=fun j=>if j=i then a else s.A j }
def St.setS (s:St)(i:Int)(m:Mas):St:={ s with S:=fun j=>if j=i then m else s.S j }
theorem setR_same (s:St)(i:Int)(r:Rep):(s.setR i r).R i=r:=if_pos rfl
theorem setR_other (s:St)(i j:Int)(r:Rep)(h:j≠i):(s.setR i r).R j=s.R j:=if_neg h
theorem setHist_same (g:Gh)(i e:Int)(l:List Ent)(c:Nat):(g.setHist i e l c).hist i e=some l:=if_pos ⟨rfl,rfl⟩
theorem setHist_other (g:Gh)(i e j e':Int)(l:List Ent)(c:Nat)(h:¬ (j=i∧e'=e)):(g.setHist i e l c).hist j e'=g.hist j e':=if_neg h
structure RepStep (g:Gh)(s:St)(i:Int)(r':Rep):Prop where
 go:(r'.epoch=(s.R i).epoch∧r'.mems=(s.R i).mems∧r'.base=(s.R i).base∧(s.R i).log <+: r'.log∧(s.R i).lock≤r'.lock∧((s.R i).epoch<(s.R i).lock→r'.log=(s.R i).log) ∧
   (r'.log=(s.R i).log∨∀ l0,g.cfg r'.epoch (r'.mems,l0)→∀ (a:Nat) x,r'.mems[a]?=some x→r'.mems[a+1]?=some i→r'.log <+: g.H x r'.epoch l0)) ∨
  ((s.R i).epoch<r'.epoch∧g.cfg r'.epoch (r'.mems,r'.log)∧i∈r'.mems∧r'.base=r'.log.length)
 lock:r'.lock≤r'.epoch+1
 once:onceL r'.log
 asked:∀ x∈r'.log,g.asked x
 len:r'.log.length≤24
 commit:∀ l0,g.cfg r'.epoch (r'.mems,l0)→r'.commit≤((g.setHist i r'.epoch r'.log r'.commit).H (r'.mems.getLastD 0) r'.epoch l0).length
theorem H_set {g:Gh}{i e:Int}{l:List Ent}{c:Nat}(j e':Int)(l0:List Ent):(g.setHist i e l c).H j e' l0=if j=i∧e'=e then l else g.H j e' l0:=by
 unfold Gh.H Gh.setHist
 by_cases h:j=i∧e'=e
 ·simp only [if_pos h,Option.getD_some]
 ·simp only [if_neg h]
theorem Inv.H_grows {g:Gh}{s:St}(h:Inv g s){i:Int}(hi0:0≤i)(hi1:i<g.n){r':Rep}(k:RepStep g s i r'){e:Int}{mems:List Int}{l0:List Ent}(hc:g.cfg e (mems,l0))(j:Int) :
  g.H j e l0 <+: (g.setHist i r'.epoch r'.log r'.commit).H j e l0:=by
 rw[H_set];by_cases hj:j=i∧e=r'.epoch
 ·rw[if_pos hj]
  obtain⟨rfl,rfl⟩:=hj;obtain⟨hh, -⟩:=h.rep hi0 hi1
  rcases k.go with ⟨he,_,_,hl,_⟩|⟨hlt,hc',hm,hb⟩
  ·unfold Gh.H
   rw[he,hh];exact hl
  ·have hn:g.hist j r'.epoch=none:=by
    cases hx:g.hist j r'.epoch with
    | none=>rfl
    | some l=>have:=(h.hist hx).2.2.1;omega
   unfold Gh.H
   rw[hn];have:=h.cfg_one hc hc'
   injection this with _ e2
   rw[e2];exact List.prefix_refl _
 ·rw[if_neg hj]
  exact List.prefix_refl _
theorem Inv.repStep {g:Gh}{s:St}(h:Inv g s){i:Int}(hi0:0≤i)(hi1:i<g.n){r':Rep}(k:RepStep g s i r') :
  Inv (g.setHist i r'.epoch r'.log r'.commit) (s.setR i r')∧Le g s (g.setHist i r'.epoch r'.log r'.commit) (s.setR i r'):=by
 obtain⟨hh,hlk,_,l0,hc,hb,c,hcom,hcm⟩:=h.rep hi0 hi1
 have hepoch:(s.R i).epoch≤r'.epoch:=by
  rcases k.go with ⟨he,_⟩|⟨hlt,_⟩<;>omega
 have hfz:∀ {j e},s.frozen j e→(s.setR i r').frozen j e:=by
  intro j e hz;by_cases hj:j=i
  ·subst hj
   unfold St.frozen at hz ⊢
   rw[setR_same];rcases k.go with ⟨he,_,_,_,hl,_⟩|⟨hlt,_⟩<;>omega
  ·unfold St.frozen at hz ⊢
   rw[setR_other _ _ _ _ hj];exact hz
 have hle:Le g s (g.setHist i r'.epoch r'.log r'.commit) (s.setR i r') :=
  {n:=rfl,asked:=id,prop:=id,voted:=id,promR:=id,prepd:=id
   hist:=by
    intro j e l hl;by_cases hj:j=i∧e=r'.epoch
    ·obtain⟨rfl,rfl⟩:=hj
     refine⟨_,setHist_same _ _ _ _ _, ?_⟩
     rcases k.go with ⟨he,_,_,hp,_⟩|⟨hlt,_⟩
     ·rw[he,hh] at hl;injection hl with hl;rw[← hl];exact hp
     ·have:=(h.hist hl).2.2.1;omega
    ·exact⟨l,by rw[setHist_other _ _ _ _ _ _ _ hj];exact hl,List.prefix_refl _⟩
   still:=by
    intro j e l hz hl;by_cases hj:j=i∧e=r'.epoch
    ·obtain⟨rfl,rfl⟩:=hj
     rw[setHist_same];unfold St.frozen at hz
     rcases k.go with ⟨he,_,_,hp,_,hst,_⟩|⟨hlt,_⟩
     ·rw[he,hh] at hl;injection hl with hl;rw[hst (by omega),hl]
     ·omega
    ·rw[setHist_other _ _ _ _ _ _ _ hj];exact hl
   fz:=hfz
   com:=by
    rintro e c ⟨mems,l0,hc,rfl⟩;exact⟨_,⟨mems,l0,hc,rfl⟩,h.H_grows hi0 hi1 k hc _⟩
   back:=id
   seen:=Nat.le_max_left _ _
   top:=fun K h1 h2=>Nat.max_le.2 ⟨h1,by have:=h2 i hi0 hi1;rw[setR_same] at this;exact this⟩ }
 refine⟨?_,hle⟩
 have hset:∀ E b,settledBy g s E b→settledBy (g.setHist i r'.epoch r'.log r'.commit) (s.setR i r') E b:=fun _ _ x=>x
 exact
  {npos:=h.npos
   voteAcc:=h.voteAcc
   votes:=h.votes
   prom:=h.prom
   prepd:=h.prepd
   propd:=h.propd
   prop:=by
    intro E b val hp;obtain⟨h1,h2,h3,h4,h5⟩:=h.prop hp
    exact⟨h1,h2,h3,hle.fresh h4,h5⟩
   mas:=fun hk=>(h.mas hk).mono hle rfl hset
   reg:=h.reg
   rep:=by
    intro j hj0 hj1;by_cases hj:j=i
    ·subst hj
     rw[setR_same];refine⟨setHist_same _ _ _ _ _,k.lock,Nat.le_max_right _ _, ?_⟩
     rcases k.go with ⟨he,hm,hbs,hp,_⟩|⟨hlt,hc',hm,hbs⟩
     ·rw[he,hm]
      refine⟨l0,hc,by rw[hbs,hb],_,⟨_,l0,hc,rfl⟩, ?_⟩
      have:=k.commit l0 (by rw[he,hm];exact hc)
      rw[he,hm] at this
      exact this
     ·exact⟨r'.log,hc',hbs,_,⟨_,_,hc',rfl⟩,k.commit _ hc'⟩
    ·rw[setR_other _ _ _ _ hj]
     obtain⟨q1,q2,qs,q3,q4,q5,c',q6,q7⟩:=h.rep hj0 hj1
     refine⟨?_,q2,Nat.le_trans qs (Nat.le_max_left _ _),q3,q4,q5, ?_⟩
     ·rw[setHist_other _ _ _ _ _ _ _ (fun x=>hj x.1)];exact q1
     ·obtain⟨c2,h1,h2⟩:=hle.com q6
      exact⟨c2,h1,by have:=h2.length_le;omega⟩
   hist:=by
    intro j e l hl;by_cases hj:j=i∧e=r'.epoch
    ·obtain⟨rfl,rfl⟩:=hj
     rw[setHist_same] at hl
     injection hl with hl
     subst hl;refine⟨hi0,hi1,by rw[setR_same];exact Int.le_refl _, ?_,k.once,k.asked,k.len⟩
     rcases k.go with ⟨he,hm,hbs,hp,_⟩|⟨hlt,hc',hm,hbs⟩
     ·obtain⟨_,_,_,⟨m2,l2,q2,q3,q4⟩,_⟩:=h.hist hh
      rw[he];exact⟨m2,l2,q2,q3,q4.trans hp⟩
     ·exact⟨_,_,hc',hm,List.prefix_refl _⟩
    ·rw[setHist_other _ _ _ _ _ _ _ hj] at hl
     obtain⟨q1,q2,q3,q4,q5⟩:=h.hist hl
     refine⟨q1,q2, ?_,q4,q5⟩
     by_cases hji:j=i
     ·subst hji;rw[setR_same];omega
     ·rw[setR_other _ _ _ _ hji];exact q3
   chain:=by
    intro e mems l1 hc1 a x y hx hy;by_cases hy':y=i∧e=r'.epoch
    ·obtain⟨rfl,rfl⟩:=hy'
     have hxy:x≠y:=by
      intro e;subst e;have hnd:=((memsOk_iff _ _).1 (h.cfg_ok hc1)).2.1
      have:=nodup_at hnd hx hy
      omega
     rw[H_set,if_pos ⟨rfl,rfl⟩,H_set,if_neg (fun q=>hxy q.1)]
     rcases k.go with ⟨he,hm,hbs,hp,_,_,hq⟩|⟨hlt,hc',hm,hbs⟩
     ·rcases hq with hq|hq
      ·have:=h.chain hc1 hx hy
       unfold Gh.H at this
       rw[he,hh] at this
       rw[he,hq];exact this
      ·have hcc:g.cfg r'.epoch (r'.mems,l0):=by rw[he,hm];exact hc
       have:=h.cfg_one hc1 hcc
       injection this with e1 e2
       subst e1 e2
       exact hq _ hc1 a x hx hy
     ·have:=h.cfg_one hc1 hc'
      injection this with e1 e2
      subst e1 e2
      exact h.H_first hc1 x
    ·refine List.IsPrefix.trans ?_ (h.H_grows hi0 hi1 k hc1 x)
     rw[H_set,if_neg hy'];exact h.chain hc1 hx hy }
theorem setR_self (s:St)(i:Int):s.setR i (s.R i)=s:=by
 unfold St.setR
 have:(fun j=>if j=i then s.R i else s.R j)=s.R:=by
  funext j;by_cases h:j=i
  ·rw[if_pos h,h]
  ·rw[if_neg h]
 rw[this]
theorem mk1 {g:Gh}{s:St}{m:Msg}(hk:m.kind=1)(h:∃ e,m.log=[e]∧g.asked e):MsgInv g s m:=by
 constructor<;>intro e<;>first|exact h|(exfalso;omega)
theorem mk2 {g:Gh}{s:St}{m:Msg}(hk:m.kind=2)(h:∃ l x,∃ p:Nat,g.hist m.src m.epoch=some l∧m.pos=p∧l[p]?=some x∧m.log=[x]):MsgInv g s m:=by
 constructor<;>intro e<;>first|exact h|(exfalso;omega)
theorem mk3 {g:Gh}{s:St}{m:Msg}(hk:m.kind=3)(h:∃ c,g.com m.epoch c∧m.pos≤c.length):MsgInv g s m:=by
 constructor<;>intro e<;>first|exact h|(exfalso;omega)
theorem mk4 {g:Gh}{s:St}{m:Msg}(hk:m.kind=4)(h:∃ e c x,∃ p:Nat,g.com e c∧c[p]?=some x∧m.dst=300+x.client∧m.pos=x.seq∧m.value=answerAt c p∧p<g.seen):MsgInv g s m:=by
 constructor<;>intro e<;>first|exact h|(exfalso;omega)
theorem mk8 {g:Gh}{s:St}{m:Msg}(hk:m.kind=8)(h:(s.frozen m.src (m.epoch-1)∧g.hist m.src (m.epoch-1)=some m.log)∨∃ v,g.cfg m.epoch v):MsgInv g s m:=by
 constructor<;>intro e<;>first|exact h|(exfalso;omega)
theorem mk14 {g:Gh}{s:St}{m:Msg}(hk:m.kind=5∨m.kind=14∨m.kind=16):MsgInv g s m:=by
 constructor<;>intro e<;>(exfalso;omega)
theorem next_at {l:List Int}{x y:Int}(h:nextOf l x=some y):∃ a:Nat,l[a]?=some x∧l[a+1]?=some y:=by
 unfold nextOf at h
 have hlt:=(List.getElem?_eq_some_iff.1 h).1
 have hi:l.idxOf x<l.length:=by omega
 exact⟨l.idxOf x,by rw[List.getElem?_eq_getElem hi,List.getElem_idxOf],h⟩
theorem prev_at {l:List Int}{x y:Int}(h:prevOf l x=some y):∃ a:Nat,l[a]?=some y∧l[a+1]?=some x:=by
 unfold prevOf at h
 by_cases h0:l.idxOf x=0
 ·rw[if_pos h0] at h;cases h
 ·rw[if_neg h0] at h
  by_cases h1:l.idxOf x<l.length
  ·rw[if_pos h1] at h
   refine⟨l.idxOf x-1,h, ?_⟩
   rw[show l.idxOf x-1+1=l.idxOf x by omega,List.getElem?_eq_getElem h1,List.getElem_idxOf]
  ·rw[if_neg h1] at h;cases h
theorem next_none {l:List Int}{x:Int}(h:nextOf l x=none)(hx:x∈l):l.getLastD 0=x:=by
 unfold nextOf at h
 have h1:=List.idxOf_lt_length_of_mem hx
 rw[List.getElem?_eq_none_iff] at h
 have hne:l≠[]:=fun e=>by rw[e] at hx;cases hx
 have:=getLastD_at hne
 rw[show l.length-1=l.idxOf x by omega,List.getElem?_eq_getElem h1,List.getElem_idxOf] at this
 injection this with this
 exact this.symm
theorem headD_at {l:List Int}(hne:l≠[]):l[0]?=some (l.headD 0):=by
 cases l with
 | nil=>exact absurd rfl hne
 | cons a t=>rfl
theorem live_iff (r:Rep)(own:Int):r.live own=true↔own∈r.mems∧r.lock≤r.epoch:=by
 unfold Rep.live;simp
theorem Inv.own {g:Gh}{s:St}(h:Inv g s){i:Int}(hi0:0≤i)(hi1:i<g.n):∃ l0,g.cfg (s.R i).epoch ((s.R i).mems,l0)∧i∈(s.R i).mems∧l0 <+: (s.R i).log∧(s.R i).base=l0.length ∧
  g.H i (s.R i).epoch l0=(s.R i).log∧g.H ((s.R i).mems.getLastD 0) (s.R i).epoch l0 <+: (s.R i).log∧(s.R i).commit≤(g.H ((s.R i).mems.getLastD 0) (s.R i).epoch l0).length:=by
 obtain⟨hh,hlk,_,l0,hc,hb,c,hcom,hcm⟩:=h.rep hi0 hi1
 obtain⟨_,_,_,⟨m2,l2,q2,q3,q4⟩,_⟩:=h.hist hh
 have:=h.cfg_one hc q2
 injection this with e1 e2
 subst e1 e2
 have hH:g.H i (s.R i).epoch l0=(s.R i).log:=by unfold Gh.H;rw[hh];rfl
 refine⟨l0,hc,q3,q4,hb,hH,hH ▸ h.com_in hc q3, ?_⟩
 rw[← h.com_one hcom ⟨_,_,hc,rfl⟩]
 exact hcm
theorem Inv.acks_ok {g:Gh}{s:St}(h:Inv g s){i:Int}(hi0:0≤i)(hi1:i<g.n):∀ x∈(s.R i).acks i,MsgInv g s x:=by
 intro x hx;unfold Rep.acks at hx
 split at hx
 ·cases hx
 ·rw[List.mem_singleton] at hx
  subst hx;obtain⟨l0,hc,_,_,_,_,_,hcm⟩:=h.own hi0 hi1
  exact mk3 rfl ⟨_,⟨_,_,hc,rfl⟩,Int.ofNat_le.2 hcm⟩
theorem Inv.forward_ok {g:Gh}{s:St}(h:Inv g s){i:Int}(hi0:0≤i)(hi1:i<g.n)(nx:Int)(p:Nat)(hp:p<(s.R i).log.length):MsgInv g s ((s.R i).forward i nx p):=by
 refine mk2 rfl ⟨_,(s.R i).log[p],p,(h.rep hi0 hi1).1,rfl,List.getElem?_eq_getElem hp, ?_⟩
 show [(s.R i).log.getD p Ent.zero]=_
 rw[List.getD,List.getElem?_eq_getElem hp]
 rfl
theorem Inv.reply_ok {g:Gh}{s:St}(h:Inv g s){i:Int}(hi0:0≤i)(hi1:i<g.n)(p:Nat)(hp:p<(s.R i).commit):MsgInv g s ((s.R i).reply i p):=by
 obtain⟨l0,hc,_,_,_,_,hpre,hcm⟩:=h.own hi0 hi1
 have hx:(g.H ((s.R i).mems.getLastD 0) (s.R i).epoch l0)[p]?=some (g.H ((s.R i).mems.getLastD 0) (s.R i).epoch l0)[p]:=List.getElem?_eq_getElem (by omega)
 have hy:=prefix_get hpre hx
 refine mk4 rfl ⟨(s.R i).epoch,_,_,p,⟨_,_,hc,rfl⟩,hx, ?_, ?_, ?_,Nat.lt_of_lt_of_le hp (h.rep hi0 hi1).2.2.1⟩
 ·show 300+((s.R i).log.getD p Ent.zero).client=_
  rw[List.getD,hy];rfl
 ·show ((s.R i).log.getD p Ent.zero).seq=_
  rw[List.getD,hy];rfl
 ·exact answer_prefix hpre hx
theorem mem_places {p n x:Nat}(h:x∈placesFrom p n):p≤x∧x<n:=by
 unfold placesFrom at h
 simp only [List.mem_map,List.mem_range] at h
 obtain⟨a,h1,rfl⟩:=h;omega
theorem Inv.tick_ok {g:Gh}{s:St}(h:Inv g s){i:Int}(hi0:0≤i)(hi1:i<g.n):∀ x∈(s.R i).tick i,MsgInv g s x:=by
 intro x hx;unfold Rep.tick at hx
 split at hx
 ·split at hx
  ·exact h.acks_ok hi0 hi1 x hx
  ·simp only [List.mem_map] at hx
   obtain⟨p,hp,rfl⟩:=hx;exact h.forward_ok hi0 hi1 _ p (mem_places hp).2
 ·cases hx
theorem Inv.sameLog {g:Gh}{s:St}(h:Inv g s){i:Int}(hi0:0≤i)(hi1:i<g.n){r':Rep}(he:r'.epoch=(s.R i).epoch)(hm:r'.mems=(s.R i).mems)(hb:r'.base=(s.R i).base)(hl:r'.log=(s.R i).log)
  (hk:(s.R i).lock≤r'.lock) (hk2:r'.lock≤r'.epoch+1) (hc:∀ l0,g.cfg (s.R i).epoch ((s.R i).mems,l0)→r'.commit≤(g.H ((s.R i).mems.getLastD 0) (s.R i).epoch l0).length):RepStep g s i r':=by
 obtain⟨hh,_⟩:=h.rep hi0 hi1
 obtain⟨_,_,_,_,q1,q2,q3⟩:=h.hist hh
 refine⟨.inl ⟨he,hm,hb,by rw[hl];exact List.prefix_refl _,hk,fun _=>hl,.inl hl⟩,hk2,by rw[hl];exact q1,by rw[hl];exact q2,by rw[hl];exact q3, ?_⟩
 intro l0 hcc;rw[he,hm] at hcc
 refine Nat.le_trans (hc l0 hcc) (Nat.le_of_eq ?_)
 rw[H_set,hm,he,hl];split
 ·rename_i q
  rw[q.1];unfold Gh.H
  rw[hh];rfl
 ·rfl
theorem Inv.putStep {g:Gh}{s:St}(h:Inv g s){i:Int}(hi0:0≤i)(hi1:i<g.n)(e:Ent)(c:Nat)(hlive:(s.R i).lock≤(s.R i).epoch)(hlen:(s.R i).log.length<24)
  (honce:onceL ((s.R i).log++[e])) (hask:g.asked e)
  (hprev:∀ l0,g.cfg (s.R i).epoch ((s.R i).mems,l0)→∀ (a:Nat) x,(s.R i).mems[a]?=some x→(s.R i).mems[a+1]?=some i→(s.R i).log++[e] <+: g.H x (s.R i).epoch l0)
  (hc:c=(s.R i).commit∨((s.R i).mems.getLastD 0=i∧c=(s.R i).log.length+1)) :
  RepStep g s i { s.R i with log:=(s.R i).log++[e],commit:=c }:=by
 obtain⟨hh,hlk,_⟩:=h.rep hi0 hi1
 obtain⟨_,_,_,_,q1,q2,q3⟩:=h.hist hh
 obtain⟨l0,hcf,hmem,hp0,hb,hH,hpre,hcm⟩:=h.own hi0 hi1
 refine⟨.inl ⟨rfl,rfl,rfl,List.prefix_append _ _,Int.le_refl _,fun q=>by omega,.inr hprev⟩,hlk,honce, ?_,by simp;omega, ?_⟩
 ·intro x hx
  rcases List.mem_append.1 hx with q|q
  ·exact q2 x q
  ·rw[List.mem_singleton] at q;subst q;exact hask
 ·intro l1 hc1
  have:=h.cfg_one hc1 hcf
  injection this with _ e2
  subst e2;rw[H_set];split
  ·show c≤((s.R i).log++[e]).length
   have:=hpre.length_le
   rw[List.length_append,List.length_singleton];rcases hc with hc|hc<;>omega
  ·rename_i q
   show c≤_
   rcases hc with hc|hc
   ·rw[hc];exact hcm
   ·exact absurd ⟨hc.1,rfl⟩ q
theorem Inv.put_ok {g:Gh}{s:St}(h:Inv g s){i:Int}(hi0:0≤i)(hi1:i<g.n)(e:Ent)(hlive:(s.R i).lock≤(s.R i).epoch)(hlen:(s.R i).log.length<24)
  (honce:onceL ((s.R i).log++[e])) (hask:g.asked e)
  (hprev:∀ l0,g.cfg (s.R i).epoch ((s.R i).mems,l0)→∀ (a:Nat) x,(s.R i).mems[a]?=some x→(s.R i).mems[a+1]?=some i→(s.R i).log++[e] <+: g.H x (s.R i).epoch l0) :
  ∃ g',Inv g' (s.setR i ((s.R i).put i e).1)∧Le g s g' (s.setR i ((s.R i).put i e).1)∧∀ x∈((s.R i).put i e).2,MsgInv g' (s.setR i ((s.R i).put i e).1) x:=by
 unfold Rep.put
 split
 ·rename_i nx hn
  obtain⟨h1,h2⟩:=h.repStep hi0 hi1 (h.putStep hi0 hi1 e (s.R i).commit hlive hlen honce hask hprev (.inl rfl))
  refine⟨_,h1,h2, ?_⟩
  intro x hx;rw[List.mem_singleton] at hx
  subst hx;have:=h1.forward_ok hi0 hi1 nx (s.R i).log.length (by rw[setR_same];simp)
  rw[setR_same] at this
  exact this
 ·rename_i hn
  obtain⟨l0,hcf,hmem,_⟩:=h.own hi0 hi1
  have ht:=next_none hn hmem
  have hstep:=h.putStep hi0 hi1 e ((s.R i).log.length+1) hlive hlen honce hask hprev (.inr ⟨ht,rfl⟩)
  obtain⟨h1,h2⟩:=h.repStep hi0 hi1 hstep
  have hr:({ s.R i with log:=(s.R i).log++[e] }.commitAll i).1={ s.R i with log:=(s.R i).log++[e],commit:=(s.R i).log.length+1 }:=by
   unfold Rep.commitAll;simp
  rw[hr];refine⟨_,h1,h2, ?_⟩
  intro x hx;unfold Rep.commitAll at hx
  rcases List.mem_append.1 hx with q|q
  ·simp only [List.mem_map] at q
   obtain⟨p,hp,rfl⟩:=q;have hp2:=(mem_places hp).2
   have:=h1.reply_ok hi0 hi1 p (by rw[setR_same];simpa using hp2)
   rw[setR_same] at this
   exact this
  ·have:=h1.acks_ok hi0 hi1 x (by rw[setR_same];simpa using q)
   exact this
theorem once_snoc {l:List Ent}{e:Ent}(h:onceL l)(hn:l.any (isReq e)=false):onceL (l++[e]):=by
 unfold onceL at *
 rw[List.pairwise_append];refine⟨h,List.pairwise_singleton _ _, ?_⟩
 intro x hx y hy;rw[List.mem_singleton] at hy
 subst hy;rw[List.any_eq_false] at hn
 have:=hn x hx
 unfold isReq at this
 simpa using this
theorem once_prefix {a b:List Ent}(h:onceL b)(hp:a <+: b):onceL a:=by
 obtain⟨t,rfl⟩:=hp;exact (List.pairwise_append.1 h).1
theorem Inv.quiet {g:Gh}{s:St}(h:Inv g s)(i:Int)(out:List Msg)(ho:∀ x∈out,MsgInv g s x):∃ g',Inv g' (s.setR i (s.R i))∧Le g s g' (s.setR i (s.R i))∧∀ x∈out,MsgInv g' (s.setR i (s.R i)) x:=by
 rw[setR_self];exact⟨g,h,Le.refl g s,ho⟩
theorem Inv.asked_ok {g:Gh}{s:St}(h:Inv g s){i:Int}(hi0:0≤i)(hi1:i<g.n)(e:Ent)(hlive:(s.R i).live i=true)(hask:g.asked e) :
  ∃ g',Inv g' (s.setR i ((s.R i).asked i e).1)∧Le g s g' (s.setR i ((s.R i).asked i e).1)∧∀ x∈((s.R i).asked i e).2,MsgInv g' (s.setR i ((s.R i).asked i e).1) x:=by
 obtain⟨l0,hcf,hmem,_⟩:=h.own hi0 hi1
 have hok:=(memsOk_iff _ _).1 (h.cfg_ok hcf)
 have hlk:=((live_iff _ _).1 hlive).2
 unfold Rep.asked
 split
 ·refine h.quiet i _ ?_
  intro x hx;rw[List.mem_singleton] at hx
  subst hx;exact mk1 rfl ⟨e,rfl,hask⟩
 ·rename_i hhd
  split
  ·split
   ·rename_i hp
    refine h.quiet i _ ?_
    intro x hx;rw[List.mem_singleton] at hx
    subst hx;exact h.reply_ok hi0 hi1 _ hp
   ·exact h.quiet i _ (fun x hx=>by cases hx)
  ·rename_i hany
   split
   ·exact h.quiet i _ (fun x hx=>by cases hx)
   ·rename_i hfull
    obtain⟨hh,_⟩:=h.rep hi0 hi1
    obtain⟨_,_,_,_,q1,q2,q3⟩:=h.hist hh
    refine h.put_ok hi0 hi1 e hlk (by omega) (once_snoc q1 (by simpa using hany)) hask ?_
    intro l1 _ a x _ h2;have h0:=headD_at hok.2.2
    have hhd':(s.R i).mems.headD 0=i:=by simpa using hhd
    rw[hhd'] at h0
    have:=nodup_at hok.2.1 h0 h2
    omega
theorem Inv.takeForward_ok {g:Gh}{s:St}(h:Inv g s){i:Int}(hi0:0≤i)(hi1:i<g.n)(m:Msg)(hm:MsgInv g s m)(hk:m.kind=2) :
  ∃ g',Inv g' (s.setR i ((s.R i).takeForward i m).1)∧Le g s g' (s.setR i ((s.R i).takeForward i m).1)∧∀ x∈((s.R i).takeForward i m).2,MsgInv g' (s.setR i ((s.R i).takeForward i m).1) x:=by
 unfold Rep.takeForward
 split
 ·rename_i hc
  obtain⟨hlive,hprev,hlog,hep⟩:=hc;split
  ·rename_i hp
   obtain⟨l,x,p,hh,hpos,hx,hlg⟩:=hm.fwd hk
   obtain⟨l0,hcf,hmem,_⟩:=h.own hi0 hi1
   have hok:=(memsOk_iff _ _).1 (h.cfg_ok hcf)
   have hpe:p=(s.R i).log.length:=by omega
   subst hpe;have hhd:m.log.headD Ent.zero=x:=by rw[hlg];rfl
   rw[hhd];obtain⟨a,ha1,ha2⟩:=prev_at hprev
   rw[hep] at hh
   have hch:=h.chain hcf ha1 ha2
   unfold Gh.H at hch
   rw[hh,(h.rep hi0 hi1).1] at hch
   have hpre:(s.R i).log++[x] <+: l:=by
    obtain⟨t,ht⟩:=hch;simp only [Option.getD_some] at ht
    rw[← ht,List.getElem?_append_right (Nat.le_refl _),Nat.sub_self] at hx
    cases t with
    | nil=>simp at hx
    | cons y t =>
     simp at hx
     subst hx;exact⟨t,by rw[← ht];simp⟩
   obtain⟨_,_,_,_,q1,q2,q3⟩:=h.hist hh
   refine h.put_ok hi0 hi1 x ((live_iff _ _).1 hlive).2 hp.2 (once_prefix q1 hpre) (q2 x (List.mem_of_getElem? hx)) ?_
   intro l1 hc1 a' x' h1 h2;have e1:=nodup_at hok.2.1 ha2 h2
   have:a=a':=by omega
   subst this;rw[ha1] at h1
   injection h1 with h1
   subst h1;unfold Gh.H
   rw[hh];exact hpre
  ·split
   ·exact h.quiet i _ (h.acks_ok hi0 hi1)
   ·exact h.quiet i _ (fun x hx=>by cases hx)
 ·exact h.quiet i _ (fun x hx=>by cases hx)
theorem Inv.takeAck_ok {g:Gh}{s:St}(h:Inv g s){i:Int}(hi0:0≤i)(hi1:i<g.n)(m:Msg)(hm:MsgInv g s m)(hk:m.kind=3) :
  ∃ g',Inv g' (s.setR i ((s.R i).takeAck i m).1)∧Le g s g' (s.setR i ((s.R i).takeAck i m).1)∧∀ x∈((s.R i).takeAck i m).2,MsgInv g' (s.setR i ((s.R i).takeAck i m).1) x:=by
 unfold Rep.takeAck
 split
 ·rename_i hc
  obtain⟨hlive,hnext,hep,hgt,hle⟩:=hc;obtain⟨_,hlk,_⟩:=h.rep hi0 hi1
  obtain⟨c,hcom,hpc⟩:=hm.ack hk
  have hstep:RepStep g s i { s.R i with commit:=m.pos.toNat }:=by
   refine h.sameLog hi0 hi1 rfl rfl rfl rfl (Int.le_refl _) hlk ?_
   intro l0 hcf;rw[hep] at hcom
   rw[← h.com_one hcom ⟨_,_,hcf,rfl⟩]
   show m.pos.toNat≤_
   omega
  obtain⟨h1,h2⟩:=h.repStep hi0 hi1 hstep
  refine⟨_,h1,h2, ?_⟩
  intro x hx;exact h1.acks_ok hi0 hi1 x (by rw[setR_same];exact hx)
 ·exact h.quiet i _ (fun x hx=>by cases hx)
theorem Inv.takeSeal_ok {g:Gh}{s:St}(h:Inv g s){i:Int}(hi0:0≤i)(hi1:i<g.n)(m:Msg)(hm:MsgInv g s m)(hk:m.kind=7) :
  ∃ g',Inv g' (s.setR i ((s.R i).takeSeal i m).1)∧Le g s g' (s.setR i ((s.R i).takeSeal i m).1)∧∀ x∈((s.R i).takeSeal i m).2,MsgInv g' (s.setR i ((s.R i).takeSeal i m).1) x:=by
 unfold Rep.takeSeal
 split
 ·exact h.quiet i _ (fun x hx=>by cases hx)
 ·rename_i hle
  obtain⟨_,hlk,_⟩:=h.rep hi0 hi1
  obtain⟨l0,hcf,hmem,_,_,_,_,hcm⟩:=h.own hi0 hi1
  have hstep:RepStep g s i { s.R i with lock:=if m.epoch=(s.R i).epoch+1 then m.epoch else (s.R i).lock }:=by
   refine h.sameLog hi0 hi1 rfl rfl rfl rfl ?_ ?_ ?_
   ·show (s.R i).lock≤if _ then _ else _
    split<;>omega
   ·show (if _ then _ else _)≤(s.R i).epoch+1
    split<;>omega
   ·intro l1 hc1
    have:=h.cfg_one hc1 hcf
    injection this with _ e2
    rw[e2];exact hcm
  obtain⟨h1,h2⟩:=h.repStep hi0 hi1 hstep
  refine⟨_,h1,h2, ?_⟩
  intro x hx;rw[List.mem_singleton] at hx
  subst hx;refine mk8 rfl ?_
  have hpos:=hm.sea hk
  by_cases he:m.epoch=(s.R i).epoch+1
  ·left
   have e1:m.epoch-1=(s.R i).epoch:=by omega
   constructor
   ·unfold St.frozen
    rw[setR_same];right
    show m.epoch-1=_∧m.epoch-1<_
    simp only [if_pos he]
    omega
   ·show (Gh.setHist _ _ _ _ _).hist i (m.epoch-1)=some (s.R i).log
    rw[e1];exact setHist_same _ _ _ _ _
  ·right
   obtain⟨v,hv⟩:=h.cfg_down ((s.R i).epoch-m.epoch).toNat hcf m.epoch (by omega) (by omega) (by omega)
   exact⟨v,h2.cfg hv⟩
theorem Inv.cfg_log {g:Gh}{s:St}(h:Inv g s){E:Int}{v:List Int × List Ent}(hc:g.cfg E v):onceL v.2∧(∀ x∈v.2,g.asked x)∧v.2.length≤24:=by
 rcases hc with ⟨_,rfl⟩|⟨_,b,_,_,_,_,_,p⟩
 ·exact⟨List.Pairwise.nil,fun x hx=>(by cases hx),Nat.zero_le _⟩
 ·obtain⟨_,_,_,⟨r,mems,l0,_,_,_,hh⟩,_⟩:=h.prop p
  exact (h.hist hh).2.2.2.2
theorem Inv.takeInstall_ok {g:Gh}{s:St}(h:Inv g s){i:Int}(hi0:0≤i)(hi1:i<g.n)(m:Msg)(hm:MsgInv g s m)(hk:m.kind=13)(hd:m.dst=i) :
  ∃ g',Inv g' (s.setR i ((s.R i).takeInstall i m).1)∧Le g s g' (s.setR i ((s.R i).takeInstall i m).1)∧∀ x∈((s.R i).takeInstall i m).2,MsgInv g' (s.setR i ((s.R i).takeInstall i m).1) x:=by
 unfold Rep.takeInstall
 have hout:∀ (g':Gh) (s':St),∀ x∈[({ kind:=14,src:=i,dst:=m.src,epoch:=m.epoch }:Msg)],MsgInv g' s' x:=by
  intro g' s' x hx;rw[List.mem_singleton] at hx
  subst hx;exact mk14 (.inr (.inl rfl))
 split
 ·rename_i hlt
  obtain⟨hcf,hin⟩:=hm.ins hk
  obtain⟨_,hlk,_⟩:=h.rep hi0 hi1
  obtain⟨q1,q2,q3⟩:=h.cfg_log hcf
  have hstep:RepStep g s i { s.R i with epoch:=m.epoch,mems:=m.mems,log:=m.log,base:=m.log.length,commit:=m.log.length }:=by
   refine⟨.inr ⟨hlt,hcf,hd ▸ hin,rfl⟩, ?_,q1,q2,q3, ?_⟩
   ·show (s.R i).lock≤m.epoch+1
    omega
   ·intro l0 hc0
    rw[H_set];split
    ·exact Nat.le_refl _
    ·have:=h.cfg_one hc0 hcf
     injection this with _ e2
     have hx:=(h.H_first hc0 (m.mems.getLastD 0)).length_le
     rw[e2] at hx ⊢
     exact hx
  obtain⟨h1,h2⟩:=h.repStep hi0 hi1 hstep
  exact⟨_,h1,h2,hout _ _⟩
 ·exact h.quiet i _ (hout _ _)
theorem Inv.repTake {g:Gh}{s:St}(h:Inv g s){i:Int}(hi0:0≤i)(hi1:i<g.n)(m:Msg)(hm:MsgInv g s m)(hd:m.dst=i) :
  ∃ g',Inv g' (s.setR i ((s.R i).take i m).1)∧Le g s g' (s.setR i ((s.R i).take i m).1)∧∀ x∈((s.R i).take i m).2,MsgInv g' (s.setR i ((s.R i).take i m).1) x:=by
 unfold Rep.take
 split
 ·rename_i hk
  split
  ·rename_i hc
   obtain⟨e,he,ha⟩:=hm.req hk
   rw[he];exact h.asked_ok hi0 hi1 e hc.2 ha
  ·exact h.quiet i _ (fun x hx=>by cases hx)
 ·split
  ·rename_i hk
   exact h.takeForward_ok hi0 hi1 m hm hk
  ·split
   ·rename_i hk
    exact h.takeAck_ok hi0 hi1 m hm hk
   ·split
    ·rename_i hk
     exact h.takeSeal_ok hi0 hi1 m hm hk
    ·split
     ·rename_i hk
      exact h.takeInstall_ok hi0 hi1 m hm hk hd
     ·exact h.quiet i _ (fun x hx=>by cases hx)
theorem Inv.repCrash {g:Gh}{s:St}(h:Inv g s){i:Int}(hi0:0≤i)(hi1:i<g.n):∃ g',Inv g' (s.setR i (s.R i).crash)∧Le g s g' (s.setR i (s.R i).crash):=by
 obtain⟨_,hlk,_⟩:=h.rep hi0 hi1
 obtain⟨l0,hcf,hmem,_,hb,_,_,hcm⟩:=h.own hi0 hi1
 refine⟨_,h.repStep hi0 hi1 (h.sameLog hi0 hi1 rfl rfl rfl rfl (Int.le_refl _) hlk ?_)⟩
 intro l1 hc1;have:=h.cfg_one hc1 hcf
 injection this with _ e2
 show (s.R i).base≤_
 rw[hb, ← e2];exact (h.H_first hc1 _).length_le
theorem Inv.repRestart {g:Gh}{s:St}(h:Inv g s){i:Int}(hi0:0≤i)(hi1:i<g.n):∃ g',Inv g' (s.setR i ((s.R i).restart i))∧Le g s g' (s.setR i ((s.R i).restart i)):=by
 obtain⟨_,hlk,_⟩:=h.rep hi0 hi1
 obtain⟨l0,hcf,hmem,_,hb,hH,_,hcm⟩:=h.own hi0 hi1
 refine⟨_,h.repStep hi0 hi1 (h.sameLog hi0 hi1 rfl rfl rfl rfl (Int.le_refl _) hlk ?_)⟩
 intro l1 hc1;have:=h.cfg_one hc1 hcf
 injection this with _ e2
 subst e2;show (if _ then _ else _)≤_
 split
 ·rename_i hc
  rw[next_none hc.2 hmem,hH];exact Nat.le_refl _
 ·rw[hb]
  exact (h.H_first hc1 _).length_le
end Go.Proofs.YtgieeeeeiggoeaaGreat
