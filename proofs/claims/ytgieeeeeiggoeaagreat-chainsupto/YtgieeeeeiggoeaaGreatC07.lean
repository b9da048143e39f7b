import Derived.Test.YtgieeeeeiggoeaaGreatC06
namespace Go.Proofs.YtgieeeeeiggoeaaGreat
def stOf (c:Clu):St :=
 {R:=fun i=>if c.isRep i then c.rep i else Rep.first 0
  A:=fun a=>if isAcc a then c.acc a else Acc.first 0
  S:=fun k=>if isMas k then c.mas k else Mas.still true 0 }
theorem stOf_R {c:Clu}{i:Int}(h:c.isRep i):(stOf c).R i=c.rep i:=if_pos h
theorem stOf_A {c:Clu}{i:Int}(h:isAcc i):(stOf c).A i=c.acc i:=if_pos h
theorem stOf_S {c:Clu}{i:Int}(h:isMas i):(stOf c).S i=c.mas i:=if_pos h
theorem rep_setRep {c:Clu}{d j:Int}{r:Rep}(hd:c.isRep d)(hj:c.isRep j):(c.setRep d r).rep j=if j=d then r else c.rep j:=by
 unfold Clu.isRep at hd hj
 show (c.reps.set d.toNat r).getD j.toNat (Rep.first 0)=_
 by_cases h:j=d
 ·subst h
  rw[if_pos rfl,List.getD,List.getElem?_set_self (by omega)]
  rfl
 ·rw[if_neg h,List.getD,List.getElem?_set_ne (by omega)]
  rfl
theorem isRep_setRep {c:Clu}{d j:Int}{r:Rep}:(c.setRep d r).isRep j↔c.isRep j:=by
 unfold Clu.isRep Clu.setRep
 simp
theorem stOf_setRep {c:Clu}{d:Int}{r:Rep}(hd:c.isRep d):stOf (c.setRep d r)=(stOf c).setR d r:=by
 unfold stOf St.setR
 congr 1
 funext j
 dsimp only
 by_cases hj:c.isRep j
 ·rw[if_pos (isRep_setRep.2 hj),rep_setRep hd hj,if_pos hj]
 ·rw[if_neg (fun q=>hj (isRep_setRep.1 q)),if_neg hj,if_neg (fun (q:j=d)=>hj (q ▸ hd))]
theorem acc_setAcc {c:Clu}{d j:Int}{r:Acc}(hl:c.accs.length=3)(hd:isAcc d)(hj:isAcc j):(c.setAcc d r).acc j=if j=d then r else c.acc j:=by
 unfold isAcc at hd hj
 show (c.accs.set (d-100).toNat r).getD (j-100).toNat (Acc.first 0)=_
 by_cases h:j=d
 ·subst h
  rw[if_pos rfl,List.getD,List.getElem?_set_self (by omega)]
  rfl
 ·rw[if_neg h,List.getD,List.getElem?_set_ne (by omega)]
  rfl
theorem stOf_setAcc {c:Clu}{d:Int}{r:Acc}(hl:c.accs.length=3)(hd:isAcc d):stOf (c.setAcc d r)=(stOf c).setA d r:=by
 unfold stOf St.setA
 congr 1
 funext j
 dsimp only
 by_cases hj:isAcc j
 ·rw[if_pos hj,acc_setAcc hl hd hj,if_pos hj]
 ·rw[if_neg hj,if_neg hj,if_neg (fun (q:j=d)=>hj (q ▸ hd))]
theorem mas_setMas {c:Clu}{d j:Int}{r:Mas}(hl:c.mass.length=2)(hd:isMas d)(hj:isMas j):(c.setMas d r).mas j=if j=d then r else c.mas j:=by
 unfold isMas at hd hj
 show (c.mass.set (d-200).toNat r).getD (j-200).toNat (Mas.still true 0)=_
 by_cases h:j=d
 ·subst h
  rw[if_pos rfl,List.getD,List.getElem?_set_self (by omega)]
  rfl
 ·rw[if_neg h,List.getD,List.getElem?_set_ne (by omega)]
  rfl
theorem stOf_setMas {c:Clu}{d:Int}{r:Mas}(hl:c.mass.length=2)(hd:isMas d):stOf (c.setMas d r)=(stOf c).setS d r:=by
 unfold stOf St.setS
 congr 1
 funext j
 dsimp only
 by_cases hj:isMas j
 ·rw[if_pos hj,mas_setMas hl hd hj,if_pos hj]
 ·rw[if_neg hj,if_neg hj,if_neg (fun (q:j=d)=>hj (q ▸ hd))]
structure Nodes (c:Clu)(E:Int)(g:Gh):Prop where
 n1:1≤c.reps.length
 n5:c.reps.length≤5
 a3:c.accs.length=3
 m2:c.mass.length=2
 n:g.n=c.reps.length
 E0:0≤E
 R:∀ i,c.isRep i→RepWF c.reps.length E (c.rep i)
 A:∀ a,isAcc a→AccWF c.reps.length E (c.acc a)
 S:∀ k,isMas k→MasWF c.reps.length E (c.mas k)
 budget:E+(c.mas 200).reads+(c.mas 201).reads≤(c.mas 200).begun+(c.mas 201).begun
 inv:Inv g (stOf c)
def Sent (c:Clu)(E:Int)(g:Gh)(m:Msg):Prop:=MsgWF c.reps.length E m∧MsgInv g (stOf c) m
def FrameOK (c:Clu)(E:Int)(g:Gh)(f:List UInt8 × Bool):Prop :=
 ∃ m,Sent c E g m∧(f.1=m.frame∨(f.2=true∧msgOf f.1=none∧f.1.length=m.frame.length))
structure Good (c:Clu)(E:Int)(g:Gh):Prop where
 nodes:Nodes c E g
 bag:c.bag.length≤200
 frames:∀ f∈c.bag,FrameOK c E g f
theorem reads_range (s:Mas):0≤s.reads∧s.reads≤1:=by unfold Mas.reads;split<;>omega
theorem Nodes.E2000 {c:Clu}{E:Int}{g:Gh}(h:Nodes c E g):E≤2000:=by
 have h1:=(h.S 200 (by unfold isMas;omega)).begun
 have h2:=(h.S 201 (by unfold isMas;omega)).begun
 have:=h.budget
 have:=reads_range (c.mas 200)
 have:=reads_range (c.mas 201)
 omega
theorem Nodes.frame {c:Clu}{E:Int}{g:Gh}(h:Nodes c E g){m:Msg}(hm:Sent c E g m):msgOf m.frame=some m:=msgOf_frame m (hm.1.ok h.n5 h.E2000)
theorem Good.msg {c:Clu}{E:Int}{g:Gh}(h:Good c E g){f:List UInt8 × Bool}(hf:f∈c.bag){m:Msg}(hm:msgOf f.1=some m):Sent c E g m:=by
 obtain⟨m0,h1,h2⟩:=h.frames f hf
 rcases h2 with q|⟨_,q,_⟩
 ·rw[q,h.nodes.frame h1] at hm
  injection hm with hm
  exact hm ▸ h1
 ·rw[q] at hm;cases hm
structure Later (c:Clu)(E:Int)(g:Gh)(c':Clu)(E':Int)(g':Gh):Prop where
 nodes:Nodes c' E' g'
 le:Le g (stOf c) g' (stOf c')
 E:E≤E'
 reps:c'.reps.length=c.reps.length
theorem Later.sent {c c':Clu}{E E':Int}{g g':Gh}(h:Later c E g c' E' g'){m:Msg}(hm:Sent c E g m):Sent c' E' g' m :=
 ⟨by rw[h.reps];exact hm.1.mono h.E,hm.2.mono h.le⟩
theorem Later.frameOK {c c':Clu}{E E':Int}{g g':Gh}(h:Later c E g c' E' g'){f:List UInt8 × Bool}(hf:FrameOK c E g f):FrameOK c' E' g' f:=by
 obtain⟨m,h1,h2⟩:=hf;exact⟨m,h.sent h1,h2⟩
theorem Later.refl {c:Clu}{E:Int}{g:Gh}(h:Nodes c E g):Later c E g c E g:=⟨h,Le.refl _ _,Int.le_refl _,rfl⟩
theorem Nodes.bag {c:Clu}{E:Int}{g:Gh}(h:Nodes c E g)(b:List (List UInt8 × Bool))(t:List Ans):Nodes { c with bag:=b,told:=t } E g :=
 ⟨h.n1,h.n5,h.a3,h.m2,h.n,h.E0,h.R,h.A,h.S,h.budget,h.inv⟩
theorem Nodes.laterRep {c:Clu}{E:Int}{g g':Gh}(h:Nodes c E g){d:Int}(hd:c.isRep d){r:Rep}(hw:RepWF c.reps.length E r)(hi:Inv g' ((stOf c).setR d r))(hl:Le g (stOf c) g' ((stOf c).setR d r)) :
  Later c E g (c.setRep d r) E g':=by
 have hlen:(c.setRep d r).reps.length=c.reps.length:=by unfold Clu.setRep;simp
 refine⟨?_,by rw[stOf_setRep hd];exact hl,Int.le_refl _,hlen⟩
 exact
  {n1:=by rw[hlen];exact h.n1
   n5:=by rw[hlen];exact h.n5
   a3:=h.a3,m2:=h.m2
   n:=by rw[hlen,hl.n];exact h.n
   E0:=h.E0
   R:=by
    intro i hi;rw[hlen];rw[isRep_setRep] at hi
    rw[rep_setRep hd hi];split
    ·exact hw
    ·exact h.R i hi
   A:=by rw[hlen];exact h.A
   S:=by rw[hlen];exact h.S
   budget:=h.budget
   inv:=by rw[stOf_setRep hd];exact hi }
theorem Nodes.laterAcc {c:Clu}{E:Int}{g g':Gh}(h:Nodes c E g){d:Int}(hd:isAcc d){r:Acc}(hw:AccWF c.reps.length E r)(hi:Inv g' ((stOf c).setA d r))(hl:Le g (stOf c) g' ((stOf c).setA d r)) :
  Later c E g (c.setAcc d r) E g':=by
 have hlen:(c.setAcc d r).accs.length=c.accs.length:=by unfold Clu.setAcc;simp
 refine⟨?_,by rw[stOf_setAcc h.a3 hd];exact hl,Int.le_refl _,rfl⟩
 exact
  {n1:=h.n1,n5:=h.n5,m2:=h.m2,E0:=h.E0,R:=h.R,S:=h.S,budget:=h.budget
   a3:=by rw[hlen];exact h.a3
   n:=by rw[hl.n];exact h.n
   A:=by
    intro i hi;rw[acc_setAcc h.a3 hd hi];split
    ·exact hw
    ·exact h.A i hi
   inv:=by rw[stOf_setAcc h.a3 hd];exact hi }
theorem Nodes.laterMas {c:Clu}{E E':Int}{g g':Gh}(h:Nodes c E g){d:Int}(hd:isMas d){r:Mas}(hE:E≤E')(hw:MasWF c.reps.length E' r)(hb:E'+r.reads-r.begun≤E+(c.mas d).reads-(c.mas d).begun)
  (hi:Inv g' ((stOf c).setS d r)) (hl:Le g (stOf c) g' ((stOf c).setS d r)):Later c E g (c.setMas d r) E' g':=by
 have hlen:(c.setMas d r).mass.length=c.mass.length:=by unfold Clu.setMas;simp
 have h0:isMas 200:=by unfold isMas;omega
 have h1:isMas 201:=by unfold isMas;omega
 refine⟨?_,by rw[stOf_setMas h.m2 hd];exact hl,hE,rfl⟩
 exact
  {n1:=h.n1,n5:=h.n5,a3:=h.a3,E0:=Int.le_trans h.E0 hE
   m2:=by rw[hlen];exact h.m2
   n:=by rw[hl.n];exact h.n
   R:=fun i hi=>(h.R i hi).mono hE
   A:=fun i hi=>(h.A i hi).mono hE
   S:=by
    intro i hi;rw[mas_setMas h.m2 hd hi];split
    ·exact hw
    ·exact (h.S i hi).mono hE
   budget:=by
    rw[mas_setMas h.m2 hd h0,mas_setMas h.m2 hd h1];have:=h.budget
    have hd':=hd
    unfold isMas at hd'
    by_cases q:d=200
    ·subst q
     rw[if_pos rfl,if_neg (by decide)]
     omega
    ·have:d=201:=by omega
     subst this;rw[if_neg (by decide),if_pos rfl]
     omega
   inv:=by rw[stOf_setMas h.m2 hd];exact hi }
theorem rep_dst {c:Clu}{E:Int}{g:Gh}(h:Nodes c E g){d:Int}(hd:c.isRep d):0≤d∧d≤303∧d<g.n:=by
 have:=h.n5
 have:=h.n
 unfold Clu.isRep at hd
 omega
theorem Nodes.takes {c:Clu}{E:Int}{g:Gh}(h:Nodes c E g){m:Msg}(hm:Sent c E g m):∃ E' g',Later c E g (c.takes m).1 E' g'∧∀ x∈(c.takes m).2,Sent (c.takes m).1 E' g' x:=by
 unfold Clu.takes
 split
 ·split
  ·rename_i hd
   obtain⟨d0,d1,d2⟩:=rep_dst h hd
   obtain⟨w1,w2⟩:=repTake_wf (h.R _ hd) h.n5 h.E0 ⟨d0,d1⟩ hm.1
   obtain⟨g',i1,i2,i3⟩:=h.inv.repTake (i:=m.dst) d0 d2 m hm.2 rfl
   rw[stOf_R hd] at i1 i2 i3
   have hL:=h.laterRep hd w1 i1 i2
   refine⟨E,g',hL, ?_⟩
   intro x hx;exact⟨by rw[hL.reps];exact w2 x hx,by rw[stOf_setRep hd];exact i3 x hx⟩
  ·split
   ·rename_i hd
    obtain⟨w1,w2⟩:=accTake_wf (h.A _ hd) hm.1
    obtain⟨g',i1,i2,i3⟩:=h.inv.accTake hd m hm.2 rfl
    rw[stOf_A hd] at i1 i2 i3
    have hL:=h.laterAcc hd w1 i1 i2
    refine⟨E,g',hL, ?_⟩
    intro x hx;exact⟨w2 x hx,by rw[stOf_setAcc h.a3 hd];exact i3 x hx⟩
   ·rename_i hup hr ha
    have hd:isMas m.dst:=by
     unfold Clu.upOf at hup
     rw[if_neg hr,if_neg ha] at hup
     split at hup
     ·assumption
     ·cases hup
    obtain⟨w1,w2,w3,w4⟩:=masTake_wf (h.S _ hd) h.n5 h.E0 hm.1
    obtain⟨g',i1,i2,i3⟩:=h.inv.masTake hd m hm.2 rfl
    rw[stOf_S hd] at i1 i2 i3
    have hL:=h.laterMas hd (E':=E+(c.mas m.dst).reads-((c.mas m.dst).take m).1.reads) (by omega) w1 (by omega) i1 i2
    refine⟨_,g',hL, ?_⟩
    intro x hx;exact⟨w4 x hx,by rw[stOf_setMas h.m2 hd];exact i3 x hx⟩
 ·exact⟨E,g,Later.refl h,fun x hx=>by cases hx⟩
theorem Nodes.ticks {c:Clu}{E:Int}{g:Gh}(h:Nodes c E g)(d:Int):∀ x∈c.ticks d,Sent c E g x:=by
 intro x hx;unfold Clu.ticks at hx
 split at hx
 ·rename_i hd
  obtain⟨d0,d1,d2⟩:=rep_dst h hd
  have:=h.inv.tick_ok (i:=d) d0 d2
  rw[stOf_R hd] at this
  exact⟨repTick_wf (h.R _ hd) h.n5 ⟨d0,d1⟩ x hx,this x hx⟩
 ·split at hx
  ·rename_i hd
   have:=(h.inv.mas hd).asks_ok
   rw[stOf_S hd] at this
   exact⟨asks_wf (h.S _ hd) h.n5 h.E0 (by unfold isMas at hd;omega) x hx,this x hx⟩
  ·cases hx
theorem frames_take {c:Clu}{E:Int}{g:Gh}{b:List (List UInt8 × Bool)}{out:List Msg}(hb:∀ f∈b,FrameOK c E g f)(ho:∀ x∈out,Sent c E g x):∀ f∈(b++out.map (fun m=>(m.frame,false))).take 200,FrameOK c E g f:=by
 intro f hf;rcases List.mem_append.1 (List.mem_of_mem_take hf) with q|q
 ·exact hb f q
 ·simp only [List.mem_map] at q
  obtain⟨m,hm,rfl⟩:=q;exact⟨m,ho m hm,.inl rfl⟩
theorem Nodes.good {c:Clu}{E:Int}{g:Gh}(h:Nodes c E g){out:List Msg}(hb:∀ f∈c.bag,FrameOK c E g f)(ho:∀ x∈out,Sent c E g x):Good (c.send out) E g :=
 ⟨h.bag _ _,by unfold Clu.send;simp;omega,frames_take hb ho⟩
def StepOK (c:Clu)(E:Int)(g:Gh)(c':Clu):Prop:=∃ E' g',Good c' E' g'∧Le g (stOf c) g' (stOf c')∧E≤E'∧c'.reps.length=c.reps.length
theorem StepOK.same {c:Clu}{E:Int}{g:Gh}(h:Good c E g):StepOK c E g c:=⟨E,g,h,Le.refl _ _,Int.le_refl _,rfl⟩
theorem Good.arrive {c:Clu}{E:Int}{g:Gh}(h:Good c E g){m:Msg}(hm:Sent c E g m):StepOK c E g (c.arrive m):=by
 have ht:Nodes (c.tell m) E g:=by unfold Clu.tell;split;exact h.nodes.bag _ _;exact h.nodes
 have hst:stOf (c.tell m)=stOf c:=by unfold Clu.tell;split<;>rfl
 have hrl:(c.tell m).reps=c.reps:=by unfold Clu.tell;split<;>rfl
 have hbg:(c.tell m).bag=c.bag:=by unfold Clu.tell;split<;>rfl
 have hm':Sent (c.tell m) E g m:=by unfold Sent;rw[hst,hrl];exact hm
 obtain⟨E',g',hL,ho⟩:=ht.takes hm'
 have hb':((c.tell m).takes m).1.bag=c.bag:=by
  rw[← hbg];unfold Clu.takes
  split
  ·split
   ·rfl
   ·split<;>rfl
  ·rfl
 refine⟨E',g',hL.nodes.good ?_ ho, ?_,hL.E, ?_⟩
 ·rw[hb']
  intro f hf;obtain⟨m0,h1,h2⟩:=h.frames f hf
  exact hL.frameOK ⟨m0,by unfold Sent;rw[hst,hrl];exact h1,h2⟩
 ·have:=hL.le
  rw[hst] at this
  exact this
 ·show ((c.tell m).takes m).1.reps.length=_
  rw[hL.reps,hrl]
theorem Good.gone {c:Clu}{E:Int}{g:Gh}(h:Good c E g)(i:Int):Good (c.gone i) E g :=
 ⟨h.nodes.bag _ _,Nat.le_trans (by unfold Clu.gone;exact List.length_eraseIdx_le _ _) h.bag,fun f hf=>h.frames f (List.mem_of_mem_eraseIdx hf)⟩
theorem frameAt_mem {c:Clu}{i:Int}(h:c.hasFrame i):c.frameAt i∈c.bag:=by
 unfold Clu.hasFrame at h
 unfold Clu.frameAt
 rw[List.getD,List.getElem?_eq_getElem (by omega)]
 exact List.getElem_mem _
theorem Good.deliver {c:Clu}{E:Int}{g:Gh}(h:Good c E g)(i:Int):StepOK c E g (c.deliver i).1:=by
 unfold Clu.deliver
 split
 ·rename_i hi
  split
  ·exact⟨E,g,h.gone i,Le.refl _ _,Int.le_refl _,rfl⟩
  ·rename_i m hm
   exact (h.gone i).arrive (h.msg (frameAt_mem hi) hm)
 ·exact StepOK.same h
theorem Good.drop {c:Clu}{E:Int}{g:Gh}(h:Good c E g)(i:Int):StepOK c E g (c.drop i).1:=by
 unfold Clu.drop
 split
 ·exact⟨E,g,h.gone i,Le.refl _ _,Int.le_refl _,rfl⟩
 ·exact StepOK.same h
theorem Good.double {c:Clu}{E:Int}{g:Gh}(h:Good c E g)(i:Int):StepOK c E g (c.double i).1:=by
 unfold Clu.double
 split
 ·rename_i hi
  refine⟨E,g,⟨h.nodes.bag _ _,by show ((c.bag++[c.frameAt i]).take 200).length≤200;rw[List.length_take];omega, ?_⟩,Le.refl _ _,Int.le_refl _,rfl⟩
  intro f hf;rcases List.mem_append.1 (List.mem_of_mem_take hf) with q|q
  ·exact h.frames f q
  ·rw[List.mem_singleton] at q
   subst q;exact h.frames _ (frameAt_mem hi)
 ·exact StepOK.same h
theorem Good.tick {c:Clu}{E:Int}{g:Gh}(h:Good c E g)(d:Int):StepOK c E g (c.tick d).1:=by
 unfold Clu.tick
 split
 ·exact StepOK.same h
 ·exact StepOK.same h
 ·exact⟨E,g,h.nodes.good h.frames (h.nodes.ticks d),Le.refl _ _,Int.le_refl _,rfl⟩
theorem Later.still {c c':Clu}{E E':Int}{g g':Gh}(hL:Later c E g c' E' g')(h:Good c E g)(hb:c'.bag=c.bag):StepOK c E g c' :=
 ⟨E',g',⟨hL.nodes,by rw[hb];exact h.bag,by rw[hb];exact fun f hf=>hL.frameOK (h.frames f hf)⟩,hL.le,hL.E,hL.reps⟩
theorem Good.crash {c:Clu}{E:Int}{g:Gh}(h:Good c E g)(d:Int):StepOK c E g (c.crash d).1:=by
 unfold Clu.crash
 split
 ·exact StepOK.same h
 ·exact StepOK.same h
 ·rename_i hup
  split
  ·rename_i hd
   obtain⟨d0,d1,d2⟩:=rep_dst h.nodes hd
   obtain⟨g',i1,i2⟩:=h.nodes.inv.repCrash (i:=d) d0 d2
   rw[stOf_R hd] at i1 i2
   exact (h.nodes.laterRep hd (repCrash_wf (h.nodes.R _ hd)) i1 i2).still h rfl
  ·rename_i hr
   split
   ·rename_i hd
    obtain⟨i1,i2⟩:=h.nodes.inv.accReg hd (a':={ c.acc d with up:=false }) (by rw[stOf_A hd]) (by have:=h.nodes.inv.reg hd;rw[stOf_A hd] at this;exact this)
    exact (h.nodes.laterAcc hd (r:={ c.acc d with up:=false }) ⟨(h.nodes.A _ hd).epoch,(h.nodes.A _ hd).mems,(h.nodes.A _ hd).votes⟩ i1 i2).still h rfl
   ·rename_i ha
    have hd:isMas d:=by
     unfold Clu.upOf at hup
     rw[if_neg hr,if_neg ha] at hup
     split at hup
     ·assumption
     ·cases hup
    obtain⟨i1,i2⟩:=h.nodes.inv.masIdle (k:=d) false
    rw[stOf_S hd] at i1 i2
    have hrd:=reads_range (c.mas d)
    have e0:(Mas.still false (c.mas d).begun).reads=0:=rfl
    have e1:(Mas.still false (c.mas d).begun).begun=(c.mas d).begun:=rfl
    exact (h.nodes.laterMas hd (Int.le_refl _) (masStill_wf _ (h.nodes.S _ hd).begun h.nodes.E0) (by rw[e0,e1];omega) i1 i2).still h rfl
theorem Good.restart {c:Clu}{E:Int}{g:Gh}(h:Good c E g)(d:Int):StepOK c E g (c.restart d).1:=by
 unfold Clu.restart
 split
 ·exact StepOK.same h
 ·exact StepOK.same h
 ·rename_i hup
  split
  ·rename_i hd
   obtain⟨d0,d1,d2⟩:=rep_dst h.nodes hd
   obtain⟨g',i1,i2⟩:=h.nodes.inv.repRestart (i:=d) d0 d2
   rw[stOf_R hd] at i1 i2
   exact (h.nodes.laterRep hd (repRestart_wf (h.nodes.R _ hd)) i1 i2).still h rfl
  ·rename_i hr
   split
   ·rename_i hd
    obtain⟨i1,i2⟩:=h.nodes.inv.accReg hd (a':={ c.acc d with up:=true }) (by rw[stOf_A hd]) (by have:=h.nodes.inv.reg hd;rw[stOf_A hd] at this;exact this)
    exact (h.nodes.laterAcc hd (r:={ c.acc d with up:=true }) ⟨(h.nodes.A _ hd).epoch,(h.nodes.A _ hd).mems,(h.nodes.A _ hd).votes⟩ i1 i2).still h rfl
   ·rename_i ha
    have hd:isMas d:=by
     unfold Clu.upOf at hup
     rw[if_neg hr,if_neg ha] at hup
     split at hup
     ·assumption
     ·cases hup
    obtain⟨i1,i2⟩:=h.nodes.inv.masIdle (k:=d) true
    rw[stOf_S hd] at i1 i2
    have hrd:=reads_range (c.mas d)
    have e0:(Mas.still true (c.mas d).begun).reads=0:=rfl
    have e1:(Mas.still true (c.mas d).begun).begun=(c.mas d).begun:=rfl
    exact (h.nodes.laterMas hd (Int.le_refl _) (masStill_wf _ (h.nodes.S _ hd).begun h.nodes.E0) (by rw[e0,e1];omega) i1 i2).still h rfl
theorem Good.ask {c:Clu}{E:Int}{g:Gh}(h:Good c E g)(d:Int)(e:Ent)(hd:c.isRep d)(he:e.ok=true):Good (c.ask d e).1 E (g.addAsk e)∧(c.ask d e).2=0:=by
 unfold Clu.ask
 rw[if_neg (fun q=>q hd),if_neg (by rw[he];exact Bool.noConfusion)]
 refine⟨?_,rfl⟩
 have hn:Nodes c E (g.addAsk e):=⟨h.nodes.n1,h.nodes.n5,h.nodes.a3,h.nodes.m2,h.nodes.n,h.nodes.E0,h.nodes.R,h.nodes.A,h.nodes.S,h.nodes.budget,h.nodes.inv.ask e⟩
 obtain⟨d0,d1,d2⟩:=rep_dst h.nodes hd
 refine hn.good ?_ ?_
 ·intro f hf
  obtain⟨m,h1,h2⟩:=h.frames f hf
  exact⟨m,⟨h1.1,h1.2.addAsk e⟩,h2⟩
 ·intro x hx
  rw[List.mem_singleton] at hx
  subst hx;have:=ent_bounds he
  exact⟨request_wf he h.nodes.E0 (by omega) ⟨d0,d1⟩,mk1 rfl ⟨e,rfl,.inr rfl⟩⟩
inductive Nod where
 | rep (r:Rep)
 | acc (a:Acc)
 | mas (s:Mas)
def numOf (n j:Nat):Int:=if j<n then (j:Int) else if j<n+3 then 100+((j:Int)-n) else 200+((j:Int)-n-3)
def nodPlace (n:Nat)(d:Int):Option Nat :=
 if 0≤d∧d<n then some d.toNat else if 100≤d∧d<103 then some (n+(d-100).toNat) else if 200≤d∧d<202 then some (n+3+(d-200).toNat) else none
def Clu.nod (c:Clu)(j:Nat):Nod :=
 if j<c.reps.length then .rep (c.rep (numOf c.reps.length j)) else if j<c.reps.length+3 then .acc (c.acc (numOf c.reps.length j)) else .mas (c.mas (numOf c.reps.length j))
def Nod.up : Nod→Bool
 | .rep r=>r.up
 | .acc a=>a.up
 | .mas s=>s.up
def Nod.take (x:Nod)(own:Int)(m:Msg):Nod × List Msg :=
 match x with
 | .rep r=>(.rep (r.take own m).1,(r.take own m).2)
 | .acc a=>(.acc (a.take m).1,(a.take m).2)
 | .mas s=>(.mas (s.take m).1,(s.take m).2)
def Nod.tick (x:Nod)(own:Int):List Msg :=
 match x with
 | .rep r=>r.tick own
 | .acc _=>[]
 | .mas s=>s.asks own
def Nod.crash (x:Nod):Nod :=
 match x with
 | .rep r=>.rep r.crash
 | .acc a=>.acc { a with up:=false }
 | .mas s=>.mas (Mas.still false s.begun)
def Nod.restart (x:Nod)(own:Int):Nod :=
 match x with
 | .rep r=>.rep (r.restart own)
 | .acc a=>.acc { a with up:=true }
 | .mas s=>.mas (Mas.still true s.begun)
def Nod.kin : Nod→Nod→Prop
 | .rep _,.rep _=>True
 | .acc _,.acc _=>True
 | .mas _,.mas _=>True
 | _,_=>False
def Clu.setNod (c:Clu)(j:Nat)(x:Nod):Clu :=
 match x with
 | .rep r=>c.setRep (numOf c.reps.length j) r
 | .acc a=>c.setAcc (numOf c.reps.length j) a
 | .mas s=>c.setMas (numOf c.reps.length j) s
theorem nodPlace_lt {n j:Nat}{d:Int}(h:nodPlace n d=some j):j<n+5:=by
 unfold nodPlace at h
 split at h
 ·cases h;omega
 ·split at h
  ·cases h;omega
  ·split at h
   ·cases h;omega
   ·cases h
theorem nodPlace_num {n j:Nat}{d:Int}(h:nodPlace n d=some j):numOf n j=d:=by
 unfold nodPlace at h
 unfold numOf
 split at h
 ·cases h
  rw[if_pos (by omega)]
  omega
 ·split at h
  ·cases h
   rw[if_neg (by omega),if_pos (by omega)]
   omega
  ·split at h
   ·cases h
    rw[if_neg (by omega),if_neg (by omega)]
    omega
   ·cases h
theorem num_nodPlace {n j:Nat}(hn:n≤5)(hj:j<n+5):nodPlace n (numOf n j)=some j:=by
 unfold nodPlace numOf
 by_cases h1:j<n
 ·rw[if_pos h1,if_pos (by omega)];simp
 ·by_cases h2:j<n+3
  ·rw[if_neg h1,if_pos h2,if_neg (by omega),if_pos (by omega)]
   congr 1
   omega
  ·rw[if_neg h1,if_neg h2,if_neg (by omega),if_neg (by omega),if_pos (by omega)]
   congr 1
   omega
theorem nodPlace_eq (c:Clu)(d:Int):nodPlace c.reps.length d=if c.isRep d then some d.toNat else if isAcc d then some (c.reps.length+(d-100).toNat) else if isMas d then some (c.reps.length+3+(d-200).toNat) else none:=rfl
theorem upOf_nod (c:Clu)(d:Int):c.upOf d=(nodPlace c.reps.length d).map (fun j=>(c.nod j).up):=by
 have key:∀ j,nodPlace c.reps.length d=some j→numOf c.reps.length j=d:=fun j h=>nodPlace_num h
 unfold Clu.upOf
 by_cases h1:c.isRep d
 ·rw[if_pos h1]
  have hp:nodPlace c.reps.length d=some d.toNat:=by rw[nodPlace_eq,if_pos h1]
  have:=key _ hp
  rw[hp];have h2:d.toNat<c.reps.length:=by have:=h1.1;have:=h1.2;omega
  simp[Clu.nod,h2,this,Nod.up]
 ·rw[if_neg h1]
  by_cases h2:isAcc d
  ·rw[if_pos h2]
   have hp:nodPlace c.reps.length d=some (c.reps.length+(d-100).toNat):=by rw[nodPlace_eq,if_neg h1,if_pos h2]
   have e:=key _ hp
   rw[hp];have h3:c.reps.length+(d-100).toNat<c.reps.length+3:=by have:=h2.1;have:=h2.2;omega
   simp only [Option.map_some,Clu.nod]
   rw[if_neg (by omega),if_pos h3,e]
   rfl
  ·rw[if_neg h2]
   by_cases h3:isMas d
   ·rw[if_pos h3]
    have hp:nodPlace c.reps.length d=some (c.reps.length+3+(d-200).toNat):=by rw[nodPlace_eq,if_neg h1,if_neg h2,if_pos h3]
    have e:=key _ hp
    rw[hp];simp only [Option.map_some,Clu.nod]
    rw[if_neg (by omega),if_neg (by omega),e]
    rfl
   ·rw[if_neg h3]
    have hp:nodPlace c.reps.length d=none:=by rw[nodPlace_eq,if_neg h1,if_neg h2,if_neg h3]
    rw[hp];rfl
theorem nodPlace_cases {c:Clu}{d:Int}{j:Nat}(h:nodPlace c.reps.length d=some j) :
  (c.isRep d∧j=d.toNat∧j<c.reps.length)∨(¬ c.isRep d∧isAcc d∧j=c.reps.length+(d-100).toNat∧¬ j<c.reps.length∧j<c.reps.length+3)∨(¬ c.isRep d∧¬ isAcc d∧isMas d∧j=c.reps.length+3+(d-200).toNat∧¬ j<c.reps.length∧¬ j<c.reps.length+3):=by
 rw[nodPlace_eq] at h
 by_cases h1:c.isRep d
 ·rw[if_pos h1] at h
  cases h
  exact .inl ⟨h1,rfl,by have:=h1.1;have:=h1.2;omega⟩
 ·rw[if_neg h1] at h
  by_cases h2:isAcc d
  ·rw[if_pos h2] at h
   cases h
   exact .inr (.inl ⟨h1,h2,rfl,by omega,by have:=h2.1;have:=h2.2;omega⟩)
  ·rw[if_neg h2] at h
   by_cases h3:isMas d
   ·rw[if_pos h3] at h
    cases h
    exact .inr (.inr ⟨h1,h2,h3,rfl,by omega,by omega⟩)
   ·rw[if_neg h3] at h
    cases h
theorem nod_at {c:Clu}{d:Int}{j:Nat}(h:nodPlace c.reps.length d=some j) :
  (c.isRep d∧c.nod j=.rep (c.rep d)∧∀ r,c.setNod j (.rep r)=c.setRep d r)∨(¬ c.isRep d∧isAcc d∧c.nod j=.acc (c.acc d)∧∀ r,c.setNod j (.acc r)=c.setAcc d r)∨(¬ c.isRep d∧¬ isAcc d∧isMas d∧c.nod j=.mas (c.mas d)∧∀ r,c.setNod j (.mas r)=c.setMas d r):=by
 have e:=nodPlace_num h
 rcases nodPlace_cases h with ⟨h1,_,h2⟩|⟨h1,h2,_,h3,h4⟩|⟨h1,h2,h3,_,h4,h5⟩
 ·exact .inl ⟨h1,by unfold Clu.nod;rw[if_pos h2,e],fun r=>by unfold Clu.setNod;simp only;rw[e]⟩
 ·exact .inr (.inl ⟨h1,h2,by unfold Clu.nod;rw[if_neg h3,if_pos h4,e],fun r=>by unfold Clu.setNod;simp only;rw[e]⟩)
 ·exact .inr (.inr ⟨h1,h2,h3,by unfold Clu.nod;rw[if_neg h4,if_neg h5,e],fun r=>by unfold Clu.setNod;simp only;rw[e]⟩)
theorem takes_nod {c:Clu}{m:Msg}{j:Nat}(h:nodPlace c.reps.length m.dst=some j)(hu:(c.nod j).up=true):c.takes m=(c.setNod j ((c.nod j).take m.dst m).1,((c.nod j).take m.dst m).2):=by
 unfold Clu.takes
 rw[if_pos (by rw[upOf_nod c,h];simp[hu])]
 rcases nod_at h with ⟨h1,h2,h3⟩|⟨h1,h2,h3,h4⟩|⟨h1,h2,_,h4,h5⟩
 ·rw[if_pos h1,h2]
  simp only [Nod.take]
  rw[h3]
 ·rw[if_neg h1,if_pos h2,h3]
  simp only [Nod.take]
  rw[h4]
 ·rw[if_neg h1,if_neg h2,h4]
  simp only [Nod.take]
  rw[h5]
theorem takes_none {c:Clu}{m:Msg}(h:c.upOf m.dst≠some true):c.takes m=(c,[]):=by
 unfold Clu.takes
 rw[if_neg h]
theorem ticks_nod {c:Clu}{d:Int}{j:Nat}(h:nodPlace c.reps.length d=some j):c.ticks d=(c.nod j).tick d:=by
 unfold Clu.ticks
 rcases nod_at h with ⟨h1,h2,_⟩|⟨h1,h2,h3,_⟩|⟨h1,h2,h3,h4,_⟩
 ·rw[if_pos h1,h2];rfl
 ·rw[if_neg h1,if_neg (by unfold isMas;unfold isAcc at h2;omega),h3];rfl
 ·rw[if_neg h1,if_pos h3,h4];rfl
theorem crash_nod {c:Clu}{d:Int}{j:Nat}(h:nodPlace c.reps.length d=some j)(hu:(c.nod j).up=true):c.crash d=(c.setNod j (c.nod j).crash,0):=by
 unfold Clu.crash
 rw[upOf_nod c,h];simp only [Option.map_some,hu]
 rcases nod_at h with ⟨h1,h2,h3⟩|⟨h1,h2,h3,h4⟩|⟨h1,h2,_,h4,h5⟩
 ·rw[if_pos h1,h2];simp only [Nod.crash];rw[h3]
 ·rw[if_neg h1,if_pos h2,h3];simp only [Nod.crash];rw[h4]
 ·rw[if_neg h1,if_neg h2,h4];simp only [Nod.crash];rw[h5]
theorem restart_nod {c:Clu}{d:Int}{j:Nat}(h:nodPlace c.reps.length d=some j)(hu:(c.nod j).up=false):c.restart d=(c.setNod j ((c.nod j).restart d),0):=by
 unfold Clu.restart
 rw[upOf_nod c,h];simp only [Option.map_some,hu]
 rcases nod_at h with ⟨h1,h2,h3⟩|⟨h1,h2,h3,h4⟩|⟨h1,h2,_,h4,h5⟩
 ·rw[if_pos h1,h2];simp only [Nod.restart];rw[h3]
 ·rw[if_neg h1,if_pos h2,h3];simp only [Nod.restart];rw[h4]
 ·rw[if_neg h1,if_neg h2,h4];simp only [Nod.restart];rw[h5]
theorem setNod_reps (c:Clu)(j:Nat)(x:Nod):(c.setNod j x).reps.length=c.reps.length:=by
 unfold Clu.setNod Clu.setRep Clu.setAcc Clu.setMas
 cases x<;>simp
theorem setNod_rest (c:Clu)(j:Nat)(x:Nod):(c.setNod j x).bag=c.bag∧(c.setNod j x).told=c.told∧(c.setNod j x).accs.length=c.accs.length∧(c.setNod j x).mass.length=c.mass.length:=by
 unfold Clu.setNod Clu.setRep Clu.setAcc Clu.setMas
 cases x<;>simp
theorem getD_set_same {α : Type}(l:List α)(i:Nat)(x d : α)(h:i<l.length):(l.set i x).getD i d=x:=by
 rw[List.getD_eq_getElem?_getD,List.getElem?_set_self h]
 rfl
theorem getD_set_other {α : Type}(l:List α)(i k:Nat)(x d : α)(h:i≠k):(l.set i x).getD k d=l.getD k d:=by
 rw[List.getD_eq_getElem?_getD,List.getElem?_set_ne h,List.getD_eq_getElem?_getD]
theorem nod_setNod {c:Clu}{j:Nat}{x:Nod}(ha:c.accs.length=3)(hm:c.mass.length=2)(hj:j<c.reps.length+5)(hk:(c.nod j).kin x)(k:Nat)(hk5:k<c.reps.length+5):(c.setNod j x).nod k=if k=j then x else c.nod k:=by
 have hr:=setNod_reps c j x
 unfold Clu.nod at hk ⊢
 rw[hr];by_cases h1:j<c.reps.length
 ·rw[if_pos h1] at hk
  cases x with
  | acc a=>cases hk
  | mas a=>cases hk
  | rep r =>
   have hnj:(numOf c.reps.length j).toNat=j:=by unfold numOf;rw[if_pos h1];simp
   by_cases hkj:k=j
   ·subst hkj
    rw[if_pos h1,if_pos rfl];unfold Clu.rep Clu.setNod Clu.setRep
    simp only
    rw[hnj,getD_set_same _ _ _ _ h1]
   ·rw[if_neg hkj]
    by_cases h2:k<c.reps.length
    ·have hnk:(numOf c.reps.length k).toNat=k:=by unfold numOf;rw[if_pos h2];simp
     rw[if_pos h2,if_pos h2];unfold Clu.rep Clu.setNod Clu.setRep
     simp only
     rw[hnj,hnk,getD_set_other _ _ _ _ _ (Ne.symm hkj)]
    ·rw[if_neg h2,if_neg h2]
     rfl
 ·rw[if_neg h1] at hk
  by_cases h2:j<c.reps.length+3
  ·rw[if_pos h2] at hk
   cases x with
   | rep a=>cases hk
   | mas a=>cases hk
   | acc r =>
    have hnj:(numOf c.reps.length j-100).toNat=j-c.reps.length:=by unfold numOf;rw[if_neg h1,if_pos h2];omega
    by_cases hkj:k=j
    ·subst hkj
     rw[if_neg h1,if_pos h2,if_pos rfl];unfold Clu.acc Clu.setNod Clu.setAcc
     simp only
     rw[hnj,getD_set_same _ _ _ _ (by omega)]
    ·rw[if_neg hkj]
     by_cases h3:k<c.reps.length
     ·rw[if_pos h3,if_pos h3];rfl
     ·rw[if_neg h3,if_neg h3]
      by_cases h4:k<c.reps.length+3
      ·have hnk:(numOf c.reps.length k-100).toNat=k-c.reps.length:=by unfold numOf;rw[if_neg h3,if_pos h4];omega
       rw[if_pos h4,if_pos h4];unfold Clu.acc Clu.setNod Clu.setAcc
       simp only
       rw[hnj,hnk,getD_set_other _ _ _ _ _ (by omega)]
      ·rw[if_neg h4,if_neg h4];rfl
  ·rw[if_neg h2] at hk
   cases x with
   | rep a=>cases hk
   | acc a=>cases hk
   | mas r =>
    have hnj:(numOf c.reps.length j-200).toNat=j-c.reps.length-3:=by unfold numOf;rw[if_neg h1,if_neg h2];omega
    by_cases hkj:k=j
    ·subst hkj
     rw[if_neg h1,if_neg h2,if_pos rfl];unfold Clu.mas Clu.setNod Clu.setMas
     simp only
     rw[hnj,getD_set_same _ _ _ _ (by omega)]
    ·rw[if_neg hkj]
     by_cases h3:k<c.reps.length
     ·rw[if_pos h3,if_pos h3];rfl
     ·rw[if_neg h3,if_neg h3]
      by_cases h4:k<c.reps.length+3
      ·rw[if_pos h4,if_pos h4];rfl
      ·have hnk:(numOf c.reps.length k-200).toNat=k-c.reps.length-3:=by unfold numOf;rw[if_neg h3,if_neg h4];omega
       rw[if_neg h4,if_neg h4];unfold Clu.mas Clu.setNod Clu.setMas
       simp only
       rw[hnj,hnk,getD_set_other _ _ _ _ _ (by omega)]
theorem kin_take (x:Nod)(own:Int)(m:Msg):x.kin (x.take own m).1:=by cases x<;>trivial
theorem kin_crash (x:Nod):x.kin x.crash:=by cases x<;>trivial
theorem kin_restart (x:Nod)(own:Int):x.kin (x.restart own):=by cases x<;>trivial
theorem nod_first (n j:Nat)(hj:j<n+5):(Clu.first n).nod j=if j<n then .rep (Rep.first n) else if j<n+3 then .acc (Acc.first n) else .mas (Mas.still true 0):=by
 have hl:(Clu.first n).reps.length=n:=by simp[Clu.first]
 unfold Clu.nod
 rw[hl];by_cases h1:j<n
 ·rw[if_pos h1,if_pos h1]
  have hnj:(numOf n j).toNat=j:=by unfold numOf;rw[if_pos h1];simp
  unfold Clu.rep
  rw[hnj];simp[Clu.first,List.getD_eq_getElem?_getD,h1]
 ·rw[if_neg h1,if_neg h1]
  by_cases h2:j<n+3
  ·rw[if_pos h2,if_pos h2]
   have hnj:(numOf n j-100).toNat=j-n:=by unfold numOf;rw[if_neg h1,if_pos h2];omega
   unfold Clu.acc
   rw[hnj];rcases (by omega:j-n=0∨j-n=1∨j-n=2) with e|e|e<;>rw[e]<;>rfl
  ·rw[if_neg h2,if_neg h2]
   have hnj:(numOf n j-200).toNat=j-n-3:=by unfold numOf;rw[if_neg h1,if_neg h2];omega
   unfold Clu.mas
   rw[hnj];rcases (by omega:j-n-3=0∨j-n-3=1) with e|e<;>rw[e]<;>rfl
end Go.Proofs.YtgieeeeeiggoeaaGreat
