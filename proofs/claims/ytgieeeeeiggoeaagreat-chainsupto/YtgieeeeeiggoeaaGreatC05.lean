import Derived.Test.YtgieeeeeiggoeaaGreatC04
namespace Go.Proofs.YtgieeeeeiggoeaaGreat
theorem MsgInv.ofS {g:Gh}{s:St}{k:Int}{m':Mas}{m:Msg}(h:MsgInv g s m):MsgInv g (s.setS k m') m :=
 ⟨h.req,h.fwd,h.ack,h.rep,h.reg,h.sea,h.sed,h.pre,h.pro,h.acc,h.acd,h.ins,h.wri⟩
theorem MasInv.wait {g:Gh}{s:St}{k:Int}(h:MasInv g s k){m:Msg}(hm:MsgInv g s m)(hf:(s.S k).fits m=true):MasInv g (s.setS k { s.S k with came:=(s.S k).came++[m] }) k:=by
 obtain⟨f1,f2,f3,f4,f5,f6⟩:=fits_iff hf
 have hS:=setS_same s k { s.S k with came:=(s.S k).came++[m] }
 exact
  {does:=by rw[hS];exact h.does
   bal:=by rw[hS];exact h.bal
   want:=by rw[hS];exact h.want
   cameI:=by
    rw[hS];intro x hx;rcases List.mem_append.1 hx with q|q
    ·obtain⟨q1,q2⟩:=h.cameI x q
     exact⟨q1.ofS,q2⟩
    ·rw[List.mem_singleton] at q
     subst q;exact⟨hm.ofS,f2,f5,f3,f4⟩
   old:=by rw[hS];exact h.old
   prep:=by rw[hS];exact h.prep
   logs:=by rw[hS];exact h.logs
   prop:=by rw[hS];exact h.prop
   cfg:=by rw[hS];exact h.cfg }
theorem came_on {s:St}{k:Int}{m':Mas}(hb:m'.begun=(s.S k).begun)(hbal:m'.does≠0→(s.S k).does≠0∧m'.ballot=(s.S k).ballot)(hd:m'.does≠0→(s.S k).does≤m'.does)
  (hE:m'.does≠0→3≤(s.S k).does→m'.epoch=(s.S k).epoch):∀ b E d,3≤d→Proofs.YtgieeeeeiggoeaaGreat.came s b E d→Proofs.YtgieeeeeiggoeaaGreat.came (s.setS k m') b E d:=by
 intro b E d h3 h;refine came_mono h (by omega) ?_ ?_
 ·intro q1 _ _ q4 q5 _
  have:=hd q1
  exact⟨by omega,by rw[hE q1 (by omega)];exact q5⟩
 ·intro q1 _
  exact⟨(hbal q1).1,(hbal q1).2.symm⟩
theorem Inv.masWait {g:Gh}{s:St}(h:Inv g s){k:Int}(hk:isMas k){m:Msg}(hm:MsgInv g s m)(hf:(s.S k).fits m=true) :
  ∃ g',Inv g' (s.setS k { s.S k with came:=(s.S k).came++[m] })∧Le g s g' (s.setS k { s.S k with came:=(s.S k).came++[m] })∧∀ x∈([]:List Msg),MsgInv g' (s.setS k { s.S k with came:=(s.S k).came++[m] }) x:=by
 obtain⟨f1,_⟩:=fits_iff hf
 obtain⟨h1,h2⟩:=h.masStep (k:=k) ((h.mas hk).wait hm hf) (came_on rfl (fun _=>⟨f1,rfl⟩) (fun _=>Nat.le_refl _) (fun _ _=>rfl))
 exact⟨g,h1,h2,fun x hx=>by cases hx⟩
theorem asks_after {g:Gh}{s:St}{k:Int}{m':Mas}(h:Inv g (s.setS k m'))(hk:isMas k):∀ x∈m'.asks k,MsgInv g (s.setS k m') x:=by
 have:=(h.mas hk).asks_ok
 rw[setS_same] at this
 exact this
theorem Inv.masTake1 {g:Gh}{s:St}(h:Inv g s){k:Int}(hk:isMas k)(m:Msg)(hm:MsgInv g s m)(hd:m.dst=k)(hf:(s.S k).fits m=true)(h1:(s.S k).does=1)(hc:(s.S k).came≠[]) :
  ∃ g',Inv g' (s.setS k ({ s.S k with epoch:=(better Msg.epoch (s.S k).came m).epoch+1,old:=(better Msg.epoch (s.S k).came m).mems }.onward m.dst).1)∧Le g s g' (s.setS k ({ s.S k with epoch:=(better Msg.epoch (s.S k).came m).epoch+1,old:=(better Msg.epoch (s.S k).came m).mems }.onward m.dst).1) ∧
   ∀ x∈({ s.S k with epoch:=(better Msg.epoch (s.S k).came m).epoch+1,old:=(better Msg.epoch (s.S k).came m).mems }.onward m.dst).2,MsgInv g' (s.setS k ({ s.S k with epoch:=(better Msg.epoch (s.S k).came m).epoch+1,old:=(better Msg.epoch (s.S k).came m).mems }.onward m.dst).1) x:=by
 obtain⟨f1,f2,f3,f4,f5,f6⟩:=fits_iff hf
 have H:=h.mas hk
 obtain⟨c1,c2,_⟩:=H.cameI _ (headD_mem hc m)
 have hb:∃ l0,g.cfg (better Msg.epoch (s.S k).came m).epoch ((better Msg.epoch (s.S k).came m).mems,l0):=by
  rcases better_or Msg.epoch (s.S k).came m with q|q
  ·rw[q];exact c1.reg (by rw[c2,h1];rfl)
  ·rw[q];exact hm.reg (by rw[f2,h1];rfl)
 generalize hB:better Msg.epoch (s.S k).came m=B at *
 obtain⟨l0,hl0⟩:=hb;have hp:=Gh.cfg_pos hl0
 rw[hd];generalize hM:({ s.S k with epoch:=B.epoch+1,old:=B.mems }:Mas).onward k=M
 have hM1:M.1={ s.S k with epoch:=B.epoch+1,old:=B.mems,does:=2,came:=[] }:=by rw[← hM];unfold Mas.onward;simp[h1]
 have hM2:M.2=M.1.asks k:=by rw[← hM];rfl
 have hS:=setS_same s k M.1
 have hI:MasInv g (s.setS k M.1) k :=
  {does:=by rw[hS,hM1];simp
   bal:=by rw[hS,hM1];intro _;exact H.bal f1
   want:=by rw[hS,hM1];intro _;exact H.want f1
   cameI:=by rw[hS,hM1];intro x hx;cases hx
   old:=by
    rw[hS,hM1];intro _;refine⟨by show 1≤B.epoch+1;omega,l0, ?_⟩
    show g.cfg (B.epoch+1-1) _
    rw[Int.add_sub_cancel];exact hl0
   prep:=by rw[hS,hM1];intro q;simp at q
   logs:=by rw[hS,hM1];intro q;simp at q
   prop:=by rw[hS,hM1];intro q;simp at q
   cfg:=by rw[hS,hM1];intro q;simp at q }
 obtain⟨r1,r2⟩:=h.masStep hI (came_on (by rw[hM1]) (fun _=>⟨f1,by rw[hM1]⟩) (fun _=>by rw[hM1,h1];exact (by decide:1≤2)) (fun _ q=>by omega))
 exact⟨g,r1,r2,by rw[hM2];exact asks_after r1 hk⟩
theorem Inv.masTake2 {g:Gh}{s:St}(h:Inv g s){k:Int}(hk:isMas k)(m:Msg)(hm:MsgInv g s m)(hd:m.dst=k)(hf:(s.S k).fits m=true)(h2:(s.S k).does=2) :
  ∃ g',Inv g' (s.setS k ({ s.S k with log:=m.log }.onward m.dst).1)∧Le g s g' (s.setS k ({ s.S k with log:=m.log }.onward m.dst).1) ∧
   ∀ x∈({ s.S k with log:=m.log }.onward m.dst).2,MsgInv g' (s.setS k ({ s.S k with log:=m.log }.onward m.dst).1) x:=by
 obtain⟨f1,f2,f3,f4,f5,f6⟩:=fits_iff hf
 have H:=h.mas hk
 obtain⟨o1,l0,o2⟩:=H.old (by omega)
 obtain⟨b1,b2⟩:=H.bal f1
 have hep:m.epoch=(s.S k).epoch:=f3 (by omega)
 rw[hd];generalize hM:({ s.S k with log:=m.log }:Mas).onward k=M
 have hM1:M.1={ s.S k with log:=m.log,does:=3,came:=[] }:=by rw[← hM];unfold Mas.onward;simp[h2]
 have hM2:M.2=M.1.asks k:=by rw[← hM];rfl
 have hS:=setS_same s k M.1
 have hlog:fresh (g.addPrep (s.S k).epoch (s.S k).ballot) (s.setS k M.1) (s.S k).epoch m.log∨settledBy (g.addPrep (s.S k).epoch (s.S k).ballot) (s.setS k M.1) (s.S k).epoch (s.S k).ballot:=by
  rcases hm.sed (by rw[f2,h2];rfl) with ⟨q1,q2⟩|⟨v,hv⟩
  ·left
   rw[hep] at q1 q2
   refine⟨m.src,(s.S k).old,l0,o2, ?_,q1,q2⟩
   have:=f5
   unfold Mas.all at this
   rw[h2] at this
   exact this
  ·right
   rw[hep] at hv
   rcases hv with ⟨q,_⟩|⟨_,b',a1,a2,n12,v1,v2,p⟩
   ·omega
   ·have no:∀ a v,¬ g.promR a (s.S k).epoch (s.S k).ballot v:=by
     intro a v q;obtain⟨_,q2,_⟩:=h.prom q
     obtain⟨_,q3⟩:=h.prepd q2
     have:=(came_begun q3 hk b1).2 f1 rfl
     omega
    have hb0:=(h.prop p).1
    obtain⟨i1,_,_,w1⟩:=h.voteAcc v1
    obtain⟨i2,_,_,w2⟩:=h.voteAcc v2
    exact⟨a1,a2,n12,i1,i2,Int.le_trans hb0 w1,Int.le_trans hb0 w2,fun v q=>absurd q (no _ _),fun v q=>absurd q (no _ _)⟩
 have hcm:=came_on (s:=s) (k:=k) (m':=M.1) (by rw[hM1]) (fun _=>⟨f1,by rw[hM1]⟩) (fun _=>by rw[hM1,h2];exact (by decide:2≤3)) (fun _ q=>by omega)
 have hI:MasInv (g.addPrep (s.S k).epoch (s.S k).ballot) (s.setS k M.1) k :=
  {does:=by rw[hS,hM1];simp
   bal:=by rw[hS,hM1];intro _;exact H.bal f1
   want:=by rw[hS,hM1];intro _;exact H.want f1
   cameI:=by rw[hS,hM1];intro x hx;cases hx
   old:=by rw[hS,hM1];intro _;exact⟨o1,l0,o2⟩
   prep:=by rw[hS,hM1];intro _;exact .inr ⟨rfl,rfl⟩
   logs:=by rw[hS];intro _;rw[hM1] at hlog ⊢;exact hlog
   prop:=by rw[hS,hM1];intro q;simp at q
   cfg:=by rw[hS,hM1];intro q;simp at q }
 obtain⟨r1,r2⟩:=h.masPrep (E:=(s.S k).epoch) (b:=(s.S k).ballot) o1 ⟨k,hk,⟨(s.S k).begun,b1,b2,by rw[hS,hM1];exact Nat.le_refl _⟩,by rw[hS,hM1];intro _ _;exact⟨Nat.le_refl _,rfl⟩⟩ hI hcm
 exact⟨_,r1,r2,by rw[hM2];exact asks_after r1 hk⟩
theorem Inv.masTake3 {g:Gh}{s:St}(h:Inv g s){k:Int}(hk:isMas k)(m:Msg)(hm:MsgInv g s m)(hf:(s.S k).fits m=true)(h3:(s.S k).does=3)(hc:(s.S k).came≠[])(mems:List Int)(log:List Ent)
  (hval:(0≤(better Msg.vote (s.S k).came m).vote∧mems=(better Msg.vote (s.S k).came m).mems∧log=(better Msg.vote (s.S k).came m).log)∨(¬ 0≤(better Msg.vote (s.S k).came m).vote∧mems=(s.S k).want∧log=(s.S k).log)) :
  ∃ g',Inv g' (s.setS k ({ s.S k with mems:=mems,log:=log }.onward k).1)∧Le g s g' (s.setS k ({ s.S k with mems:=mems,log:=log }.onward k).1) ∧
   ∀ x∈({ s.S k with mems:=mems,log:=log }.onward k).2,MsgInv g' (s.setS k ({ s.S k with mems:=mems,log:=log }.onward k).1) x:=by
 obtain⟨f1,f2,f3,f4,f5,f6⟩:=fits_iff hf
 have H:=h.mas hk
 obtain⟨o1,l0,o2⟩:=H.old (by omega)
 obtain⟨b1,b2⟩:=H.bal f1
 have hpr:=H.prep (by omega)
 obtain⟨c1,c2,_,c3,c4⟩:=H.cameI _ (headD_mem hc m)
 have hne:=f6 _ (headD_mem hc m)
 have hep:m.epoch=(s.S k).epoch:=f3 (by omega)
 have hba:m.ballot=(s.S k).ballot:=f4 (by omega)
 have hep':=c3 (by omega)
 have hba':=c4 (by omega)
 obtain⟨p1,p1'⟩:=c1.pro (by rw[c2,h3];rfl)
 obtain⟨p2,p2'⟩:=hm.pro (by rw[f2,h3];rfl)
 have hmx:=better_max Msg.vote (s.S k).came m
 have hor:=better_or Msg.vote (s.S k).came m
 generalize hB:better Msg.vote (s.S k).came m=B at *
 generalize hP:(s.S k).came.headD m=P at *
 rw[hep',hba'] at p1
 rw[hep,hba] at p2
 have hnone:g.prop (s.S k).epoch (s.S k).ballot=none:=by
  cases q:g.prop (s.S k).epoch (s.S k).ballot with
  | none=>rfl
  | some v =>
   have:=(came_begun (h.propd (by rw[q];rfl)) hk b1).2 f1 rfl
   omega
 have hb0:0≤(s.S k).ballot:=by unfold isMas at hk;omega
 have lt:∀ {a v},g.promR a (s.S k).epoch (s.S k).ballot v→v<(s.S k).ballot:=by
  intro a v q;obtain⟨_,_,_,q4,q5,_⟩:=h.prom q
  by_cases e:v=(s.S k).ballot
  ·obtain⟨_,_,⟨w,hw⟩,_⟩:=h.voteAcc (q5 (by omega))
   rw[e,hnone] at hw
   cases hw
  ·omega
 have hvv:g.prop (s.S k).epoch B.vote=some (B.mems,B.log)∨B.vote<0:=by
  by_cases q:0≤B.vote
  ·left
   rcases hor with e|e
   ·subst e;rw[← hep'];exact p1' q
   ·subst e;rw[← hep];exact p2' q
  ·right;omega
 have key:memsOk mems g.n=true∧fresh g s (s.S k).epoch log∧(0≤P.vote∨0≤m.vote→g.prop (s.S k).epoch (max P.vote m.vote)=some (mems,log)):=by
  rcases hval with ⟨q,rfl,rfl⟩|⟨q,rfl,rfl⟩
  ·rcases hvv with w|w
   ·obtain⟨_,_,w1,w2,_⟩:=h.prop w
    exact⟨w1,w2,fun _=>by rw[← hmx];exact w⟩
   ·omega
  ·refine⟨H.want f1, ?_,fun q'=>by omega⟩
   rcases H.logs h3 with w|⟨a1,a2,n12,i1,i2,_,_,y1,y2⟩
   ·exact w
   ·exfalso
    have k1:=(h.prom p1).1
    have k2:=(h.prom p2).1
    rcases quorum i1 i2 k1 k2 n12 hne with e|e|e|e
    ·have:=y1 _ (e ▸ p1);omega
    ·have:=y1 _ (e ▸ p2);omega
    ·have:=y2 _ (e ▸ p1);omega
    ·have:=y2 _ (e ▸ p2);omega
 generalize hM:({ s.S k with mems:=mems,log:=log }:Mas).onward k=M
 have hM1:M.1={ s.S k with mems:=mems,log:=log,does:=4,came:=[] }:=by rw[← hM];unfold Mas.onward;simp[h3]
 have hM2:M.2=M.1.asks k:=by rw[← hM];rfl
 have hS:=setS_same s k M.1
 have hcm:=came_on (s:=s) (k:=k) (m':=M.1) (by rw[hM1]) (fun _=>⟨f1,by rw[hM1]⟩) (fun _=>by rw[hM1,h3];exact (by decide:3≤4)) (fun _ _=>by rw[hM1])
 obtain⟨r1,r2⟩:=h.masProp (k:=k) (m':=M.1) (v:=(mems,log)) hnone o1 hb0 key.1 key.2.1 ⟨P.src,m.src,P.vote,m.vote,hne,p1,p2,lt p1,lt p2,key.2.2⟩
  ⟨k,hk,⟨(s.S k).begun,b1,b2,by rw[hS,hM1];exact Nat.le_refl _⟩,by rw[hS,hM1];intro _ _;exact⟨Nat.le_refl _,rfl⟩⟩
  (fun hcfg hle =>
   {does:=by rw[hS,hM1];simp
    bal:=by rw[hS,hM1];intro _;exact H.bal f1
    want:=by rw[hS,hM1];intro _;exact H.want f1
    cameI:=by rw[hS,hM1];intro x hx;cases hx
    old:=by rw[hS,hM1];intro _;exact⟨o1,l0,hcfg o2⟩
    prep:=by rw[hS,hM1];intro _;exact hpr
    logs:=by rw[hS,hM1];intro q;simp at q
    prop:=by rw[hS,hM1];intro _;exact if_pos ⟨rfl,rfl⟩
    cfg:=by rw[hS,hM1];intro q;simp at q }) hcm
 exact⟨_,r1,r2,by rw[hM2];exact asks_after r1 hk⟩
theorem Inv.masOn {g:Gh}{s:St}(h:Inv g s){k:Int}(hk:isMas k)(m:Msg)(hm:MsgInv g s m)(hf:(s.S k).fits m=true)(h4:4≤(s.S k).does)(hc:(s.S k).does=4→(s.S k).came≠[]) :
  ∃ g',Inv g' (s.setS k ((s.S k).onward k).1)∧Le g s g' (s.setS k ((s.S k).onward k).1)∧∀ x∈((s.S k).onward k).2,MsgInv g' (s.setS k ((s.S k).onward k).1) x:=by
 obtain⟨f1,f2,f3,f4,f5,f6⟩:=fits_iff hf
 have H:=h.mas hk
 have h6:=H.does
 obtain⟨o1,l0,o2⟩:=H.old (by omega)
 have hcf:g.cfg (s.S k).epoch ((s.S k).mems,(s.S k).log):=by
  by_cases q:5≤(s.S k).does
  ·exact H.cfg q
  ·have e4:(s.S k).does=4:=by omega
   have hcne:=hc e4
   obtain⟨c1,c2,_,c3,c4⟩:=H.cameI _ (headD_mem hcne m)
   have hne:=f6 _ (headD_mem hcne m)
   have v1:=c1.acd (by rw[c2,e4];rfl)
   have v2:=hm.acd (by rw[f2,e4];rfl)
   rw[c3 (by omega),c4 (by omega)] at v1
   rw[f3 (by omega),f4 (by omega)] at v2
   exact .inr ⟨o1,_,_,_,hne,v1,v2,H.prop (by omega)⟩
 generalize hM:(s.S k).onward k=M
 have hM1:M.1={ s.S k with does:=if (s.S k).does=6 then 0 else (s.S k).does+1,came:=[] }:=by rw[← hM];rfl
 have hM2:M.2=M.1.asks k:=by rw[← hM];rfl
 have hS:=setS_same s k M.1
 have hdo:M.1.does=if (s.S k).does=6 then 0 else (s.S k).does+1:=by rw[hM1]
 have e1:M.1.epoch=(s.S k).epoch:=by rw[hM1]
 have e2:M.1.ballot=(s.S k).ballot:=by rw[hM1]
 have e3:M.1.begun=(s.S k).begun:=by rw[hM1]
 have e4:M.1.mems=(s.S k).mems:=by rw[hM1]
 have e5:M.1.log=(s.S k).log:=by rw[hM1]
 have e6:M.1.old=(s.S k).old:=by rw[hM1]
 have e7:M.1.want=(s.S k).want:=by rw[hM1]
 have e8:M.1.came=[]:=by rw[hM1]
 have hI:MasInv g (s.setS k M.1) k :=
  {does:=by rw[hS,hdo];split<;>omega
   bal:=by rw[hS,e2,e3];intro _;exact H.bal f1
   want:=by rw[hS,e7];intro _;exact H.want f1
   cameI:=by rw[hS,e8];intro x hx;cases hx
   old:=by rw[hS,e1,e6];intro _;exact⟨o1,l0,o2⟩
   prep:=by rw[hS,e1,e2];intro _;exact H.prep (by omega)
   logs:=by rw[hS,hdo];intro q;split at q<;>omega
   prop:=by rw[hS,e1,e2,e4,e5];intro _;exact H.prop h4
   cfg:=by rw[hS,e1,e4,e5];intro _;exact hcf }
 have hdo2:M.1.does≠0→(s.S k).does≤M.1.does:=by rw[hdo];split<;>omega
 obtain⟨r1,r2⟩:=h.masStep hI (came_on e3 (fun _=>⟨f1,e2⟩) hdo2 (fun _ _=>e1))
 exact⟨g,r1,r2,by rw[hM2];exact asks_after r1 hk⟩
theorem Inv.masTake {g:Gh}{s:St}(h:Inv g s){k:Int}(hk:isMas k)(m:Msg)(hm:MsgInv g s m)(hd:m.dst=k) :
  ∃ g',Inv g' (s.setS k ((s.S k).take m).1)∧Le g s g' (s.setS k ((s.S k).take m).1)∧∀ x∈((s.S k).take m).2,MsgInv g' (s.setS k ((s.S k).take m).1) x:=by
 by_cases hf:(s.S k).fits m=true
 ·obtain⟨f1,_⟩:=fits_iff hf
  have h6:=(h.mas hk).does
  have hwait:=h.masWait hk hm hf
  unfold Mas.take
  rw[if_pos hf];split
  ·rename_i q
   split
   ·rename_i hc
    rw[hc] at hwait
    exact hwait
   ·rename_i hc
    exact h.masTake1 hk m hm hd hf q hc
  ·rename_i q
   exact h.masTake2 hk m hm hd hf q
  ·rename_i q
   split
   ·rename_i hc
    rw[hc] at hwait
    exact hwait
   ·rename_i hc
    split
    ·rename_i hv
     rw[hd];exact h.masTake3 hk m hm hf q hc _ _ (.inl ⟨hv,rfl,rfl⟩)
    ·rename_i hv
     rw[hd];exact h.masTake3 hk m hm hf q hc _ (s.S k).log (.inr ⟨hv,rfl,rfl⟩)
  ·rename_i q
   split
   ·exact hwait
   ·rw[hd]
    exact h.masOn hk m hm hf (by omega) (fun e=>by omega)
  ·rename_i q1 q2 q3 q5
   split
   ·rename_i hc
    rw[hc] at hwait
    exact hwait
   ·rename_i hc
    rw[hd];have:(s.S k).does≠1:=fun e=>q1 e
    have:(s.S k).does≠2:=fun e=>q2 e
    have:(s.S k).does≠3:=fun e=>q3 e
    exact h.masOn hk m hm hf (by omega) (fun _=>hc)
 ·unfold Mas.take
  rw[if_neg hf];show ∃ g',Inv g' (s.setS k (s.S k))∧Le g s g' (s.setS k (s.S k))∧∀ x∈([]:List Msg),_
  rw[setS_self];exact⟨g,h,Le.refl g s,fun x hx=>by cases hx⟩
theorem Inv.masIdle {g:Gh}{s:St}(h:Inv g s){k:Int}(up:Bool) :
  Inv g (s.setS k (Mas.still up (s.S k).begun))∧Le g s g (s.setS k (Mas.still up (s.S k).begun)):=by
 have hS:=setS_same s k (Mas.still up (s.S k).begun)
 refine h.masStep ?_ (came_on rfl (fun q=>absurd rfl q) (fun q=>absurd rfl q) (fun q=>absurd rfl q))
 exact
  {does:=by rw[hS];exact Nat.zero_le _
   bal:=by rw[hS];intro q;exact absurd rfl q
   want:=by rw[hS];intro q;exact absurd rfl q
   cameI:=by rw[hS];intro x hx;cases hx
   old:=by rw[hS];intro q;exact absurd q (by show ¬ 2≤0;decide)
   prep:=by rw[hS];intro q;exact absurd q (by show ¬ 3≤0;decide)
   logs:=by rw[hS];intro q;exact absurd q (by show ¬ 0=3;decide)
   prop:=by rw[hS];intro q;exact absurd q (by show ¬ 4≤0;decide)
   cfg:=by rw[hS];intro q;exact absurd q (by show ¬ 5≤0;decide) }
def Gh.addAsk (g:Gh)(e:Ent):Gh:={ g with asked:=fun x=>g.asked x∨x=e }
theorem MsgInv.addAsk {g:Gh}{s:St}{m:Msg}(h:MsgInv g s m)(e:Ent):MsgInv (g.addAsk e) s m :=
 ⟨fun q=>by obtain⟨x,h1,h2⟩:=h.req q;exact⟨x,h1,.inl h2⟩,h.fwd,h.ack,h.rep,h.reg,h.sea,h.sed,h.pre,h.pro,h.acc,h.acd,h.ins,h.wri⟩
theorem Inv.ask {g:Gh}{s:St}(h:Inv g s)(e:Ent):Inv (g.addAsk e) s :=
 {npos:=h.npos,voteAcc:=h.voteAcc,votes:=h.votes,prom:=h.prom,prepd:=h.prepd,propd:=h.propd,prop:=h.prop,reg:=h.reg,rep:=h.rep,chain:=h.chain
  mas:=fun hk=>{ h.mas hk with cameI:=fun x hx=>⟨((h.mas hk).cameI x hx).1.addAsk e,((h.mas hk).cameI x hx).2⟩ }
  hist:=by
   intro i ep l q;obtain⟨q1,q2,q3,q4,q5,q6,q7⟩:=h.hist q
   exact⟨q1,q2,q3,q4,q5,fun x hx=>.inl (q6 x hx),q7⟩ }
def entsOk (l:List Ent):Prop:=l.length≤24∧∀ x∈l,x.ok=true
def memsOr (l:List Int)(n:Nat):Prop:=l=[]∨memsOk l n=true
structure MsgWF (n:Nat)(E:Int)(m:Msg):Prop where
 kind:1≤m.kind∧m.kind≤16
 src:0≤m.src∧m.src≤303
 dst:0≤m.dst∧m.dst≤303
 epoch:0≤m.epoch∧m.epoch≤E
 ballot:0≤m.ballot∧m.ballot≤2001
 vote : -1≤m.vote∧m.vote≤2001
 pos:0≤m.pos∧m.pos≤999
 value : -1≤m.value∧m.value≤999
 mems:memsOr m.mems n
 log:entsOk m.log
 has:m.kind=6∨m.kind=11∨m.kind=13∨m.kind=15∨(m.kind=10∧0≤m.vote)→memsOk m.mems n=true
 one:m.kind=1∨m.kind=2→m.log.length=1
structure RepWF (n:Nat)(E:Int)(r:Rep):Prop where
 epoch:0≤r.epoch∧r.epoch≤E
 lock:0≤r.lock∧r.lock≤E
 mems:memsOk r.mems n=true
 log:entsOk r.log
 base:r.base≤r.log.length
 commit:r.commit≤r.log.length
 bc:r.base≤r.commit
structure VoteWF (n:Nat)(v:AVote):Prop where
 promise : -1≤v.promise∧v.promise≤2001
 ballot : -1≤v.ballot∧v.ballot≤2001
 mems:memsOr v.mems n
 has:0≤v.ballot→memsOk v.mems n=true
 log:entsOk v.log
structure AccWF (n:Nat)(E:Int)(a:Acc):Prop where
 epoch:0≤a.epoch∧a.epoch≤E
 mems:memsOk a.mems n=true
 votes:∀ e,VoteWF n (a.votes e)
structure MasWF (n:Nat)(E:Int)(s:Mas):Prop where
 begun:s.begun≤1000
 does:s.does≤6
 epoch:0≤s.epoch∧s.epoch≤E
 ballot:0≤s.ballot∧s.ballot≤2001
 want:s.does≠0→memsOk s.want n=true
 old:2≤s.does→memsOk s.old n=true
 mems:4≤s.does→memsOk s.mems n=true
 memsO:memsOr s.mems n
 log:entsOk s.log
 came:∀ m∈s.came,MsgWF n E m∧m.kind=4+2*(s.does:Int)∧m.src∈s.all
 nodup:(s.came.map Msg.src).Nodup
 few:(s.does≠5→s.came.length≤1)∧(s.does=5→s.came.length<s.mems.length)∧(s.does=0∨s.does=2→s.came=[])
theorem MsgWF.mono {n:Nat}{E E':Int}{m:Msg}(h:MsgWF n E m)(hE:E≤E'):MsgWF n E' m:={ h with epoch:=⟨h.epoch.1,Int.le_trans h.epoch.2 hE⟩ }
theorem RepWF.mono {n:Nat}{E E':Int}{r:Rep}(h:RepWF n E r)(hE:E≤E'):RepWF n E' r :=
 {h with epoch:=⟨h.epoch.1,Int.le_trans h.epoch.2 hE⟩,lock:=⟨h.lock.1,Int.le_trans h.lock.2 hE⟩ }
theorem AccWF.mono {n:Nat}{E E':Int}{r:Acc}(h:AccWF n E r)(hE:E≤E'):AccWF n E' r:={ h with epoch:=⟨h.epoch.1,Int.le_trans h.epoch.2 hE⟩ }
theorem MasWF.mono {n:Nat}{E E':Int}{r:Mas}(h:MasWF n E r)(hE:E≤E'):MasWF n E' r :=
 {h with epoch:=⟨h.epoch.1,Int.le_trans h.epoch.2 hE⟩,came:=fun m hm=>⟨(h.came m hm).1.mono hE,(h.came m hm).2⟩ }
theorem memsOk_length {l:List Int}{n:Nat}(h:memsOk l n=true):l.length≤n:=by
 obtain⟨h1,h2,_⟩:=(memsOk_iff _ _).1 h
 have hsub:l ⊆ firstInts n:=by
  intro x hx;obtain⟨a,b⟩:=h1 x hx
  simp only [firstInts,List.mem_map,List.mem_range]
  exact⟨x.toNat,by omega,by show Int.ofNat _=_;simp;omega⟩
 have:=h2.length_le_of_subset hsub
 simpa [firstInts] using this
theorem ent_nums_ok {x:Ent}(h:x.ok=true):∀ v∈x.nums,numOk v=true:=by
 unfold Ent.ok at h
 simp only [Bool.and_eq_true,Bool.or_eq_true,decide_eq_true_eq] at h
 intro v hv;simp only [Ent.nums,List.mem_cons,List.not_mem_nil,or_false] at hv
 rw[numOk_iff];rcases hv with rfl|rfl|rfl|rfl|rfl<;>omega
theorem MsgWF.ok {n:Nat}{E:Int}{m:Msg}(h:MsgWF n E m)(hn:n≤5)(hE:E≤2000):m.ok=true:=by
 unfold Msg.ok
 rw[msgOk_iff];have hml:m.mems.length≤5:=by
  rcases h.mems with q|q
  ·rw[q];exact Nat.zero_le _
  ·have:=memsOk_length q;omega
 refine⟨⟨h.kind.1,h.kind.2,hml,h.log.1⟩, ?_, ?_, ?_⟩
 ·rw[List.all_eq_true]
  intro x hx;have h1:=h.src;have h2:=h.dst;have h3:=h.epoch;have h4:=h.ballot;have h5:=h.vote;have h6:=h.pos;have h7:=h.value
  simp only [Msg.head,List.mem_cons,List.not_mem_nil,or_false] at hx
  rw[numOk_iff];rcases hx with rfl|rfl|rfl|rfl|rfl|rfl|rfl<;>omega
 ·rw[List.all_eq_true]
  intro x hx;rcases h.mems with q|q
  ·rw[q] at hx;cases hx
  ·have:=((memsOk_iff _ _).1 q).1 x hx
   rw[numOk_iff];omega
 ·rw[List.all_eq_true]
  intro x hx;simp only [entsNums,List.mem_flatMap] at hx
  obtain⟨e,he,hx⟩:=hx;exact ent_nums_ok (h.log.2 e he) x hx
theorem entsOk_nil : entsOk []:=⟨Nat.zero_le _,fun x hx=>by cases hx⟩
theorem entsOk_one {e:Ent}(h:e.ok=true):entsOk [e]:=⟨by simp,fun x hx=>by rw[List.mem_singleton] at hx;subst hx;exact h⟩
theorem getD_ok {l:List Ent}(h:entsOk l){p:Nat}(hp:p<l.length):(l.getD p Ent.zero).ok=true:=by
 rw[List.getD,List.getElem?_eq_getElem hp]
 exact h.2 _ (List.getElem_mem hp)
theorem lastPut_le (key:Int)(l:List Ent)(h:∀ x∈l,x.ok=true)(v:Int)(hv : -1≤v∧v≤999) : -1≤l.foldl (fun v e=>if e.kind=1∧e.key=key then e.value else v) v∧l.foldl (fun v e=>if e.kind=1∧e.key=key then e.value else v) v≤999:=by
 induction l generalizing v with
 | nil=>exact hv
 | cons a t ih =>
  rw[List.foldl_cons];refine ih (fun x hx=>h x (List.mem_cons_of_mem _ hx)) _ ?_
  split
  ·have:=h a List.mem_cons_self
   unfold Ent.ok at this
   simp only [Bool.and_eq_true,Bool.or_eq_true,decide_eq_true_eq] at this
   omega
  ·exact hv
theorem answerAt_le {l:List Ent}(h:entsOk l)(p:Nat) : -1≤answerAt l p∧answerAt l p≤999 :=
 lastPut_le _ _ (fun x hx=>h.2 x (List.mem_of_mem_take hx)) _ ⟨by decide,by decide⟩
section
variable {n:Nat} {E:Int} {own:Int}
theorem next_mem {l:List Int}{x y:Int}(h:nextOf l x=some y):y∈l:=by
 obtain⟨a,_,h2⟩:=next_at h
 exact List.mem_of_getElem? h2
theorem prev_mem {l:List Int}{x y:Int}(h:prevOf l x=some y):y∈l:=by
 obtain⟨a,h2,_⟩:=prev_at h
 exact List.mem_of_getElem? h2
theorem memsOk_mem {l:List Int}(h:memsOk l n=true)(hn:n≤5){x:Int}(hx:x∈l):0≤x∧x≤303:=by
 have:=((memsOk_iff _ _).1 h).1 x hx
 omega
theorem acks_wf {r:Rep}(h:RepWF n E r)(hn:n≤5)(ho:0≤own∧own≤303):∀ x∈r.acks own,MsgWF n E x:=by
 intro x hx;unfold Rep.acks at hx
 split at hx
 ·cases hx
 ·rename_i a ha
  rw[List.mem_singleton] at hx
  subst hx;have h1:=memsOk_mem h.mems hn (prev_mem ha)
  have h2:=h.commit
  have h3:=h.log.1
  exact⟨by show (1:Int)≤3∧(3:Int)≤16;omega,ho,h1,h.epoch,by show (0:Int)≤0∧(0:Int)≤2001;omega,by show (-1:Int)≤0∧(0:Int)≤2001;omega,
   by show (0:Int)≤(r.commit:Int)∧(r.commit:Int)≤999;omega,by show (-1:Int)≤0∧(0:Int)≤999;omega,.inl rfl,entsOk_nil,
   by intro q;exact absurd q (by show ¬ ((3:Int)=6∨(3:Int)=11∨(3:Int)=13∨(3:Int)=15∨((3:Int)=10∧_));omega),by intro q;exact absurd q (by show ¬ ((3:Int)=1∨(3:Int)=2);omega)⟩
theorem forward_wf {r:Rep}(h:RepWF n E r)(hn:n≤5)(ho:0≤own∧own≤303){nx:Int}(hx:nx∈r.mems){p:Nat}(hp:p<r.log.length):MsgWF n E (r.forward own nx p):=by
 have h1:=memsOk_mem h.mems hn hx
 have h3:=h.log.1
 exact⟨by show (1:Int)≤2∧(2:Int)≤16;omega,ho,h1,h.epoch,by show (0:Int)≤0∧(0:Int)≤2001;omega,by show (-1:Int)≤0∧(0:Int)≤2001;omega,
   by show (0:Int)≤(p:Int)∧(p:Int)≤999;omega,by show (-1:Int)≤0∧(0:Int)≤999;omega,.inl rfl,entsOk_one (getD_ok h.log hp),
   by intro q;exact absurd q (by show ¬ ((2:Int)=6∨(2:Int)=11∨(2:Int)=13∨(2:Int)=15∨((2:Int)=10∧_));omega),fun _=>rfl⟩
theorem ent_bounds {x:Ent}(h:x.ok=true):0≤x.client∧x.client≤3∧0≤x.seq∧x.seq≤999∧0≤x.key∧x.key≤15∧0≤x.value∧x.value≤999∧(x.kind=1∨(x.kind=2∧x.value=0)):=by
 unfold Ent.ok at h
 simp only [Bool.and_eq_true,Bool.or_eq_true,decide_eq_true_eq] at h
 omega
theorem reply_wf {r:Rep}(h:RepWF n E r)(hE:0≤E)(ho:0≤own∧own≤303){p:Nat}(hp:p<r.log.length):MsgWF n E (r.reply own p):=by
 have h1:=ent_bounds (getD_ok h.log hp)
 have h2:=answerAt_le h.log p
 exact⟨by show (1:Int)≤4∧(4:Int)≤16;omega,ho,by show (0:Int)≤300+(r.log.getD p Ent.zero).client∧300+(r.log.getD p Ent.zero).client≤303;omega,by show (0:Int)≤0∧(0:Int)≤E;omega,by show (0:Int)≤0∧(0:Int)≤2001;omega,by show (-1:Int)≤0∧(0:Int)≤2001;omega,
   by show (0:Int)≤(r.log.getD p Ent.zero).seq∧(r.log.getD p Ent.zero).seq≤999;omega,h2,.inl rfl,entsOk_nil,
   by intro q;exact absurd q (by show ¬ ((4:Int)=6∨(4:Int)=11∨(4:Int)=13∨(4:Int)=15∨((4:Int)=10∧_));omega),by intro q;exact absurd q (by show ¬ ((4:Int)=1∨(4:Int)=2);omega)⟩
theorem request_wf {e:Ent}{d o:Int}(h:e.ok=true)(hE:0≤E)(ho:0≤o∧o≤303)(hd:0≤d∧d≤303):MsgWF n E { kind:=1,src:=o,dst:=d,log:=[e] } :=
 ⟨by show (1:Int)≤1∧(1:Int)≤16;omega,ho,hd,by show (0:Int)≤0∧(0:Int)≤E;omega,by show (0:Int)≤0∧(0:Int)≤2001;omega,by show (-1:Int)≤0∧(0:Int)≤2001;omega,
   by show (0:Int)≤0∧(0:Int)≤999;omega,by show (-1:Int)≤0∧(0:Int)≤999;omega,.inl rfl,entsOk_one h,
   by intro q;exact absurd q (by show ¬ ((1:Int)=6∨(1:Int)=11∨(1:Int)=13∨(1:Int)=15∨((1:Int)=10∧_));omega),fun _=>rfl⟩
theorem put_wf {r:Rep}(h:RepWF n E r)(hn:n≤5)(hE:0≤E)(ho:0≤own∧own≤303){e:Ent}(he:e.ok=true)(hl:r.log.length<24):RepWF n E (r.put own e).1∧∀ x∈(r.put own e).2,MsgWF n E x:=by
 have hlog:entsOk (r.log++[e]):=by
  refine⟨by simp;omega, ?_⟩
  intro x hx;rcases List.mem_append.1 hx with q|q
  ·exact h.log.2 x q
  ·rw[List.mem_singleton] at q;subst q;exact he
 have h1:RepWF n E { r with log:=r.log++[e] }:={ h with log:=hlog,base:=(by show r.base≤(r.log++[e]).length;have:=h.base;simp;omega),commit:=(by show r.commit≤(r.log++[e]).length;have:=h.commit;simp;omega) }
 unfold Rep.put
 split
 ·rename_i nx hnx
  refine⟨h1, ?_⟩
  intro x hx;rw[List.mem_singleton] at hx
  subst hx;exact forward_wf h1 hn ho (next_mem hnx) (by simp)
 ·have h2:RepWF n E { r with log:=r.log++[e],commit:=(r.log++[e]).length }:={ h1 with commit:=Nat.le_refl _,bc:=h1.base }
  refine⟨h2, ?_⟩
  intro x hx;unfold Rep.commitAll at hx
  rcases List.mem_append.1 hx with q|q
  ·simp only [List.mem_map] at q
   obtain⟨p,hp,rfl⟩:=q;exact reply_wf h1 hE ho (mem_places hp).2
  ·exact acks_wf h2 hn ho x q
theorem headD_mems {l:List Int}(h:memsOk l n=true):l.headD 0∈l:=by
 have:=((memsOk_iff _ _).1 h).2.2
 cases l with
 | nil=>exact absurd rfl this
 | cons a t=>exact List.mem_cons_self
theorem asked_wf {r:Rep}(h:RepWF n E r)(hn:n≤5)(hE:0≤E)(ho:0≤own∧own≤303){e:Ent}(he:e.ok=true):RepWF n E (r.asked own e).1∧∀ x∈(r.asked own e).2,MsgWF n E x:=by
 unfold Rep.asked
 split
 ·refine⟨h, ?_⟩
  intro x hx;rw[List.mem_singleton] at hx
  subst hx;exact request_wf he hE ho (memsOk_mem h.mems hn (headD_mems h.mems))
 ·split
  ·split
   ·rename_i hp
    refine⟨h, ?_⟩
    intro x hx;rw[List.mem_singleton] at hx
    subst hx;exact reply_wf h hE ho (by have:=h.commit;omega)
   ·exact⟨h,fun x hx=>by cases hx⟩
  ·split
   ·exact⟨h,fun x hx=>by cases hx⟩
   ·exact put_wf h hn hE ho he (by omega)
theorem headD_ent {l:List Ent}(h:entsOk l)(h1:l.length=1):(l.headD Ent.zero).ok=true:=by
 cases l with
 | nil=>simp at h1
 | cons a t=>exact h.2 a List.mem_cons_self
theorem repTake_wf {r:Rep}(h:RepWF n E r)(hn:n≤5)(hE:0≤E)(ho:0≤own∧own≤303){m:Msg}(hm:MsgWF n E m):RepWF n E (r.take own m).1∧∀ x∈(r.take own m).2,MsgWF n E x:=by
 unfold Rep.take
 split
 ·split
  ·rename_i hc
   exact asked_wf h hn hE ho (headD_ent hm.log hc.1)
  ·exact⟨h,fun x hx=>by cases hx⟩
 ·split
  ·unfold Rep.takeForward
   split
   ·rename_i hc
    split
    ·rename_i hp
     exact put_wf h hn hE ho (headD_ent hm.log hc.2.2.1) hp.2
    ·split
     ·exact⟨h,acks_wf h hn ho⟩
     ·exact⟨h,fun x hx=>by cases hx⟩
   ·exact⟨h,fun x hx=>by cases hx⟩
  ·split
   ·unfold Rep.takeAck
    split
    ·rename_i hc
     have h1:RepWF n E { r with commit:=m.pos.toNat }:={ h with commit:=(by show m.pos.toNat≤r.log.length;omega),bc:=(by show r.base≤m.pos.toNat;have:=h.bc;omega) }
     exact⟨h1,acks_wf h1 hn ho⟩
    ·exact⟨h,fun x hx=>by cases hx⟩
   ·split
    ·unfold Rep.takeSeal
     split
     ·exact⟨h,fun x hx=>by cases hx⟩
     ·have he:=hm.epoch
      have hb:=hm.ballot
      have hk:=h.lock
      refine⟨{ h with lock:=by show (0:Int)≤(if _ then _ else _)∧(if _ then _ else _)≤E;split<;>omega }, ?_⟩
      intro x hx;rw[List.mem_singleton] at hx
      subst hx;exact⟨by show (1:Int)≤8∧(8:Int)≤16;omega,ho,hm.src,he,hb,by show (-1:Int)≤0∧(0:Int)≤2001;omega,by show (0:Int)≤0∧(0:Int)≤999;omega,by show (-1:Int)≤0∧(0:Int)≤999;omega,.inl rfl,h.log,
       by intro q;exact absurd q (by show ¬ ((8:Int)=6∨(8:Int)=11∨(8:Int)=13∨(8:Int)=15∨((8:Int)=10∧_));omega),by intro q;exact absurd q (by show ¬ ((8:Int)=1∨(8:Int)=2);omega)⟩
    ·split
     ·rename_i hk
      unfold Rep.takeInstall
      have he:=hm.epoch
      refine⟨?_, ?_⟩
      ·split
       ·exact⟨he,h.lock,hm.has (.inr (.inr (.inl hk))),hm.log,Nat.le_refl _,Nat.le_refl _,Nat.le_refl _⟩
       ·exact h
      ·intro x hx
       rw[List.mem_singleton] at hx
       subst hx;exact⟨by show (1:Int)≤14∧(14:Int)≤16;omega,ho,hm.src,he,by show (0:Int)≤0∧(0:Int)≤2001;omega,by show (-1:Int)≤0∧(0:Int)≤2001;omega,by show (0:Int)≤0∧(0:Int)≤999;omega,by show (-1:Int)≤0∧(0:Int)≤999;omega,.inl rfl,entsOk_nil,
        by intro q;exact absurd q (by show ¬ ((14:Int)=6∨(14:Int)=11∨(14:Int)=13∨(14:Int)=15∨((14:Int)=10∧_));omega),by intro q;exact absurd q (by show ¬ ((14:Int)=1∨(14:Int)=2);omega)⟩
     ·exact⟨h,fun x hx=>by cases hx⟩
theorem repTick_wf {r:Rep}(h:RepWF n E r)(hn:n≤5)(ho:0≤own∧own≤303):∀ x∈r.tick own,MsgWF n E x:=by
 intro x hx;unfold Rep.tick at hx
 split at hx
 ·split at hx
  ·exact acks_wf h hn ho x hx
  ·rename_i nx hnx
   simp only [List.mem_map] at hx
   obtain⟨p,hp,rfl⟩:=hx;exact forward_wf h hn ho (next_mem hnx) (mem_places hp).2
 ·cases hx
theorem repCrash_wf {r:Rep}(h:RepWF n E r):RepWF n E r.crash:={ h with commit:=h.base,bc:=Nat.le_refl _ }
theorem repRestart_wf {r:Rep}(h:RepWF n E r):RepWF n E (r.restart own) :=
 {h with commit:=(by show (if _ then _ else _)≤r.log.length;split;exact Nat.le_refl _;exact h.base),bc:=(by show r.base≤(if _ then _ else _);split;exact h.base;exact Nat.le_refl _) }
theorem accTake_wf {a:Acc}(h:AccWF n E a){m:Msg}(hm:MsgWF n E m):AccWF n E (a.take m).1∧∀ x∈(a.take m).2,MsgWF n E x:=by
 have he:=hm.epoch
 have hb:=hm.ballot
 have hv:=h.votes m.epoch
 unfold Acc.take
 split
 ·refine⟨h, ?_⟩
  intro x hx;rw[List.mem_singleton] at hx
  subst hx;exact⟨by show (1:Int)≤6∧(6:Int)≤16;omega,hm.dst,hm.src,h.epoch,hb,by show (-1:Int)≤0∧(0:Int)≤2001;omega,by show (0:Int)≤0∧(0:Int)≤999;omega,by show (-1:Int)≤0∧(0:Int)≤999;omega,.inr h.mems,entsOk_nil,
   fun _=>h.mems,by intro q;exact absurd q (by show ¬ ((6:Int)=1∨(6:Int)=2);omega)⟩
 ·split
  ·split
   ·exact⟨h,fun x hx=>by cases hx⟩
   ·refine⟨{ h with votes := ?_ }, ?_⟩
    ·intro e
     show VoteWF n (upd a.votes m.epoch _ e)
     unfold upd
     split
     ·exact { hv with promise:=⟨by show -1≤m.ballot;omega,hb.2⟩ }
     ·exact h.votes e
    ·intro x hx
     rw[List.mem_singleton] at hx
     subst hx;exact⟨by show (1:Int)≤10∧(10:Int)≤16;omega,hm.dst,hm.src,he,hb,hv.ballot,by show (0:Int)≤0∧(0:Int)≤999;omega,by show (-1:Int)≤0∧(0:Int)≤999;omega,hv.mems,hv.log,
      by
       intro q;refine hv.has ?_
       rcases q with q|q|q|q|q
       ·exact absurd q (by show ¬ (10:Int)=6;omega)
       ·exact absurd q (by show ¬ (10:Int)=11;omega)
       ·exact absurd q (by show ¬ (10:Int)=13;omega)
       ·exact absurd q (by show ¬ (10:Int)=15;omega)
       ·exact q.2,by intro q;exact absurd q (by show ¬ ((10:Int)=1∨(10:Int)=2);omega)⟩
  ·split
   ·rename_i hk
    split
    ·exact⟨h,fun x hx=>by cases hx⟩
    ·refine⟨{ h with votes := ?_ }, ?_⟩
     ·intro e
      show VoteWF n (upd a.votes m.epoch _ e)
      unfold upd
      split
      ·exact⟨⟨by show -1≤m.ballot;omega,hb.2⟩,⟨by show -1≤m.ballot;omega,hb.2⟩,hm.mems,fun _=>hm.has (.inr (.inl hk)),hm.log⟩
      ·exact h.votes e
     ·intro x hx
      rw[List.mem_singleton] at hx
      subst hx;exact⟨by show (1:Int)≤12∧(12:Int)≤16;omega,hm.dst,hm.src,he,hb,by show (-1:Int)≤0∧(0:Int)≤2001;omega,by show (0:Int)≤0∧(0:Int)≤999;omega,by show (-1:Int)≤0∧(0:Int)≤999;omega,.inl rfl,entsOk_nil,
       by intro q;exact absurd q (by show ¬ ((12:Int)=6∨(12:Int)=11∨(12:Int)=13∨(12:Int)=15∨((12:Int)=10∧_));omega),by intro q;exact absurd q (by show ¬ ((12:Int)=1∨(12:Int)=2);omega)⟩
   ·split
    ·rename_i hk
     refine⟨?_, ?_⟩
     ·split
      ·exact⟨he,hm.has (.inr (.inr (.inr (.inl hk)))),h.votes⟩
      ·exact h
     ·intro x hx
      rw[List.mem_singleton] at hx
      subst hx;exact⟨by show (1:Int)≤16∧(16:Int)≤16;omega,hm.dst,hm.src,he,by show (0:Int)≤0∧(0:Int)≤2001;omega,by show (-1:Int)≤0∧(0:Int)≤2001;omega,by show (0:Int)≤0∧(0:Int)≤999;omega,by show (-1:Int)≤0∧(0:Int)≤999;omega,.inl rfl,entsOk_nil,
       by intro q;exact absurd q (by show ¬ ((16:Int)=6∨(16:Int)=11∨(16:Int)=13∨(16:Int)=15∨((16:Int)=10∧_));omega),by intro q;exact absurd q (by show ¬ ((16:Int)=1∨(16:Int)=2);omega)⟩
    ·exact⟨h,fun x hx=>by cases hx⟩
end
end Go.Proofs.YtgieeeeeiggoeaaGreat
