import Derived.Test.YtgieeeeeiggoeaaGreatC05
namespace Go.Proofs.YtgieeeeeiggoeaaGreat
section
variable {n:Nat} {E:Int} {own:Int}
theorem all_bounds {s:Mas}(h:MasWF n E s)(hn:n≤5){d:Int}(hd:d∈s.all):0≤d∧d≤303:=by
 unfold Mas.all at hd
 split at hd
 ·cases hd
 ·rename_i q;exact memsOk_mem (h.old (by omega)) hn hd
 ·rename_i q;exact memsOk_mem (h.mems (by omega)) hn hd
 ·simp only [List.mem_cons,List.not_mem_nil,or_false] at hd;omega
theorem plain_wf {k d:Int}{e b:Int}(hk:k=5∨k=7∨k=9)(ho:0≤own∧own≤303)(hd:0≤d∧d≤303)(he:0≤e∧e≤E)(hb:0≤b∧b≤2001) :
  MsgWF n E { kind:=k,src:=own,dst:=d,epoch:=e,ballot:=b } :=
 ⟨by show 1≤k∧k≤16;omega,ho,hd,he,hb,by show (-1:Int)≤0∧(0:Int)≤2001;omega,by show (0:Int)≤0∧(0:Int)≤999;omega,by show (-1:Int)≤0∧(0:Int)≤999;omega,.inl rfl,entsOk_nil,
  by intro q;exact absurd q (by show ¬ (k=6∨k=11∨k=13∨k=15∨(k=10∧_));omega),by intro q;exact absurd q (by show ¬ (k=1∨k=2);omega)⟩
theorem full_wf {k d:Int}{e b:Int}{ms:List Int}{l:List Ent}(hk:k=11∨k=13∨k=15)(ho:0≤own∧own≤303)(hd:0≤d∧d≤303)(he:0≤e∧e≤E)(hb:0≤b∧b≤2001)(hm:memsOk ms n=true)(hl:entsOk l) :
  MsgWF n E { kind:=k,src:=own,dst:=d,epoch:=e,ballot:=b,mems:=ms,log:=l } :=
 ⟨by show 1≤k∧k≤16;omega,ho,hd,he,hb,by show (-1:Int)≤0∧(0:Int)≤2001;omega,by show (0:Int)≤0∧(0:Int)≤999;omega,by show (-1:Int)≤0∧(0:Int)≤999;omega,.inr hm,hl,
  fun _=>hm,by intro q;exact absurd q (by show ¬ (k=1∨k=2);omega)⟩
theorem asks_wf {s:Mas}(h:MasWF n E s)(hn:n≤5)(hE:0≤E)(ho:0≤own∧own≤303):∀ x∈s.asks own,MsgWF n E x:=by
 intro x hx;unfold Mas.asks at hx
 simp only [List.mem_map,List.mem_filter] at hx
 obtain⟨d,⟨hd,_⟩,rfl⟩:=hx;have hdb:=all_bounds h hn hd
 have h6:=h.does
 have z:(0:Int)≤0∧(0:Int)≤2001:=by omega
 unfold Mas.ask
 split
 ·exact plain_wf (.inl rfl) ho hdb ⟨by omega,hE⟩ h.ballot
 ·exact plain_wf (.inr (.inl rfl)) ho hdb h.epoch h.ballot
 ·exact plain_wf (.inr (.inr rfl)) ho hdb h.epoch h.ballot
 ·rename_i q;exact full_wf (.inl rfl) ho hdb h.epoch h.ballot (h.mems (by omega)) h.log
 ·rename_i q;exact full_wf (.inr (.inl rfl)) ho hdb h.epoch z (h.mems (by omega)) h.log
 ·rename_i q1 q2 q3 q4 q5
  by_cases h0:s.does=0
  ·unfold Mas.all at hd
   rw[h0] at hd
   cases hd
  ·have:s.does≠1:=fun e=>q1 e
   have:s.does≠2:=fun e=>q2 e
   have:s.does≠3:=fun e=>q3 e
   exact full_wf (.inr (.inr rfl)) ho hdb h.epoch z (h.mems (by omega)) entsOk_nil
def Mas.reads (s:Mas):Int:=if s.does=1 then 1 else 0
theorem wait_wf {s:Mas}(h:MasWF n E s){m:Msg}(hm:MsgWF n E m)(hf:s.fits m=true)(hlen:(s.does≠5→s.came=[])∧(s.does=5→s.came.length+1<s.mems.length)∧s.does≠2):MasWF n E { s with came:=s.came++[m] }:=by
 obtain⟨f1,f2,f3,f4,f5,f6⟩:=fits_iff hf
 exact { h with
  came:=by
   intro x hx;rcases List.mem_append.1 hx with q|q
   ·exact h.came x q
   ·rw[List.mem_singleton] at q;subst q;exact⟨hm,f2,f5⟩
  nodup:=by
   show ((s.came++[m]).map Msg.src).Nodup
   rw[List.map_append,List.map_singleton];unfold List.Nodup
   rw[List.pairwise_append];refine⟨h.nodup,List.pairwise_singleton _ _, ?_⟩
   intro x hx y hy e;rw[List.mem_singleton] at hy
   subst hy;simp only [List.mem_map] at hx
   obtain⟨z,hz,rfl⟩:=hx;exact f6 z hz e
  few:=by
   refine⟨?_, ?_, ?_⟩
   ·intro q
    show (s.came++[m]).length≤1
    rw[hlen.1 q];simp
   ·intro q
    show (s.came++[m]).length<s.mems.length
    rw[List.length_append];exact hlen.2.1 q
   ·intro q
    have q':s.does=0∨s.does=2:=q
    omega }
theorem onward_wf {s:Mas}(hb:s.begun≤1000)(h6:s.does≤6)(he:0≤s.epoch∧s.epoch≤E)(hbal:0≤s.ballot∧s.ballot≤2001)(hmo:memsOr s.mems n)(hl:entsOk s.log)(hn:n≤5)(hE:0≤E)(ho:0≤own∧own≤303)
  (hw:memsOk s.want n=true) (ho2:memsOk s.old n=true) (hm4:3≤s.does→memsOk s.mems n=true) :
  MasWF n E (s.onward own).1∧∀ x∈(s.onward own).2,MsgWF n E x:=by
 have hd:(s.onward own).1.does=if s.does=6 then 0 else s.does+1:=rfl
 have hd2:(s.onward own).1.does≠0→(s.onward own).1.does=s.does+1∧s.does≤5:=by
  rw[hd];intro q;by_cases e:s.does=6
  ·rw[if_pos e] at q;exact absurd rfl q
  ·rw[if_neg e];exact⟨rfl,by omega⟩
 have h1:MasWF n E (s.onward own).1 :=
  {begun:=hb
   does:=by
    by_cases q:(s.onward own).1.does=0
    ·rw[q];omega
    ·obtain⟨q1,q2⟩:=hd2 q;omega
   epoch:=he,ballot:=hbal,want:=fun _=>hw,old:=fun _=>ho2,memsO:=hmo,log:=hl
   mems:=fun q=>hm4 (by have:=hd2 (by omega);omega)
   came:=by intro x hx;cases hx
   nodup:=List.Pairwise.nil
   few:=by
    refine⟨fun _=>Nat.zero_le _, ?_,fun _=>rfl⟩
    intro q;have hm:=hm4 (by have:=hd2 (by omega);omega)
    have:=((memsOk_iff _ _).1 hm).2.2
    exact List.length_pos_iff.2 this }
 exact⟨h1,asks_wf h1 hn hE ho⟩
theorem came_kind {s:Mas}(h:MasWF n E s)(m:Msg)(hc:s.came≠[]):MsgWF n E (s.came.headD m)∧(s.came.headD m).kind=4+2*(s.does:Int):=by
 obtain⟨a,b,_⟩:=h.came _ (headD_mem hc m)
 exact⟨a,b⟩
theorem masTake_wf {s:Mas}(h:MasWF n E s)(hn:n≤5)(hE:0≤E){m:Msg}(hm:MsgWF n E m) :
  MasWF n (E+s.reads-(s.take m).1.reads) (s.take m).1∧(s.take m).1.reads≤s.reads∧(s.take m).1.begun=s.begun∧∀ x∈(s.take m).2,MsgWF n (E+s.reads-(s.take m).1.reads) x:=by
 have ho:=hm.dst
 by_cases hf:s.fits m=true
 ·obtain⟨f1,f2,f3,f4,f5,f6⟩:=fits_iff hf
  have h6:=h.does
  have hw:=h.want f1
  unfold Mas.take
  rw[if_pos hf];split
  ·rename_i q
   have hr:s.reads=1:=if_pos q
   split
   ·rename_i hc
    have:=wait_wf h hm hf ⟨fun _=>hc,fun e=>by omega,by omega⟩
    rw[hc] at this
    have hr2:({ s with came:=[m] }:Mas).reads=1:=if_pos q
    rw[hr,hr2];refine⟨this.mono (by omega),by omega,rfl,fun x hx=>by cases hx⟩
   ·rename_i hc
    obtain⟨c1,c2⟩:=came_kind h m hc
    have hb:MsgWF n E (better Msg.epoch s.came m)∧(better Msg.epoch s.came m).kind=6:=by
     rcases better_or Msg.epoch s.came m with e|e
     ·rw[e];exact⟨c1,by rw[c2,q];rfl⟩
     ·rw[e];exact⟨hm,by rw[f2,q];rfl⟩
    generalize better Msg.epoch s.came m=B at *
    have he:=hb.1.epoch
    have hmm:=hb.1.has (.inl hb.2)
    obtain⟨r1,r2⟩:=onward_wf (n:=n) (E:=E+1) (own:=m.dst) (s:={ s with epoch:=B.epoch+1,old:=B.mems }) h.begun h6 ⟨by show 0≤B.epoch+1;omega,by show B.epoch+1≤E+1;omega⟩ h.ballot h.memsO h.log hn (by omega) ho hw hmm (fun e=>by have e':3≤s.does:=e;omega)
    have hr2:(({ s with epoch:=B.epoch+1,old:=B.mems }:Mas).onward m.dst).1.reads=0:=by
     unfold Mas.reads Mas.onward;simp[q]
    rw[hr,hr2];exact⟨r1.mono (by omega),by omega,rfl,fun x hx=>(r2 x hx).mono (by omega)⟩
  ·rename_i q
   have hr:s.reads=0:=if_neg (by omega)
   obtain⟨r1,r2⟩:=onward_wf (n:=n) (E:=E) (own:=m.dst) (s:={ s with log:=m.log }) h.begun h6 h.epoch h.ballot h.memsO hm.log hn hE ho hw (h.old (by omega)) (fun e=>by have e':3≤s.does:=e;omega)
   have hr2:(({ s with log:=m.log }:Mas).onward m.dst).1.reads=0:=by
    unfold Mas.reads Mas.onward;simp[q]
   rw[hr,hr2];exact⟨r1.mono (by omega),by omega,rfl,fun x hx=>(r2 x hx).mono (by omega)⟩
  ·rename_i q
   have hr:s.reads=0:=if_neg (by omega)
   split
   ·rename_i hc
    have:=wait_wf h hm hf ⟨fun _=>hc,fun e=>by omega,by omega⟩
    rw[hc] at this
    have hr2:({ s with came:=[m] }:Mas).reads=0:=if_neg (by show ¬ s.does=1;omega)
    rw[hr,hr2];refine⟨this.mono (by omega),by omega,rfl,fun x hx=>by cases hx⟩
   ·rename_i hc
    obtain⟨c1,c2⟩:=came_kind h m hc
    have hb:MsgWF n E (better Msg.vote s.came m)∧(better Msg.vote s.came m).kind=10:=by
     rcases better_or Msg.vote s.came m with e|e
     ·rw[e];exact⟨c1,by rw[c2,q];rfl⟩
     ·rw[e];exact⟨hm,by rw[f2,q];rfl⟩
    generalize better Msg.vote s.came m=B at *
    split
    ·rename_i hv
     have hmm:=hb.1.has (.inr (.inr (.inr (.inr ⟨hb.2,hv⟩))))
     obtain⟨r1,r2⟩:=onward_wf (n:=n) (E:=E) (own:=m.dst) (s:={ s with mems:=B.mems,log:=B.log }) h.begun h6 h.epoch h.ballot (.inr hmm) hb.1.log hn hE ho hw (h.old (by omega)) (fun _=>hmm)
     have hr2:(({ s with mems:=B.mems,log:=B.log }:Mas).onward m.dst).1.reads=0:=by
      unfold Mas.reads Mas.onward;simp[q]
     rw[hr,hr2];exact⟨r1.mono (by omega),by omega,rfl,fun x hx=>(r2 x hx).mono (by omega)⟩
    ·obtain⟨r1,r2⟩:=onward_wf (n:=n) (E:=E) (own:=m.dst) (s:={ s with mems:=s.want }) h.begun h6 h.epoch h.ballot (.inr hw) h.log hn hE ho hw (h.old (by omega)) (fun _=>hw)
     have hr2:(({ s with mems:=s.want }:Mas).onward m.dst).1.reads=0:=by
      unfold Mas.reads Mas.onward;simp[q]
     rw[hr,hr2];exact⟨r1.mono (by omega),by omega,rfl,fun x hx=>(r2 x hx).mono (by omega)⟩
  ·rename_i q
   have hr:s.reads=0:=if_neg (by omega)
   split
   ·rename_i hc
    have:=wait_wf h hm hf ⟨fun e=>by omega,fun _=>hc,by omega⟩
    have hr2:({ s with came:=s.came++[m] }:Mas).reads=0:=if_neg (by show ¬ s.does=1;omega)
    rw[hr,hr2];refine⟨this.mono (by omega),by omega,rfl,fun x hx=>by cases hx⟩
   ·obtain⟨r1,r2⟩:=onward_wf (own:=m.dst) h.begun h6 h.epoch h.ballot h.memsO h.log hn hE ho hw (h.old (by omega)) (fun _=>h.mems (by omega))
    have hr2:(s.onward m.dst).1.reads=0:=by unfold Mas.reads Mas.onward;simp[q]
    rw[hr,hr2];exact⟨r1.mono (by omega),by omega,rfl,fun x hx=>(r2 x hx).mono (by omega)⟩
  ·rename_i q1 q2 q3 q5
   have:s.does≠1:=fun e=>q1 e
   have:s.does≠2:=fun e=>q2 e
   have:s.does≠3:=fun e=>q3 e
   have:s.does≠5:=fun e=>q5 e
   have hr:s.reads=0:=if_neg (by omega)
   split
   ·rename_i hc
    have:=wait_wf h hm hf ⟨fun _=>hc,fun e=>by omega,by omega⟩
    rw[hc] at this
    have hr2:({ s with came:=[m] }:Mas).reads=0:=if_neg (by show ¬ s.does=1;omega)
    rw[hr,hr2];refine⟨this.mono (by omega),by omega,rfl,fun x hx=>by cases hx⟩
   ·obtain⟨r1,r2⟩:=onward_wf (own:=m.dst) h.begun h6 h.epoch h.ballot h.memsO h.log hn hE ho hw (h.old (by omega)) (fun _=>h.mems (by omega))
    have hr2:(s.onward m.dst).1.reads=0:=by
     unfold Mas.reads Mas.onward
     by_cases e:s.does=6
     ·simp[e]
     ·simp only [if_neg e]
      exact if_neg (by omega)
    rw[hr,hr2];exact⟨r1.mono (by omega),by omega,rfl,fun x hx=>(r2 x hx).mono (by omega)⟩
 ·unfold Mas.take
  rw[if_neg hf];show MasWF n (E+s.reads-s.reads) s∧s.reads≤s.reads∧s.begun=s.begun∧_
  exact⟨h.mono (by omega),by omega,rfl,fun x hx=>by cases hx⟩
theorem masStill_wf (up:Bool){b:Nat}(hb:b≤1000)(hE:0≤E):MasWF n E (Mas.still up b) :=
 {begun:=hb,does:=Nat.zero_le _,epoch:=⟨Int.le_refl _,hE⟩,ballot:=⟨Int.le_refl _,by show (0:Int)≤2001;omega⟩,want:=fun q=>absurd rfl q,old:=fun q=>absurd q (by show ¬ 2≤0;decide),mems:=fun q=>absurd q (by show ¬ 4≤0;decide)
  memsO:=.inl rfl,log:=entsOk_nil,came:=fun x hx=>(by cases hx),nodup:=List.Pairwise.nil,few:=⟨fun _=>Nat.zero_le _,fun q=>absurd q (by show ¬ 0=5;decide),fun _=>rfl⟩ }
end
end Go.Proofs.YtgieeeeeiggoeaaGreat
namespace Go.Proofs.YtgieeeeeiggoeaaGreat
structure PMas where
 begun:Nat
 doing:Int
 waits:List Int
 epoch:Int
 old:List Int
 vote:Int
 mems:List Int
 log:List Ent
def PMas.ballot (p:PMas)(own:Int):Int:=2*(p.begun:Int)+own-200
def PMas.question (p:PMas)(own:Int):Msg :=
 if p.doing=1 then { kind:=5,src:=0,dst:=0,ballot:=p.ballot own }
 else if p.doing=2 then { kind:=7,src:=0,dst:=0,epoch:=p.epoch,ballot:=p.ballot own }
 else if p.doing=3 then { kind:=9,src:=0,dst:=0,epoch:=p.epoch,ballot:=p.ballot own }
 else if p.doing=4 then { kind:=11,src:=0,dst:=0,epoch:=p.epoch,ballot:=p.ballot own,mems:=p.mems,log:=p.log }
 else if p.doing=5 then { kind:=13,src:=0,dst:=0,epoch:=p.epoch,mems:=p.mems,log:=p.log }
 else { kind:=15,src:=0,dst:=0,epoch:=p.epoch,mems:=p.mems }
def PMas.askOf (p:PMas)(own dd:Int):Msg:={ p.question own with src:=own,dst:=dd }
def PMas.asks (p:PMas)(own:Int):List Msg:=p.waits.map (p.askOf own)
def PMas.turnTo (p:PMas)(own d:Int)(l:List Int):PMas × List Msg:=({ p with doing:=d,waits:=l }, { p with doing:=d,waits:=l }.asks own)
def PMas.idle (p:PMas):PMas:={ begun:=p.begun,doing:=0,waits:=[],epoch:=0,old:=[],vote:=0,mems:=[],log:=[] }
def PMas.enough (p:PMas):Bool:=if p.doing=2 then true else if p.doing=5 then decide ((p.waits.length:Int)=0) else decide ((p.waits.length:Int)≤1)
def PMas.isAnswer (p:PMas)(own:Int)(m:Msg):Bool :=
 if p.doing=1 then (m.kind == 6) && (m.ballot == p.ballot own)
 else if p.doing=2 then ((m.kind == 8) && (m.epoch == p.epoch)) && (m.ballot == p.ballot own)
 else if p.doing=3 then ((m.kind == 10) && (m.epoch == p.epoch)) && (m.ballot == p.ballot own)
 else if p.doing=4 then ((m.kind == 12) && (m.epoch == p.epoch)) && (m.ballot == p.ballot own)
 else if p.doing=5 then (m.kind == 14) && (m.epoch == p.epoch)
 else if p.doing=6 then (m.kind == 16) && (m.epoch == p.epoch)
 else false
def PMas.learnRegister (p:PMas)(m:Msg):PMas:=if p.epoch<m.epoch+1 then { p with epoch:=m.epoch+1,old:=m.mems } else p
def PMas.learnVote (p:PMas)(m:Msg):PMas:=if p.vote<m.vote then { p with vote:=m.vote,mems:=m.mems,log:=m.log } else p
def PMas.learn (p:PMas)(m:Msg):PMas :=
 if p.doing=1 then p.learnRegister m else if p.doing=2 then { p with log:=m.log } else if p.doing=3 then p.learnVote m else p
def PMas.goOn (p:PMas)(own:Int):PMas × List Msg :=
 if p.doing=1 then { p with old:=[] }.turnTo own 2 p.old
 else if p.doing=2 then p.turnTo own 3 [100,101,102]
 else if p.doing=3 then p.turnTo own 4 [100,101,102]
 else if p.doing=4 then p.turnTo own 5 p.mems
 else if p.doing=5 then p.turnTo own 6 [100,101,102]
 else (p.idle,[])
def PMas.less (p:PMas)(x:Int):PMas:={ p with waits:=p.waits.eraseIdx (p.waits.idxOf x) }
def PMas.take (p:PMas)(own:Int)(m:Msg):PMas × List Msg :=
 if m.src∈p.waits∧p.isAnswer own m=true then
  if ((p.less m.src).learn m).enough=true then ((p.less m.src).learn m).goOn own else ((p.less m.src).learn m,[])
 else (p,[])
structure MRel (own:Int)(s:Mas)(p:PMas):Prop where
 begun:p.begun=s.begun
 doing:p.doing=(s.does:Int)
 ballot:s.does≠0→p.ballot own=s.ballot
 waits:p.waits=s.all.filter (fun x => !s.cameFrom x)
 count:p.waits.length+s.came.length=s.all.length
 one:s.does=1→(s.came=[]→p.epoch=0∧p.old=[])∧∀ m r,s.came=m :: r→p.epoch=m.epoch+1∧p.old=m.mems
 epoch:2≤s.does→p.epoch=s.epoch
 vote:s.does=1∨s.does=2→p.vote = -1∧p.mems=s.want
 three:s.does=3→((s.came=[]∨∃ m r,s.came=m :: r∧m.vote ≤ -1)→p.vote = -1∧p.mems=s.want∧p.log=s.log)∧∀ m r,s.came=m :: r → -1<m.vote→p.vote=m.vote∧p.mems=m.mems∧p.log=m.log
 last:4≤s.does→p.mems=s.mems∧p.log=s.log
 old5:p.old.length≤5
 mems5:p.mems.length≤5
 log24:p.log.length≤24
theorem nodup_acc : ([100,101,102]:List Int).Nodup:=by decide
theorem all_nodup {n:Nat}{E:Int}{s:Mas}(h:MasWF n E s):s.all.Nodup:=by
 unfold Mas.all
 split
 ·exact List.nodup_nil
 ·exact ((memsOk_iff _ _).1 (h.old (by omega))).2.1
 ·exact ((memsOk_iff _ _).1 (h.mems (by omega))).2.1
 ·exact nodup_acc
theorem all_len {n:Nat}{E:Int}{s:Mas}(h:MasWF n E s)(hn:n≤5):s.all.length≤5:=by
 unfold Mas.all
 split
 ·simp
 ·have:=memsOk_length (h.old (by omega));omega
 ·have:=memsOk_length (h.mems (by omega));omega
 ·simp
theorem MRel.askOf {own:Int}{s:Mas}{p:PMas}(h:MRel own s p)(h0:s.does≠0)(h6:s.does≤6)(x:Int):p.askOf own x=s.ask own x:=by
 have hb:=h.ballot h0
 have hd:=h.doing
 rcases (by omega:s.does=1∨s.does=2∨s.does=3∨s.does=4∨s.does=5∨s.does=6) with e|e|e|e|e|e
 all_goals rw[e] at hd
 all_goals simp[PMas.askOf,PMas.question,hd,Mas.ask,e,hb]
 ·exact h.epoch (by omega)
 ·exact h.epoch (by omega)
 ·exact⟨h.epoch (by omega),h.last (by omega)⟩
 ·exact⟨h.epoch (by omega),h.last (by omega)⟩
 ·exact⟨h.epoch (by omega),(h.last (by omega)).1⟩
theorem MRel.asks {own:Int}{s:Mas}{p:PMas}(h:MRel own s p)(h6:s.does≤6):p.asks own=s.asks own:=by
 unfold PMas.asks Mas.asks
 rw[h.waits];by_cases h0:s.does=0
 ·unfold Mas.all
  rw[h0];rfl
 ·exact List.map_congr_left fun x _=>h.askOf h0 h6 x
theorem MRel.fits {own:Int}{s:Mas}{p:PMas}(h:MRel own s p)(h6:s.does≤6)(m:Msg):(m.src∈p.waits∧p.isAnswer own m=true)↔s.fits m=true:=by
 have hd:=h.doing
 rw[h.waits,List.mem_filter];unfold Mas.fits
 rcases (by omega:s.does=0∨s.does=1∨s.does=2∨s.does=3∨s.does=4∨s.does=5∨s.does=6) with e|e|e|e|e|e|e
 all_goals rw[e] at hd
 ·simp[PMas.isAnswer,hd,e]
 all_goals have hb:=h.ballot (by omega)
 ·simp[PMas.isAnswer,hd,e,hb]
  constructor
  ·rintro⟨⟨a,b⟩,c,d⟩;exact⟨⟨⟨c,d⟩,a⟩,b⟩
  ·rintro⟨⟨⟨c,d⟩,a⟩,b⟩;exact⟨⟨a,b⟩,c,d⟩
 all_goals have he:=h.epoch (by omega)
 all_goals simp[PMas.isAnswer,hd,e,hb,he]
 all_goals constructor
 ·rintro⟨⟨a,b⟩,⟨c,d⟩,f⟩;exact⟨⟨⟨⟨c,d⟩,f⟩,a⟩,b⟩
 ·rintro⟨⟨⟨⟨c,d⟩,f⟩,a⟩,b⟩;exact⟨⟨a,b⟩,⟨c,d⟩,f⟩
 ·rintro⟨⟨a,b⟩,⟨c,d⟩,f⟩;exact⟨⟨⟨⟨c,d⟩,f⟩,a⟩,b⟩
 ·rintro⟨⟨⟨⟨c,d⟩,f⟩,a⟩,b⟩;exact⟨⟨a,b⟩,⟨c,d⟩,f⟩
 ·rintro⟨⟨a,b⟩,⟨c,d⟩,f⟩;exact⟨⟨⟨⟨c,d⟩,f⟩,a⟩,b⟩
 ·rintro⟨⟨⟨⟨c,d⟩,f⟩,a⟩,b⟩;exact⟨⟨a,b⟩,⟨c,d⟩,f⟩
 ·rintro⟨⟨a,b⟩,c,d⟩;exact⟨⟨⟨c,d⟩,a⟩,b⟩
 ·rintro⟨⟨⟨c,d⟩,a⟩,b⟩;exact⟨⟨a,b⟩,c,d⟩
 ·rintro⟨⟨a,b⟩,c,d⟩;exact⟨⟨⟨c,d⟩,a⟩,b⟩
 ·rintro⟨⟨⟨c,d⟩,a⟩,b⟩;exact⟨⟨a,b⟩,c,d⟩
theorem filter_none (l:List Int)(c:List Msg)(hc:c=[]):l.filter (fun x => !(c.any (fun m=>decide (m.src=x))))=l:=by
 subst hc;simp
theorem MRel.less {own:Int}{n:Nat}{E:Int}{s:Mas}{p:PMas}(h:MRel own s p)(hw:MasWF n E s)(m:Msg)(hin:m.src∈p.waits) :
  (p.less m.src).waits=s.all.filter (fun x => !((s.came++[m]).any (fun m=>decide (m.src=x))))∧(p.less m.src).waits.length+(s.came++[m]).length=s.all.length:=by
 have hnd:p.waits.Nodup:=by rw[h.waits];exact (all_nodup hw).filter _
 have e1:(p.less m.src).waits=p.waits.erase m.src:=by
  unfold PMas.less
  exact (List.erase_eq_eraseIdx_of_idxOf rfl).symm
 have hc:=h.count
 refine⟨?_, ?_⟩
 ·rw[e1,hnd.erase_eq_filter,h.waits,List.filter_filter]
  refine List.filter_congr fun x _ => ?_
  unfold Mas.cameFrom
  rw[List.any_append];simp
  cases h1:(s.came.any fun m=>decide (m.src=x))<;>by_cases h2:x=m.src
  ·simp[h2]
  ·have:¬ m.src=x:=fun e=>h2 e.symm
   simp[h2,this]
  ·simp[h2]
  ·simp
 ·rw[e1,List.length_erase_of_mem hin]
  have:0<p.waits.length:=List.length_pos_of_mem hin
  simp
  omega
theorem MRel.turn {own:Int}(d:Nat)(hd:2≤d∧d≤6)(s':Mas)(p':PMas)(hs:s'.does=d)(hc:s'.came=[])(hb:p'.begun=s'.begun)(hba:p'.ballot own=s'.ballot)(he:p'.epoch=s'.epoch)
  (hv:d=2∨d=3→p'.vote = -1∧p'.mems=s'.want) (h3:d=3→p'.log=s'.log) (h4:4≤d→p'.mems=s'.mems∧p'.log=s'.log) (ho:p'.old.length≤5) (hm:p'.mems.length≤5) (hl:p'.log.length≤24) :
  MRel own s' (p'.turnTo own d s'.all).1∧(p'.turnTo own d s'.all).2=s'.asks own:=by
 have key:MRel own s' (p'.turnTo own d s'.all).1:=by
  unfold PMas.turnTo
  refine⟨hb,by simp[hs],fun _=>hba, ?_,by simp[hc],fun e=>by omega,fun _=>he,fun e=>hv (by omega),fun e=>⟨fun _=>⟨(hv (by omega)).1,(hv (by omega)).2,h3 (by omega)⟩,fun m r e2=>by rw[hc] at e2;cases e2⟩,fun e=>h4 (by omega),ho,hm,hl⟩
  unfold Mas.cameFrom
  rw[filter_none _ _ hc]
 exact⟨key,key.asks (by omega)⟩
theorem better_one (f:Msg→Int)(m0 m:Msg):better f [m0] m=if f m0<f m then m else m0:=rfl
theorem take_1 {s:Mas}{m:Msg}(hf:s.fits m=true)(e:s.does=1):s.take m=if s.came=[] then ({ s with came:=[m] },[]) else { s with epoch:=(better Msg.epoch s.came m).epoch+1,old:=(better Msg.epoch s.came m).mems }.onward m.dst:=by
 unfold Mas.take
 rw[if_pos hf];split<;>first|rfl|(exfalso;omega)|(exfalso;simp_all)|contradiction
theorem take_2 {s:Mas}{m:Msg}(hf:s.fits m=true)(e:s.does=2):s.take m={ s with log:=m.log }.onward m.dst:=by
 unfold Mas.take
 rw[if_pos hf];split<;>first|rfl|(exfalso;omega)|(exfalso;simp_all)|contradiction
theorem take_3 {s:Mas}{m:Msg}(hf:s.fits m=true)(e:s.does=3):s.take m=if s.came=[] then ({ s with came:=[m] },[]) else
    if 0≤(better Msg.vote s.came m).vote then { s with mems:=(better Msg.vote s.came m).mems,log:=(better Msg.vote s.came m).log }.onward m.dst
    else { s with mems:=s.want }.onward m.dst:=by
 unfold Mas.take
 rw[if_pos hf];split<;>first|rfl|(exfalso;omega)|(exfalso;simp_all)|contradiction
theorem take_4 {s:Mas}{m:Msg}(hf:s.fits m=true)(e:s.does=4∨s.does=6):s.take m=if s.came=[] then ({ s with came:=[m] },[]) else s.onward m.dst:=by
 unfold Mas.take
 rw[if_pos hf];split<;>first|rfl|(exfalso;omega)
theorem take_5 {s:Mas}{m:Msg}(hf:s.fits m=true)(e:s.does=5):s.take m=if s.came.length+1<s.mems.length then ({ s with came:=s.came++[m] },[]) else s.onward m.dst:=by
 unfold Mas.take
 rw[if_pos hf];split<;>first|rfl|(exfalso;omega)|(exfalso;simp_all)|contradiction
theorem all_acc {s:Mas}(e:s.does=1∨s.does=3∨s.does=4∨s.does=6):s.all=[100,101,102]:=by
 unfold Mas.all
 split
 ·omega
 ·omega
 ·omega
 ·rfl
theorem MRel.take {own:Int}{n:Nat}{E:Int}{s:Mas}{p:PMas}{m:Msg}(h:MRel own s p)(hw:MasWF n E s)(hn:n≤5)(hm:MsgWF n E m)(hd:m.dst=own):MRel own (s.take m).1 (p.take own m).1∧(p.take own m).2=(s.take m).2:=by
 subst hd;unfold PMas.take
 by_cases hf:s.fits m=true
 ·have hf':=(h.fits hw.does m).2 hf
  rw[if_pos hf'];obtain⟨hl1,hl2⟩:=h.less hw m hf'.1
  have hdo:=h.doing
  have hkind:m.kind=4+2*(s.does:Int):=by
   unfold Mas.fits at hf
   simp only [Bool.and_eq_true,decide_eq_true_eq] at hf
   exact hf.1.1.1.1.2
  have hne:s.does≠0:=by
   unfold Mas.fits at hf
   simp only [Bool.and_eq_true,decide_eq_true_eq] at hf
   exact hf.1.1.1.1.1
  have hmm5:m.mems.length≤5:=by
   rcases hm.mems with e|e
   ·simp[e]
   ·have:=memsOk_length e;omega
  have hb:=h.ballot hne
  generalize hq:p.less m.src=q at *
  have qb:q.begun=p.begun:=by rw[← hq];rfl
  have qd:q.doing=p.doing:=by rw[← hq];rfl
  have qba:q.ballot m.dst=p.ballot m.dst:=by rw[← hq];rfl
  have qe:q.epoch=p.epoch:=by rw[← hq];rfl
  have qo:q.old=p.old:=by rw[← hq];rfl
  have qv:q.vote=p.vote:=by rw[← hq];rfl
  have qm:q.mems=p.mems:=by rw[← hq];rfl
  have ql:q.log=p.log:=by rw[← hq];rfl
  rcases (by have:=hw.does;omega:s.does=1∨s.does=2∨s.does=3∨s.does=4∨s.does=5∨s.does=6) with e|e|e|e|e|e
  ·-- reads
   have hall:s.all=[100,101,102]:=all_acc (by omega)
   have hv:=h.vote (.inl e)
   have h1:=h.one e
   have q1:q.doing=1:=by rw[qd,hdo,e];rfl
   have hen:(q.learn m).enough=decide ((q.waits.length:Int)≤1):=by
    unfold PMas.learn PMas.learnRegister
    rw[if_pos q1];split<;>simp[PMas.enough,q1]
   have hle:q.learn m=q.learnRegister m:=by unfold PMas.learn;rw[if_pos q1]
   rw[take_1 hf e];rw[hen,hle];rw[hall] at hl2
   cases hcame:s.came with
   | nil =>
    rw[hcame] at hl2
    simp at hl2
    have:¬ (q.waits.length:Int)≤1:=by omega
    have hno:¬ decide ((q.waits.length:Int)≤1)=true:=by simpa using this
    rw[if_neg hno,if_pos rfl];refine⟨?_,rfl⟩
    obtain⟨g1,g2⟩:=h1.1 hcame
    have hlr:q.learnRegister m={ q with epoch:=m.epoch+1,old:=m.mems }:=by
     unfold PMas.learnRegister
     rw[if_pos (by rw[qe,g1];have:=hm.epoch;omega)]
    rw[hlr];refine⟨qb.trans h.begun,by simp[qd,hdo],fun _=>qba.trans hb, ?_, ?_,fun _=>⟨fun e2=>(by simp at e2),fun m' r e2=>by simp at e2;simp[e2.1]⟩,fun e2=>by simp at e2;omega,fun _=>⟨qv.trans hv.1,qm.trans hv.2⟩,fun e2=>by simp at e2;omega,fun e2=>by simp at e2;omega,hmm5,by simp;rw[qm];exact h.mems5,by simp;rw[ql];exact h.log24⟩
    ·rw[hl1,hcame]
     rfl
    ·have:({ s with came:=[m] }:Mas).all=s.all:=rfl
     simp[this,hall,hl2]
   | cons m0 r0 =>
    have hr0:r0=[]:=by
     have:=hw.few.1 (by omega)
     rw[hcame] at this
     simp at this
     exact this
    subst hr0;rw[hcame] at hl2
    simp at hl2
    have:(q.waits.length:Int)≤1:=by omega
    have hyes:decide ((q.waits.length:Int)≤1)=true:=by simpa using this
    rw[if_pos hyes,if_neg (List.cons_ne_nil _ _)]
    obtain⟨g1,g2⟩:=h1.2 _ _ hcame
    have hlr:(q.learnRegister m).epoch=(better Msg.epoch [m0] m).epoch+1∧(q.learnRegister m).old=(better Msg.epoch [m0] m).mems∧(q.learnRegister m).begun=q.begun∧(q.learnRegister m).vote=q.vote∧(q.learnRegister m).mems=q.mems∧(q.learnRegister m).log=q.log∧(q.learnRegister m).doing=1:=by
     unfold PMas.learnRegister
     rw[better_one];rw[qe,g1];by_cases hlt:m0.epoch<m.epoch
     ·rw[if_pos (by omega),if_pos hlt]
      exact⟨rfl,rfl,rfl,rfl,rfl,rfl,q1⟩
     ·rw[if_neg (by omega),if_neg hlt]
      exact⟨qe.trans g1,qo.trans g2,rfl,rfl,rfl,rfl,q1⟩
    obtain⟨k1,k2,k3,k4,k5,k6,k7⟩:=hlr;have hgo:(q.learnRegister m).goOn m.dst=({ q.learnRegister m with old:=[] }:PMas).turnTo m.dst 2 (q.learnRegister m).old:=by unfold PMas.goOn;rw[if_pos k7]
    rw[hgo,k2];have hon:({ s with epoch:=(better Msg.epoch [m0] m).epoch+1,old:=(better Msg.epoch [m0] m).mems,came:=[m0] }:Mas).onward m.dst=({ s with epoch:=(better Msg.epoch [m0] m).epoch+1,old:=(better Msg.epoch [m0] m).mems,does:=2,came:=[] },({ s with epoch:=(better Msg.epoch [m0] m).epoch+1,old:=(better Msg.epoch [m0] m).mems,does:=2,came:=[] }:Mas).asks m.dst):=by
     unfold Mas.onward
     simp[e]
    rw[hon];have hol:(better Msg.epoch [m0] m).mems.length≤5:=by
     rw[better_one];split
     ·exact hmm5
     ·have hm0:=(hw.came m0 (by rw[hcame];simp)).1
      rcases hm0.mems with e2|e2
      ·simp[e2]
      ·have:=memsOk_length e2;simp;omega
    exact MRel.turn 2 (by omega) _ _ rfl rfl (k3.trans (qb.trans h.begun)) (by show PMas.ballot _ _=_;unfold PMas.ballot;simp only;rw[k3];rw[← hb, ← qba];rfl) k1 (fun _=>⟨k4.trans (qv.trans hv.1),k5.trans (qm.trans hv.2)⟩) (fun e2=>by omega) (fun e2=>by omega) (by simp) (by show (q.learnRegister m).mems.length≤5;rw[k5,qm];exact h.mems5) (by show (q.learnRegister m).log.length≤24;rw[k6,ql];exact h.log24)
  ·-- seals
   have hv:=h.vote (.inr e)
   have q1:q.doing=2:=by rw[qd,hdo,e];rfl
   have hle:q.learn m={ q with log:=m.log }:=by unfold PMas.learn;rw[if_neg (by rw[q1];decide),if_pos q1]
   rw[take_2 hf e];rw[hle];have hen:({ q with log:=m.log }:PMas).enough=true:=by unfold PMas.enough;rw[if_pos q1]
   rw[if_pos hen];have hgo:({ q with log:=m.log }:PMas).goOn m.dst=({ q with log:=m.log }:PMas).turnTo m.dst 3 [100,101,102]:=by unfold PMas.goOn;rw[if_neg (by rw[q1];decide),if_pos q1]
   have hon:({ s with log:=m.log }:Mas).onward m.dst=({ s with log:=m.log,does:=3,came:=[] },({ s with log:=m.log,does:=3,came:=[] }:Mas).asks m.dst):=by
    unfold Mas.onward
    simp[e]
   rw[hgo,hon];exact MRel.turn 3 (by omega) { s with log:=m.log,does:=3,came:=[] } { q with log:=m.log } rfl rfl (qb.trans h.begun) (qba.trans hb) (qe.trans (h.epoch (by omega))) (fun _=>⟨qv.trans hv.1,qm.trans hv.2⟩) (fun _=>rfl) (fun e2=>by omega) (by simp;rw[qo];exact h.old5) (by simp;rw[qm];exact h.mems5) hm.log.1
  ·-- prepares
   have hall:s.all=[100,101,102]:=all_acc (by omega)
   have h3:=h.three e
   have q1:q.doing=3:=by rw[qd,hdo,e];rfl
   have hen:(q.learn m).enough=decide ((q.waits.length:Int)≤1):=by
    unfold PMas.learn PMas.learnVote
    rw[if_neg (by rw[q1];decide),if_neg (by rw[q1];decide),if_pos q1]
    split<;>simp[PMas.enough,q1]
   have hle:q.learn m=q.learnVote m:=by unfold PMas.learn;rw[if_neg (by rw[q1];decide),if_neg (by rw[q1];decide),if_pos q1]
   rw[take_3 hf e];rw[hen,hle];rw[hall] at hl2
   cases hcame:s.came with
   | nil =>
    rw[hcame] at hl2
    simp at hl2
    have:¬ (q.waits.length:Int)≤1:=by omega
    have hno:¬ decide ((q.waits.length:Int)≤1)=true:=by simpa using this
    rw[if_neg hno,if_pos rfl];refine⟨?_,rfl⟩
    obtain⟨g1,g2,g3⟩:=h3.1 (.inl hcame)
    have hwait:q.waits=({ s with came:=[m] }:Mas).all.filter (fun x => !({ s with came:=[m] }:Mas).cameFrom x):=by
     rw[hl1,hcame];rfl
    have hcnt:q.waits.length+1=({ s with came:=[m] }:Mas).all.length:=by
     have:({ s with came:=[m] }:Mas).all=s.all:=rfl
     simp[this,hall,hl2]
    by_cases hvt : -1<m.vote
    ·have hlr:q.learnVote m={ q with vote:=m.vote,mems:=m.mems,log:=m.log }:=by
      unfold PMas.learnVote
      rw[if_pos (by rw[qv,g1];exact hvt)]
     rw[hlr];refine⟨qb.trans h.begun,by simp[qd,hdo],fun _=>qba.trans hb,hwait,hcnt,fun e2=>by simp at e2;omega,fun _=>qe.trans (h.epoch (by omega)),fun e2=>by simp at e2;omega,fun _=>⟨fun e2 => ?_,fun m' r e2 _ => ?_⟩,fun e2=>by simp at e2;omega,by simp;rw[qo];exact h.old5,hmm5,hm.log.1⟩
     ·rcases e2 with e2|⟨m',r,e2,e3⟩
      ·cases e2
      ·cases e2;omega
     ·cases e2;exact⟨rfl,rfl,rfl⟩
    ·have hlr:q.learnVote m=q:=by
      unfold PMas.learnVote
      rw[if_neg (by rw[qv,g1];exact hvt)]
     rw[hlr];refine⟨qb.trans h.begun,by simp[qd,hdo],fun _=>qba.trans hb,hwait,hcnt,fun e2=>by simp at e2;omega,fun _=>qe.trans (h.epoch (by omega)),fun e2=>by simp at e2;omega,fun _=>⟨fun e2=>⟨qv.trans g1,qm.trans g2,ql.trans g3⟩,fun m' r e2 e3 => ?_⟩,fun e2=>by simp at e2;omega,by rw[qo];exact h.old5,by rw[qm];exact h.mems5,by rw[ql];exact h.log24⟩
     cases e2
     omega
   | cons m0 r0 =>
    have hr0:r0=[]:=by
     have:=hw.few.1 (by omega)
     rw[hcame] at this
     simp at this
     exact this
    subst hr0;rw[hcame] at hl2
    simp at hl2
    have:(q.waits.length:Int)≤1:=by omega
    have hyes:decide ((q.waits.length:Int)≤1)=true:=by simpa using this
    rw[if_pos hyes,if_neg (List.cons_ne_nil _ _)]
    have hm0:=(hw.came m0 (by rw[hcame];simp)).1
    have k7:(q.learnVote m).doing=3:=by unfold PMas.learnVote;split<;>exact q1
    have kb:(q.learnVote m).begun=q.begun:=by unfold PMas.learnVote;split<;>rfl
    have ke:(q.learnVote m).epoch=q.epoch:=by unfold PMas.learnVote;split<;>rfl
    have ko:(q.learnVote m).old=q.old:=by unfold PMas.learnVote;split<;>rfl
    have hgo:(q.learnVote m).goOn m.dst=(q.learnVote m).turnTo m.dst 4 [100,101,102]:=by unfold PMas.goOn;rw[if_neg (by rw[k7];decide),if_neg (by rw[k7];decide),if_pos k7]
    have hm5':(q.learnVote m).mems.length≤5:=by
     unfold PMas.learnVote
     split
     ·exact hmm5
     ·rw[qm];exact h.mems5
    have hl24':(q.learnVote m).log.length≤24:=by
     unfold PMas.learnVote
     split
     ·exact hm.log.1
     ·rw[ql];exact h.log24
    have kbal:(q.learnVote m).ballot m.dst=s.ballot:=by rw[← hb, ← qba];unfold PMas.ballot;rw[kb]
    rw[hgo];by_cases hbv:0≤(better Msg.vote [m0] m).vote
    ·have hval:(q.learnVote m).mems=(better Msg.vote [m0] m).mems∧(q.learnVote m).log=(better Msg.vote [m0] m).log:=by
      rw[better_one] at hbv ⊢
      unfold PMas.learnVote
      by_cases hlt:m0.vote<m.vote
      ·rw[if_pos hlt] at hbv ⊢
       have:q.vote<m.vote:=by
        rw[qv];by_cases h00 : -1<m0.vote
        ·rw[(h3.2 _ _ hcame h00).1];exact hlt
        ·rw[(h3.1 (.inr ⟨_,_,hcame,by omega⟩)).1];omega
       rw[if_pos this];exact⟨rfl,rfl⟩
      ·rw[if_neg hlt] at hbv ⊢
       obtain⟨z1,z2,z3⟩:=h3.2 _ _ hcame (by omega)
       rw[if_neg (by rw[qv,z1];exact hlt)]
       exact⟨qm.trans z2,ql.trans z3⟩
     rw[if_pos hbv];have hon:({ s with mems:=(better Msg.vote [m0] m).mems,log:=(better Msg.vote [m0] m).log,came:=[m0] }:Mas).onward m.dst=({ s with mems:=(better Msg.vote [m0] m).mems,log:=(better Msg.vote [m0] m).log,does:=4,came:=[] },({ s with mems:=(better Msg.vote [m0] m).mems,log:=(better Msg.vote [m0] m).log,does:=4,came:=[] }:Mas).asks m.dst):=by
      unfold Mas.onward
      simp[e]
     rw[hon];exact MRel.turn 4 (by omega) { s with mems:=(better Msg.vote [m0] m).mems,log:=(better Msg.vote [m0] m).log,does:=4,came:=[] } (q.learnVote m) rfl rfl (kb.trans (qb.trans h.begun)) kbal (ke.trans (qe.trans (h.epoch (by omega)))) (fun e2=>by omega) (fun e2=>by omega) (fun _=>hval) (by rw[ko,qo];exact h.old5) hm5' hl24'
    ·have hval:(q.learnVote m).mems=s.want∧(q.learnVote m).log=s.log:=by
      rw[better_one] at hbv
      have h00:m0.vote ≤ -1∧m.vote ≤ -1:=by
       split at hbv<;>omega
      obtain⟨z1,z2,z3⟩:=h3.1 (.inr ⟨_,_,hcame,h00.1⟩)
      unfold PMas.learnVote
      rw[if_neg (by rw[qv,z1];omega)]
      exact⟨qm.trans z2,ql.trans z3⟩
     rw[if_neg hbv];have hon:({ s with mems:=s.want,came:=[m0] }:Mas).onward m.dst=({ s with mems:=s.want,does:=4,came:=[] },({ s with mems:=s.want,does:=4,came:=[] }:Mas).asks m.dst):=by
      unfold Mas.onward
      simp[e]
     rw[hon];exact MRel.turn 4 (by omega) { s with mems:=s.want,does:=4,came:=[] } (q.learnVote m) rfl rfl (kb.trans (qb.trans h.begun)) kbal (ke.trans (qe.trans (h.epoch (by omega)))) (fun e2=>by omega) (fun e2=>by omega) (fun _=>hval) (by rw[ko,qo];exact h.old5) hm5' hl24'
  ·-- asks for votes
   have hall:s.all=[100,101,102]:=all_acc (by omega)
   have q1:q.doing=4:=by rw[qd,hdo,e];rfl
   have h4:=h.last (by omega)
   have hle:q.learn m=q:=by unfold PMas.learn;rw[if_neg (by rw[q1];decide),if_neg (by rw[q1];decide),if_neg (by rw[q1];decide)]
   have hen:q.enough=decide ((q.waits.length:Int)≤1):=by unfold PMas.enough;rw[if_neg (by rw[q1];decide),if_neg (by rw[q1];decide)]
   rw[take_4 hf (.inl e)]
   rw[hle,hen];rw[hall] at hl2
   cases hcame:s.came with
   | nil =>
    rw[hcame] at hl2
    simp at hl2
    have:¬ (q.waits.length:Int)≤1:=by omega
    have hno:¬ decide ((q.waits.length:Int)≤1)=true:=by simpa using this
    rw[if_neg hno,if_pos rfl];refine⟨⟨qb.trans h.begun,by simp[qd,hdo],fun _=>qba.trans hb,by rw[hl1,hcame];rfl, ?_,fun e2=>by simp at e2;omega,fun _=>qe.trans (h.epoch (by omega)),fun e2=>by simp at e2;omega,fun e2=>by simp at e2;omega,fun _=>⟨qm.trans h4.1,ql.trans h4.2⟩,by rw[qo];exact h.old5,by rw[qm];exact h.mems5,by rw[ql];exact h.log24⟩,rfl⟩
    have:({ s with came:=[m] }:Mas).all=s.all:=rfl
    simp[this,hall,hl2]
   | cons m0 r0 =>
    rw[hcame] at hl2
    simp at hl2
    have:(q.waits.length:Int)≤1:=by omega
    have hyes:decide ((q.waits.length:Int)≤1)=true:=by simpa using this
    rw[if_pos hyes,if_neg (List.cons_ne_nil _ _)]
    have hgo:q.goOn m.dst=q.turnTo m.dst 5 q.mems:=by unfold PMas.goOn;rw[if_neg (by rw[q1];decide),if_neg (by rw[q1];decide),if_neg (by rw[q1];decide),if_pos q1]
    have hon:s.onward m.dst=({ s with does:=5,came:=[] },({ s with does:=5,came:=[] }:Mas).asks m.dst):=by
     unfold Mas.onward
     simp[e]
    rw[hgo,hon,qm,h4.1];exact MRel.turn 5 (by omega) { s with does:=5,came:=[] } q rfl rfl (qb.trans h.begun) (qba.trans hb) (qe.trans (h.epoch (by omega))) (fun e2=>by omega) (fun e2=>by omega) (fun _=>⟨qm.trans h4.1,ql.trans h4.2⟩) (by rw[qo];exact h.old5) (by rw[qm];exact h.mems5) (by rw[ql];exact h.log24)
  ·-- installs
   have hall:s.all=s.mems:=by unfold Mas.all;split<;>first|rfl|(exfalso;omega)|(exfalso;simp_all)
   have q1:q.doing=5:=by rw[qd,hdo,e];rfl
   have h4:=h.last (by omega)
   have hle:q.learn m=q:=by unfold PMas.learn;rw[if_neg (by rw[q1];decide),if_neg (by rw[q1];decide),if_neg (by rw[q1];decide)]
   have hen:q.enough=decide ((q.waits.length:Int)=0):=by unfold PMas.enough;rw[if_neg (by rw[q1];decide),if_pos q1]
   rw[take_5 hf e];rw[hle,hen];rw[hall] at hl2
   simp at hl2
   by_cases hlt:s.came.length+1<s.mems.length
   ·have hno:¬ decide ((q.waits.length:Int)=0)=true:=by simp only [decide_eq_true_eq];omega
    rw[if_neg hno,if_pos hlt];refine⟨⟨qb.trans h.begun,by simp[qd,hdo],fun _=>qba.trans hb,by rw[hl1];rfl, ?_,fun e2=>by simp at e2;omega,fun _=>qe.trans (h.epoch (by omega)),fun e2=>by simp at e2;omega,fun e2=>by simp at e2;omega,fun _=>⟨qm.trans h4.1,ql.trans h4.2⟩,by rw[qo];exact h.old5,by rw[qm];exact h.mems5,by rw[ql];exact h.log24⟩,rfl⟩
    have:({ s with came:=s.came++[m] }:Mas).all=s.all:=rfl
    simp[this,hall,hl2]
   ·have hyes:decide ((q.waits.length:Int)=0)=true:=by simp only [decide_eq_true_eq];have:=hw.few.2.1 e;omega
    rw[if_pos hyes,if_neg hlt];have hgo:q.goOn m.dst=q.turnTo m.dst 6 [100,101,102]:=by unfold PMas.goOn;rw[if_neg (by rw[q1];decide),if_neg (by rw[q1];decide),if_neg (by rw[q1];decide),if_neg (by rw[q1];decide),if_pos q1]
    have hon:s.onward m.dst=({ s with does:=6,came:=[] },({ s with does:=6,came:=[] }:Mas).asks m.dst):=by
     unfold Mas.onward
     simp[e]
    rw[hgo,hon];exact MRel.turn 6 (by omega) { s with does:=6,came:=[] } q rfl rfl (qb.trans h.begun) (qba.trans hb) (qe.trans (h.epoch (by omega))) (fun e2=>by omega) (fun e2=>by omega) (fun _=>⟨qm.trans h4.1,ql.trans h4.2⟩) (by rw[qo];exact h.old5) (by rw[qm];exact h.mems5) (by rw[ql];exact h.log24)
  ·-- writes
   have hall:s.all=[100,101,102]:=all_acc (by omega)
   have q1:q.doing=6:=by rw[qd,hdo,e];rfl
   have h4:=h.last (by omega)
   have hle:q.learn m=q:=by unfold PMas.learn;rw[if_neg (by rw[q1];decide),if_neg (by rw[q1];decide),if_neg (by rw[q1];decide)]
   have hen:q.enough=decide ((q.waits.length:Int)≤1):=by unfold PMas.enough;rw[if_neg (by rw[q1];decide),if_neg (by rw[q1];decide)]
   rw[take_4 hf (.inr e)]
   rw[hle,hen];rw[hall] at hl2
   cases hcame:s.came with
   | nil =>
    rw[hcame] at hl2
    simp at hl2
    have:¬ (q.waits.length:Int)≤1:=by omega
    have hno:¬ decide ((q.waits.length:Int)≤1)=true:=by simpa using this
    rw[if_neg hno,if_pos rfl];refine⟨⟨qb.trans h.begun,by simp[qd,hdo],fun _=>qba.trans hb,by rw[hl1,hcame];rfl, ?_,fun e2=>by simp at e2;omega,fun _=>qe.trans (h.epoch (by omega)),fun e2=>by simp at e2;omega,fun e2=>by simp at e2;omega,fun _=>⟨qm.trans h4.1,ql.trans h4.2⟩,by rw[qo];exact h.old5,by rw[qm];exact h.mems5,by rw[ql];exact h.log24⟩,rfl⟩
    have:({ s with came:=[m] }:Mas).all=s.all:=rfl
    simp[this,hall,hl2]
   | cons m0 r0 =>
    rw[hcame] at hl2
    simp at hl2
    have:(q.waits.length:Int)≤1:=by omega
    have hyes:decide ((q.waits.length:Int)≤1)=true:=by simpa using this
    rw[if_pos hyes,if_neg (List.cons_ne_nil _ _)]
    have hgo:q.goOn m.dst=(q.idle,[]):=by unfold PMas.goOn;rw[if_neg (by rw[q1];decide),if_neg (by rw[q1];decide),if_neg (by rw[q1];decide),if_neg (by rw[q1];decide),if_neg (by rw[q1];decide)]
    have hon:s.onward m.dst=({ s with does:=0,came:=[] },[]):=by
     unfold Mas.onward
     simp[e]
     rfl
    rw[hgo,hon];exact⟨⟨qb.trans h.begun,rfl,fun e2=>absurd rfl e2,rfl,rfl,fun e2=>by simp at e2,fun e2=>by simp at e2,fun e2=>by simp at e2,fun e2=>by simp at e2,fun e2=>by simp at e2,by simp[PMas.idle],by simp[PMas.idle],by simp[PMas.idle]⟩,rfl⟩
 ·have hf':¬ (m.src∈p.waits∧p.isAnswer m.dst m=true):=fun e=>hf ((h.fits hw.does m).1 e)
  have:s.take m=(s,[]):=by unfold Mas.take;rw[if_neg hf]
  rw[if_neg hf',this];exact⟨h,rfl⟩
theorem MRel.still (own:Int)(up:Bool)(s:Mas)(p:PMas)(h:p.begun=s.begun):MRel own (Mas.still up s.begun) p.idle :=
 ⟨h,rfl,fun e=>absurd rfl e,rfl,rfl,fun e=>by simp[Mas.still] at e,fun e=>by simp[Mas.still] at e,fun e=>by simp[Mas.still] at e,fun e=>by simp[Mas.still] at e,fun e=>by simp[Mas.still] at e,by simp[PMas.idle],by simp[PMas.idle],by simp[PMas.idle]⟩
end Go.Proofs.YtgieeeeeiggoeaaGreat
