import Derived.Test.YtgieeeeeiggoeaaGreatC01
namespace Go.Proofs.YtgieeeeeiggoeaaGreat
structure Msg where
 kind:Int
 src:Int
 dst:Int
 epoch:Int:=0
 ballot:Int:=0
 vote:Int:=0
 pos:Int:=0
 value:Int:=0
 mems:List Int:=[]
 log:List Ent:=[]
 deriving DecidableEq
def Msg.head (m:Msg):List Int:=[m.src,m.dst,m.epoch,m.ballot,m.vote,m.pos,m.value]
def Msg.ok (m:Msg):Bool:=msgOk m.kind m.head m.mems m.log
def Msg.frame (m:Msg):List UInt8:=Proofs.YtgieeeeeiggoeaaGreat.frame m.kind m.head m.mems m.log
def msgOf (L:List UInt8):Option Msg :=
 if (decOf L).err=0 then
  some ⟨(decOf L).k,(decOf L).f,(decOf L).t,(decOf L).ep,(decOf L).ba,(decOf L).vo,(decOf L).po,(decOf L).va,(decOf L).ms,(decOf L).es⟩
 else none
theorem msgOf_frame (m:Msg)(h:m.ok=true):msgOf m.frame=some m:=by
 obtain⟨k,f,t,ep,ba,vo,po,va,ms,es⟩:=m;have:=decOf_frame k f t ep ba vo po va ms es h
 unfold msgOf Msg.frame Msg.head
 simp only
 rw[this];rfl
def Ent.ok (e:Ent):Bool :=
 decide (0≤e.client) && decide (e.client≤3) && decide (0≤e.seq) && decide (e.seq≤999) && decide (0≤e.key) && decide (e.key≤15)
  && decide (0≤e.value) && decide (e.value≤999) && (decide (e.kind=1) || (decide (e.kind=2) && decide (e.value=0)))
def lastPut (key:Int)(l:List Ent):Int:=l.foldl (fun v e=>if e.kind=1∧e.key=key then e.value else v) (-1)
def answerAt (log:List Ent)(p:Nat):Int:=lastPut (log.getD p Ent.zero).key (log.take p)
def nextOf (l:List Int)(x:Int):Option Int:=l[l.idxOf x+1]?
def prevOf (l:List Int)(x:Int):Option Int:=if l.idxOf x=0 then none else if l.idxOf x<l.length then l[l.idxOf x-1]? else none
structure Rep where
 up:Bool
 epoch:Int
 lock:Int
 mems:List Int
 log:List Ent
 base:Nat
 commit:Nat
 deriving DecidableEq
def Rep.live (r:Rep)(own:Int):Bool:=decide (own∈r.mems) && decide (r.lock≤r.epoch)
def Rep.forward (r:Rep)(own nx:Int)(p:Nat):Msg :=
 {kind:=2,src:=own,dst:=nx,epoch:=r.epoch,pos:=p,log:=[r.log.getD p Ent.zero] }
def Rep.reply (r:Rep)(own:Int)(p:Nat):Msg :=
 {kind:=4,src:=own,dst:=300+(r.log.getD p Ent.zero).client,pos:=(r.log.getD p Ent.zero).seq,value:=answerAt r.log p }
def Rep.acks (r:Rep)(own:Int):List Msg :=
 match prevOf r.mems own with
 | none=>[]
 | some a=>[{ kind:=3,src:=own,dst:=a,epoch:=r.epoch,pos:=r.commit }]
def placesFrom (p n:Nat):List Nat:=(List.range (n-p)).map (p + ·)
def Rep.commitAll (r:Rep)(own:Int):Rep × List Msg :=
 ({ r with commit:=r.log.length },(placesFrom r.commit r.log.length).map (r.reply own)++{ r with commit:=r.log.length }.acks own)
def Rep.put (r:Rep)(own:Int)(e:Ent):Rep × List Msg :=
 match nextOf r.mems own with
 | some nx=>({ r with log:=r.log++[e] },[{ r with log:=r.log++[e] }.forward own nx r.log.length])
 | none=>{ r with log:=r.log++[e] }.commitAll own
def isReq (e x:Ent):Bool:=decide (x.client=e.client) && decide (x.seq=e.seq)
def isLater (e x:Ent):Bool:=decide (x.client=e.client) && decide (e.seq<x.seq)
def Rep.asked (r:Rep)(own:Int)(e:Ent):Rep × List Msg :=
 if (r.mems.headD 0)≠own then (r,[{ kind:=1,src:=own,dst:=r.mems.headD 0,log:=[e] }])
 else if r.log.any (isReq e) then
  if r.log.findIdx (isReq e)<r.commit then (r,[r.reply own (r.log.findIdx (isReq e))]) else (r,[])
 else if 24≤r.log.length∨r.log.any (isLater e) then (r,[])
 else r.put own e
def Rep.takeForward (r:Rep)(own:Int)(m:Msg):Rep × List Msg :=
 if r.live own∧prevOf r.mems own=some m.src∧m.log.length=1∧m.epoch=r.epoch then
  if m.pos=r.log.length∧r.log.length<24 then r.put own (m.log.headD Ent.zero)
  else if m.pos<r.log.length∧(nextOf r.mems own=none∨m.pos<r.commit) then (r,r.acks own)
  else (r,[])
 else (r,[])
def Rep.takeAck (r:Rep)(own:Int)(m:Msg):Rep × List Msg :=
 if r.live own∧nextOf r.mems own=some m.src∧m.epoch=r.epoch∧(r.commit:Int)<m.pos∧m.pos≤r.log.length then
  ({ r with commit:=m.pos.toNat }, { r with commit:=m.pos.toNat }.acks own)
 else (r,[])
def Rep.takeSeal (r:Rep)(own:Int)(m:Msg):Rep × List Msg :=
 if r.epoch+1<m.epoch then (r,[])
 else ({ r with lock:=if m.epoch=r.epoch+1 then m.epoch else r.lock },
  [{ kind:=8,src:=own,dst:=m.src,epoch:=m.epoch,ballot:=m.ballot,log:=r.log }])
def Rep.takeInstall (r:Rep)(own:Int)(m:Msg):Rep × List Msg :=
 (if r.epoch<m.epoch then { r with epoch:=m.epoch,mems:=m.mems,log:=m.log,base:=m.log.length,commit:=m.log.length } else r,
  [{ kind:=14,src:=own,dst:=m.src,epoch:=m.epoch }])
def Rep.take (r:Rep)(own:Int)(m:Msg):Rep × List Msg :=
 if m.kind=1 then (if m.log.length=1∧r.live own then r.asked own (m.log.headD Ent.zero) else (r,[]))
 else if m.kind=2 then r.takeForward own m
 else if m.kind=3 then r.takeAck own m
 else if m.kind=7 then r.takeSeal own m
 else if m.kind=13 then r.takeInstall own m
 else (r,[])
def Rep.tick (r:Rep)(own:Int):List Msg :=
 if r.live own then
  match nextOf r.mems own with
  | none=>r.acks own
  | some nx=>(placesFrom r.commit r.log.length).map (r.forward own nx)
 else []
def Rep.crash (r:Rep):Rep:={ r with up:=false,commit:=r.base }
def Rep.restart (r:Rep)(own:Int):Rep :=
 {r with up:=true,commit:=if r.live own∧nextOf r.mems own=none then r.log.length else r.base }
structure AVote where
 promise:Int
 ballot:Int
 mems:List Int
 log:List Ent
 deriving DecidableEq
def AVote.none : AVote:=⟨-1, -1,[],[]⟩
structure Acc where
 up:Bool
 epoch:Int
 mems:List Int
 votes:Int→AVote
def upd (f:Int→AVote)(e:Int)(v:AVote):Int→AVote:=fun x=>if x=e then v else f x
def Acc.take (a:Acc)(m:Msg):Acc × List Msg :=
 if m.kind=5 then (a,[{ kind:=6,src:=m.dst,dst:=m.src,epoch:=a.epoch,ballot:=m.ballot,mems:=a.mems }])
 else if m.kind=9 then
  if m.ballot<(a.votes m.epoch).promise then (a,[])
  else ({ a with votes:=upd a.votes m.epoch { a.votes m.epoch with promise:=m.ballot } },
   [{ kind:=10,src:=m.dst,dst:=m.src,epoch:=m.epoch,ballot:=m.ballot,vote:=(a.votes m.epoch).ballot,mems:=(a.votes m.epoch).mems,log:=(a.votes m.epoch).log }])
 else if m.kind=11 then
  if m.ballot<(a.votes m.epoch).promise then (a,[])
  else ({ a with votes:=upd a.votes m.epoch ⟨m.ballot,m.ballot,m.mems,m.log⟩ },
   [{ kind:=12,src:=m.dst,dst:=m.src,epoch:=m.epoch,ballot:=m.ballot }])
 else if m.kind=15 then
  (if a.epoch<m.epoch then { a with epoch:=m.epoch,mems:=m.mems } else a,[{ kind:=16,src:=m.dst,dst:=m.src,epoch:=m.epoch }])
 else (a,[])
structure Mas where
 up:Bool
 begun:Nat
 does:Nat
 epoch:Int
 ballot:Int
 want:List Int
 old:List Int
 mems:List Int
 log:List Ent
 came:List Msg
 deriving DecidableEq
def Mas.all (s:Mas):List Int :=
 match s.does with
 | 0=>[]
 | 2=>s.old
 | 5=>s.mems
 | _=>[100,101,102]
def Mas.ask (s:Mas)(own to:Int):Msg :=
 match s.does with
 | 1=>{ kind:=5,src:=own,dst:=to,ballot:=s.ballot }
 | 2=>{ kind:=7,src:=own,dst:=to,epoch:=s.epoch,ballot:=s.ballot }
 | 3=>{ kind:=9,src:=own,dst:=to,epoch:=s.epoch,ballot:=s.ballot }
 | 4=>{ kind:=11,src:=own,dst:=to,epoch:=s.epoch,ballot:=s.ballot,mems:=s.mems,log:=s.log }
 | 5=>{ kind:=13,src:=own,dst:=to,epoch:=s.epoch,mems:=s.mems,log:=s.log }
 | _=>{ kind:=15,src:=own,dst:=to,epoch:=s.epoch,mems:=s.mems }
def Mas.cameFrom (s:Mas)(x:Int):Bool:=s.came.any (fun m=>decide (m.src=x))
def Mas.asks (s:Mas)(own:Int):List Msg:=(s.all.filter (fun x => !s.cameFrom x)).map (s.ask own)
def Mas.fits (s:Mas)(m:Msg):Bool :=
 decide (s.does≠0) && decide (m.kind=4+2*(s.does:Int)) && (decide (s.does=1) || decide (m.epoch=s.epoch)) && (decide (5≤s.does) || decide (m.ballot=s.ballot))
  && decide (m.src∈s.all) && !s.cameFrom m.src
def better (f:Msg→Int)(c:List Msg)(d:Msg):Msg:=if f (c.headD d)<f d then d else c.headD d
def Mas.onward (s:Mas)(own:Int):Mas × List Msg :=
 ({ s with does:=if s.does=6 then 0 else s.does+1,came:=[] }, { s with does:=if s.does=6 then 0 else s.does+1,came:=[] }.asks own)
def Mas.take (s:Mas)(m:Msg):Mas × List Msg :=
 if s.fits m then
  match s.does with
  | 1=>if s.came=[] then ({ s with came:=[m] },[]) else
    {s with epoch:=(better Msg.epoch s.came m).epoch+1,old:=(better Msg.epoch s.came m).mems }.onward m.dst
  | 2=>{ s with log:=m.log }.onward m.dst
  | 3=>if s.came=[] then ({ s with came:=[m] },[]) else
    if 0≤(better Msg.vote s.came m).vote then { s with mems:=(better Msg.vote s.came m).mems,log:=(better Msg.vote s.came m).log }.onward m.dst
    else { s with mems:=s.want }.onward m.dst
  | 5=>if s.came.length+1<s.mems.length then ({ s with came:=s.came++[m] },[]) else s.onward m.dst
  | _=>if s.came=[] then ({ s with came:=[m] },[]) else s.onward m.dst
 else (s,[])
def Mas.still (up:Bool)(begun:Nat):Mas :=
 {up:=up,begun:=begun,does:=0,epoch:=0,ballot:=0,want:=[],old:=[],mems:=[],log:=[],came:=[] }
structure Ans where
 client:Int
 seq:Int
 value:Int
 deriving DecidableEq
structure Clu where
 reps:List Rep
 accs:List Acc
 mass:List Mas
 bag:List (List UInt8 × Bool)
 told:List Ans
def firstInts (n:Nat):List Int:=(List.range n).map Int.ofNat
def Rep.first (n:Nat):Rep:={ up:=true,epoch:=0,lock:=0,mems:=firstInts n,log:=[],base:=0,commit:=0 }
def Acc.first (n:Nat):Acc:={ up:=true,epoch:=0,mems:=firstInts n,votes:=fun _=>AVote.none }
def Clu.first (n:Nat):Clu :=
 {reps:=List.replicate n (Rep.first n),accs:=List.replicate 3 (Acc.first n),mass:=List.replicate 2 (Mas.still true 0),bag:=[],told:=[] }
def Clu.isRep (c:Clu)(d:Int):Prop:=0≤d∧d<c.reps.length
def isAcc (d:Int):Prop:=100≤d∧d<103
def isMas (d:Int):Prop:=200≤d∧d<202
instance (c:Clu) (d:Int):Decidable (c.isRep d):=inferInstanceAs (Decidable (_∧_))
instance (d:Int):Decidable (isAcc d):=inferInstanceAs (Decidable (_∧_))
instance (d:Int):Decidable (isMas d):=inferInstanceAs (Decidable (_∧_))
def Clu.rep (c:Clu)(d:Int):Rep:=c.reps.getD d.toNat (Rep.first 0)
def Clu.acc (c:Clu)(d:Int):Acc:=c.accs.getD (d-100).toNat (Acc.first 0)
def Clu.mas (c:Clu)(d:Int):Mas:=c.mass.getD (d-200).toNat (Mas.still true 0)
def Clu.setRep (c:Clu)(d:Int)(r:Rep):Clu:={ c with reps:=c.reps.set d.toNat r }
def Clu.setAcc (c:Clu)(d:Int)(a:Acc):Clu:={ c with accs:=c.accs.set (d-100).toNat a }
def Clu.setMas (c:Clu)(d:Int)(s:Mas):Clu:={ c with mass:=c.mass.set (d-200).toNat s }
def Clu.upOf (c:Clu)(d:Int):Option Bool :=
 if c.isRep d then some (c.rep d).up else if isAcc d then some (c.acc d).up else if isMas d then some (c.mas d).up else none
def Clu.send (c:Clu)(ms:List Msg):Clu:={ c with bag:=(c.bag++ms.map (fun m=>(m.frame,false))).take 200 }
def Clu.tell (c:Clu)(m:Msg):Clu :=
 if m.kind=4∧300≤m.dst∧m.dst≤303 then { c with told:=c.told++[⟨m.dst-300,m.pos,m.value⟩] } else c
def Clu.takes (c:Clu)(m:Msg):Clu × List Msg :=
 if c.upOf m.dst=some true then
  if c.isRep m.dst then (c.setRep m.dst ((c.rep m.dst).take m.dst m).1,((c.rep m.dst).take m.dst m).2)
  else if isAcc m.dst then (c.setAcc m.dst ((c.acc m.dst).take m).1,((c.acc m.dst).take m).2)
  else (c.setMas m.dst ((c.mas m.dst).take m).1,((c.mas m.dst).take m).2)
 else (c,[])
def Clu.ticks (c:Clu)(d:Int):List Msg :=
 if c.isRep d then (c.rep d).tick d else if isMas d then (c.mas d).asks d else []
def Clu.arrive (c:Clu)(m:Msg):Clu:=((c.tell m).takes m).1.send ((c.tell m).takes m).2
def Clu.ask (c:Clu)(d:Int)(e:Ent):Clu × Int :=
 if ¬ c.isRep d then (c,4) else if e.ok=false then (c,6)
 else (c.send [{ kind:=1,src:=300+e.client,dst:=d,log:=[e] }],0)
def memsOk (l:List Int)(n:Nat):Bool:=l.all (fun x=>decide (0≤x) && decide (x<n)) && decide l.Nodup && !l.isEmpty
def Clu.tick (c:Clu)(d:Int):Clu × Int :=
 match c.upOf d with
 | none=>(c,4)
 | some false=>(c,5)
 | some true=>(c.send (c.ticks d),0)
def Clu.hasFrame (c:Clu)(i:Int):Prop:=0≤i∧i<c.bag.length
instance (c:Clu) (i:Int):Decidable (c.hasFrame i):=inferInstanceAs (Decidable (_∧_))
def Clu.frameAt (c:Clu)(i:Int):List UInt8 × Bool:=c.bag.getD i.toNat ([],false)
def Clu.gone (c:Clu)(i:Int):Clu:={ c with bag:=c.bag.eraseIdx i.toNat }
def Clu.deliver (c:Clu)(i:Int):Clu × Int :=
 if c.hasFrame i then
  match msgOf (c.frameAt i).1 with
  | none=>(c.gone i,0)
  | some m=>((c.gone i).arrive m,0)
 else (c,8)
def Clu.drop (c:Clu)(i:Int):Clu × Int:=if c.hasFrame i then (c.gone i,0) else (c,8)
def Clu.double (c:Clu)(i:Int):Clu × Int :=
 if c.hasFrame i then ({ c with bag:=(c.bag++[c.frameAt i]).take 200 },0) else (c,8)
def Clu.crash (c:Clu)(d:Int):Clu × Int :=
 match c.upOf d with
 | none=>(c,4)
 | some false=>(c,5)
 | some true =>
  if c.isRep d then (c.setRep d (c.rep d).crash,0)
  else if isAcc d then (c.setAcc d { c.acc d with up:=false },0)
  else (c.setMas d (Mas.still false (c.mas d).begun),0)
def Clu.restart (c:Clu)(d:Int):Clu × Int :=
 match c.upOf d with
 | none=>(c,4)
 | some true=>(c,5)
 | some false =>
  if c.isRep d then (c.setRep d ((c.rep d).restart d),0)
  else if isAcc d then (c.setAcc d { c.acc d with up:=true },0)
  else (c.setMas d (Mas.still true (c.mas d).begun),0)
def pickI (c n:Int):Int:=(if c<0 then -(c+1) else c) % n
structure St where
 R:Int→Rep
 A:Int→Acc
 S:Int→Mas
structure Gh where
 n:Nat
 asked:Ent→Prop
 prop:Int→Int→Option (List Int × List Ent)
 voted:Int→Int→Int→Prop
 promR:Int→Int→Int→Int→Prop
 prepd:Int→Int→Prop
 hist:Int→Int→Option (List Ent)
 seen:Nat
def Gh.cfg (g:Gh)(E:Int)(v:List Int × List Ent):Prop :=
 (E=0∧v=(firstInts g.n,[]))∨(1≤E∧∃ b a1 a2,a1≠a2∧g.voted a1 E b∧g.voted a2 E b∧g.prop E b=some v)
def Gh.H (g:Gh)(i e:Int)(l0:List Ent):List Ent:=(g.hist i e).getD l0
def Gh.com (g:Gh)(e:Int)(c:List Ent):Prop:=∃ mems l0,g.cfg e (mems,l0)∧c=g.H (mems.getLastD 0) e l0
def St.frozen (s:St)(i e:Int):Prop:=e<(s.R i).epoch∨(e=(s.R i).epoch∧e<(s.R i).lock)
def fresh (g:Gh)(s:St)(E:Int)(log:List Ent):Prop :=
 ∃ r mems l0,g.cfg (E-1) (mems,l0)∧r∈mems∧s.frozen r (E-1)∧g.hist r (E-1)=some log
def onceL (l:List Ent):Prop:=l.Pairwise (fun x y=>¬ (x.client=y.client∧x.seq=y.seq))
structure MsgInv (g:Gh)(s:St)(m:Msg):Prop where
 req:m.kind=1→∃ e,m.log=[e]∧g.asked e
 fwd:m.kind=2→∃ l x,∃ p:Nat,g.hist m.src m.epoch=some l∧m.pos=p∧l[p]?=some x∧m.log=[x]
 ack:m.kind=3→∃ c,g.com m.epoch c∧m.pos≤c.length
 rep:m.kind=4→∃ e c x,∃ p:Nat,g.com e c∧c[p]?=some x∧m.dst=300+x.client∧m.pos=x.seq∧m.value=answerAt c p∧p<g.seen
 reg:m.kind=6→∃ l0,g.cfg m.epoch (m.mems,l0)
 sea:m.kind=7→1≤m.epoch
 sed:m.kind=8→(s.frozen m.src (m.epoch-1)∧g.hist m.src (m.epoch-1)=some m.log)∨∃ v,g.cfg m.epoch v
 pre:m.kind=9→g.prepd m.epoch m.ballot
 pro:m.kind=10→g.promR m.src m.epoch m.ballot m.vote∧(0≤m.vote→g.prop m.epoch m.vote=some (m.mems,m.log))
 acc:m.kind=11→g.prop m.epoch m.ballot=some (m.mems,m.log)
 acd:m.kind=12→g.voted m.src m.epoch m.ballot
 ins:m.kind=13→g.cfg m.epoch (m.mems,m.log)∧m.dst∈m.mems
 wri:m.kind=15→∃ l0,g.cfg m.epoch (m.mems,l0)
def settledBy (g:Gh)(s:St)(E b:Int):Prop :=
 ∃ a1 a2,a1≠a2∧isAcc a1∧isAcc a2∧0≤((s.A a1).votes E).ballot∧0≤((s.A a2).votes E).ballot∧(∀ v,g.promR a1 E b v→0≤v)∧(∀ v,g.promR a2 E b v→0≤v)
def came (s:St)(b E:Int)(d:Nat):Prop :=
 ∃ k,isMas k∧(∃ g:Nat,b=2*(g:Int)+(k-200)∧1≤g∧g≤(s.S k).begun)∧((s.S k).does≠0→(s.S k).ballot=b→d≤(s.S k).does∧(s.S k).epoch=E)
structure MasInv (g:Gh)(s:St)(k:Int):Prop where
 does:(s.S k).does≤6
 bal:(s.S k).does≠0→(s.S k).ballot=2*((s.S k).begun:Int)+(k-200)∧1≤(s.S k).begun
 want:(s.S k).does≠0→memsOk (s.S k).want g.n=true
 cameI:∀ m∈(s.S k).came,MsgInv g s m∧m.kind=4+2*((s.S k).does:Int)∧m.src∈(s.S k).all∧((s.S k).does≠1→m.epoch=(s.S k).epoch)∧((s.S k).does<5→m.ballot=(s.S k).ballot)
 old:2≤(s.S k).does→1≤(s.S k).epoch∧∃ l0,g.cfg ((s.S k).epoch-1) ((s.S k).old,l0)
 prep:3≤(s.S k).does→g.prepd (s.S k).epoch (s.S k).ballot
 logs:(s.S k).does=3→fresh g s (s.S k).epoch (s.S k).log∨settledBy g s (s.S k).epoch (s.S k).ballot
 prop:4≤(s.S k).does→g.prop (s.S k).epoch (s.S k).ballot=some ((s.S k).mems,(s.S k).log)
 cfg:5≤(s.S k).does→g.cfg (s.S k).epoch ((s.S k).mems,(s.S k).log)
structure Inv (g:Gh)(s:St):Prop where
 npos:1≤g.n
 voteAcc:∀ {a E b},g.voted a E b→isAcc a∧1≤E∧(∃ v,g.prop E b=some v)∧b≤((s.A a).votes E).ballot
 votes:∀ {a},isAcc a→∀ E,((s.A a).votes E).ballot≤((s.A a).votes E).promise ∧
  (0≤((s.A a).votes E).ballot→g.voted a E ((s.A a).votes E).ballot∧g.prop E ((s.A a).votes E).ballot=some (((s.A a).votes E).mems,((s.A a).votes E).log))
 prom:∀ {a E b v},g.promR a E b v→isAcc a∧g.prepd E b∧b≤((s.A a).votes E).promise∧v≤b∧(0≤v→g.voted a E v)∧(∀ b',g.voted a E b'→b'<b→b'≤v)
 prepd:∀ {E b},g.prepd E b→1≤E∧came s b E 3
 propd:∀ {E b},(g.prop E b).isSome=true→came s b E 4
 prop:∀ {E b val},g.prop E b=some val→0≤b∧1≤E∧memsOk val.1 g.n=true∧fresh g s E val.2 ∧
  ∃ a1 a2 v1 v2,a1≠a2∧g.promR a1 E b v1∧g.promR a2 E b v2∧v1<b∧v2<b∧(0≤v1∨0≤v2→g.prop E (max v1 v2)=some val)
 mas:∀ {k},isMas k→MasInv g s k
 reg:∀ {a},isAcc a→∃ l0,g.cfg (s.A a).epoch ((s.A a).mems,l0)
 rep:∀ {i:Int},0≤i→i<g.n→g.hist i (s.R i).epoch=some (s.R i).log∧(s.R i).lock≤(s.R i).epoch+1∧(s.R i).commit≤g.seen ∧
  ∃ l0,g.cfg (s.R i).epoch ((s.R i).mems,l0)∧(s.R i).base=l0.length∧∃ c,g.com (s.R i).epoch c∧(s.R i).commit≤c.length
 hist:∀ {i e l},g.hist i e=some l→0≤i∧i<g.n∧e≤(s.R i).epoch∧(∃ mems l0,g.cfg e (mems,l0)∧i∈mems∧l0 <+: l)∧onceL l∧(∀ x∈l,g.asked x)∧l.length≤24
 chain:∀ {e mems l0},g.cfg e (mems,l0)→∀ {a:Nat} {x y},mems[a]?=some x→mems[a+1]?=some y→g.H y e l0 <+: g.H x e l0
theorem quorum {a1 a2 a3 a4:Int}(h1:isAcc a1)(h2:isAcc a2)(h3:isAcc a3)(h4:isAcc a4)(h12:a1≠a2)(h34:a3≠a4):a1=a3∨a1=a4∨a2=a3∨a2=a4:=by
 unfold isAcc at *;omega
structure Pax (g:Gh):Prop where
 acc:∀ {a E b},g.voted a E b→isAcc a
 prom:∀ {a E b v},g.promR a E b v→isAcc a∧∀ b',g.voted a E b'→b'<b→b'≤v
 prop:∀ {E b val},g.prop E b=some val→0≤b∧∃ a1 a2 v1 v2,a1≠a2∧g.promR a1 E b v1∧g.promR a2 E b v2∧v1<b∧v2<b∧(0≤v1∨0≤v2→g.prop E (max v1 v2)=some val)
theorem Pax.later {g:Gh}(h:Pax g){E b:Int}{val:List Int × List Ent}{a1 a2:Int}(h12:a1≠a2)(hv1:g.voted a1 E b)(hv2:g.voted a2 E b)(hp:g.prop E b=some val) :
  ∀ (d:Nat) (b':Int) (val':List Int × List Ent),b≤b'→b'≤b+d→g.prop E b'=some val'→val'=val:=by
 intro d;induction d with
 | zero =>
  intro b' val' h1 h2 h3;have:b'=b:=by omega
  subst this;rw[hp] at h3;injection h3 with h3;exact h3.symm
 | succ d ih =>
  intro b' val' h1 h2 h3;by_cases hb:b'=b
  ·subst hb;rw[hp] at h3;injection h3 with h3;exact h3.symm
  ·obtain⟨_,a3,a4,v3,v4,h34,q3,q4,l3,l4,hmax⟩:=h.prop h3
   have k1:=h.acc hv1
   have k2:=h.acc hv2
   have k3:=h.prom q3
   have k4:=h.prom q4
   have hb0:=(h.prop hp).1
   have key:b≤v3∨b≤v4:=by
    rcases quorum k1 k2 k3.1 k4.1 h12 h34 with e|e|e|e
    ·left;exact k3.2 b (e ▸ hv1) (by omega)
    ·right;exact k4.2 b (e ▸ hv1) (by omega)
    ·left;exact k3.2 b (e ▸ hv2) (by omega)
    ·right;exact k4.2 b (e ▸ hv2) (by omega)
   exact ih (max v3 v4) val' (by omega) (by omega) (hmax (by omega))
theorem Pax.cfg_one {g:Gh}(h:Pax g){E:Int}{v v':List Int × List Ent}(h1:g.cfg E v)(h2:g.cfg E v'):v=v':=by
 rcases h1 with ⟨e,rfl⟩|⟨e,b,a1,a2,n12,q1,q2,p⟩
 ·rcases h2 with ⟨_,rfl⟩|⟨e',_⟩
  ·rfl
  ·omega
 ·rcases h2 with ⟨e',_⟩|⟨_,b',a3,a4,n34,q3,q4,p'⟩
  ·omega
  ·by_cases hb:b≤b'
   ·exact (h.later n12 q1 q2 p (b'-b).toNat b' v' hb (by omega) p').symm
   ·exact h.later n34 q3 q4 p' (b-b').toNat b v (by omega) (by omega) p
theorem Inv.pax {g:Gh}{s:St}(h:Inv g s):Pax g :=
 ⟨fun x=>(h.voteAcc x).1,fun x=>⟨(h.prom x).1,(h.prom x).2.2.2.2.2⟩,fun x=>⟨(h.prop x).1,(h.prop x).2.2.2.2⟩⟩
theorem Inv.cfg_one {g:Gh}{s:St}(h:Inv g s){E:Int}{v v':List Int × List Ent}(h1:g.cfg E v)(h2:g.cfg E v'):v=v':=h.pax.cfg_one h1 h2
theorem Gh.cfg_pos {g:Gh}{E:Int}{v:List Int × List Ent}(h:g.cfg E v):0≤E:=by
 rcases h with ⟨e,_⟩|⟨e,_⟩<;>omega
theorem Inv.cfg_ahead {g:Gh}{s:St}(h:Inv g s){E:Int}{v:List Int × List Ent}(hc:g.cfg E v)(h1:1≤E):∃ v',g.cfg (E-1) v':=by
 rcases hc with ⟨e,_⟩|⟨_,b,_,_,_,_,_,p⟩
 ·omega
 ·obtain⟨_,_,_,⟨r,mems,l0,q,_⟩,_⟩:=h.prop p
  exact⟨_,q⟩
theorem Inv.cfg_down {g:Gh}{s:St}(h:Inv g s)(d:Nat):∀ {E:Int} {v:List Int × List Ent},g.cfg E v→∀ e,0≤e→e≤E→E≤e+d→∃ v',g.cfg e v':=by
 induction d with
 | zero =>
  intro E v hc e h0 h1 h2;have:e=E:=by omega
  subst this;exact⟨v,hc⟩
 | succ d ih =>
  intro E v hc e h0 h1 h2;by_cases he:e=E
  ·subst he;exact⟨v,hc⟩
  ·obtain⟨v',hc'⟩:=h.cfg_ahead hc (by omega)
   exact ih hc' e h0 (by omega) (by omega)
theorem memsOk_iff (l:List Int)(n:Nat):memsOk l n=true↔(∀ x∈l,0≤x∧x<n)∧l.Nodup∧l≠[]:=by
 unfold memsOk
 simp only [Bool.and_eq_true,List.all_eq_true,decide_eq_true_eq,Bool.not_eq_true',List.isEmpty_eq_false_iff]
 exact⟨fun ⟨⟨a,b⟩,c⟩=>⟨a,b,c⟩,fun ⟨a,b,c⟩=>⟨⟨a,b⟩,c⟩⟩
theorem nodup_at {l:List Int}(h:l.Nodup){a b:Nat}{x:Int}(ha:l[a]?=some x)(hb:l[b]?=some x):a=b:=by
 obtain⟨a1,a2⟩:=List.getElem?_eq_some_iff.1 ha
 obtain⟨b1,b2⟩:=List.getElem?_eq_some_iff.1 hb
 have hp:=List.pairwise_iff_getElem.1 h
 rcases Nat.lt_trichotomy a b with q|q|q
 ·exact absurd (a2.trans b2.symm) (hp a b a1 b1 q)
 ·exact q
 ·exact absurd (b2.trans a2.symm) (hp b a b1 a1 q)
theorem firstInts_ok (n:Nat)(h:1≤n):memsOk (firstInts n) n=true:=by
 rw[memsOk_iff];refine⟨?_, ?_, ?_⟩
 ·intro x hx
  simp only [firstInts,List.mem_map,List.mem_range] at hx
  obtain⟨i,hi,rfl⟩:=hx;exact⟨Int.natCast_nonneg i,Int.ofNat_lt.2 hi⟩
 ·unfold firstInts
  exact List.Pairwise.map _ (fun a b hab h=>hab (Int.ofNat.inj h)) List.nodup_range
 ·intro e
  have:=congrArg List.length e
  simp[firstInts] at this
  omega
theorem Inv.cfg_ok {g:Gh}{s:St}(h:Inv g s){E:Int}{v:List Int × List Ent}(hc:g.cfg E v):memsOk v.1 g.n=true:=by
 rcases hc with ⟨e,rfl⟩|⟨_,b,_,_,_,_,_,p⟩
 ·exact firstInts_ok _ h.npos
 ·exact (h.prop p).2.2.1
theorem Inv.chains {g:Gh}{s:St}(h:Inv g s){e:Int}{mems:List Int}{l0:List Ent}(hc:g.cfg e (mems,l0))(d:Nat):∀ {a:Nat} {x y:Int},mems[a]?=some x→mems[a+d]?=some y→g.H y e l0 <+: g.H x e l0:=by
 induction d with
 | zero =>
  intro a x y h1 h2;rw[Nat.add_zero,h1] at h2
  injection h2 with h2
  subst h2;exact List.prefix_refl _
 | succ d ih =>
  intro a x y h1 h2;have hlt:=(List.getElem?_eq_some_iff.1 h2).1
  have hz:mems[a+d]?=some mems[a+d]:=List.getElem?_eq_getElem (by omega)
  exact List.IsPrefix.trans (h.chain hc hz (by rw[Nat.add_assoc];exact h2)) (ih h1 hz)
theorem getLastD_at {mems:List Int}(h:mems≠[]):mems[mems.length-1]?=some (mems.getLastD 0):=by
 rw[List.getLastD_eq_getLast?,List.getLast?_eq_getElem?]
 have:0<mems.length:=List.length_pos_iff.2 h
 rw[List.getElem?_eq_getElem (by omega)]
 rfl
theorem Inv.com_in {g:Gh}{s:St}(h:Inv g s){e:Int}{mems:List Int}{l0:List Ent}(hc:g.cfg e (mems,l0)){i:Int}(hi:i∈mems):g.H (mems.getLastD 0) e l0 <+: g.H i e l0:=by
 have hne:mems≠[]:=fun e=>by rw[e] at hi;cases hi
 obtain⟨a,ha,hx⟩:=List.getElem_of_mem hi
 refine h.chains hc (mems.length-1-a) (a:=a) (List.getElem?_eq_some_iff.2 ⟨ha,hx⟩) ?_
 rw[show a+(mems.length-1-a)=mems.length-1 by omega]
 exact getLastD_at hne
theorem Inv.H_first {g:Gh}{s:St}(h:Inv g s){e:Int}{mems:List Int}{l0:List Ent}(hc:g.cfg e (mems,l0))(i:Int):l0 <+: g.H i e l0:=by
 unfold Gh.H
 cases hh:g.hist i e with
 | none=>exact List.prefix_refl _
 | some l =>
  obtain⟨_,_,_,⟨mems',l0',hc',_,hl⟩,_⟩:=h.hist hh
  have:=h.cfg_one hc hc'
  injection this with _ e2
  subst e2;exact hl
theorem Inv.com_one {g:Gh}{s:St}(h:Inv g s){e:Int}{c c':List Ent}(h1:g.com e c)(h2:g.com e c'):c=c':=by
 obtain⟨m,l,q,rfl⟩:=h1;obtain⟨m',l',q',rfl⟩:=h2;have:=h.cfg_one q q'
 injection this with e1 e2
 rw[e1,e2]
end Go.Proofs.YtgieeeeeiggoeaaGreat
