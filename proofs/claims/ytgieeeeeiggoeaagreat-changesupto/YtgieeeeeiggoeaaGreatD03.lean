import Derived.Test.YtgieeeeeiggoeaaGreatD01
namespace Go.Proofs.YtgieeeeeiggoeaaGreat
def mK (l:List aH):Prop:=l.length<=24/\∀ x∈l,x.ok=true
def uO (l:List Int)(n:Nat):Prop:=l=[]\/dq l n=true
structure cU (n:Nat)(E:Int)(m:aK):Prop where
 kind:1<=m.kind/\m.kind<=16
 src:0<=m.src/\m.src<=303
 dst:0<=m.dst/\m.dst<=303
 ah:0<=m.ah/\m.ah<=E
 ak:0<=m.ak/\m.ak<=2001
 aO : -1<=m.aO/\m.aO<=2001
 pos:0<=m.pos/\m.pos<=999
 value : -1<=m.value/\m.value<=999
 af:uO m.af n
 log:mK m.log
 has:m.kind=6\/m.kind=11\/m.kind=13\/m.kind=15\/(m.kind=10/\0<=m.aO)->dq m.af n=true
 one:m.kind=1\/m.kind=2->m.log.length=1
structure gj (n:Nat)(E:Int)(r:aR):Prop where
 ah:0<=r.ah/\r.ah<=E
 lock:0<=r.lock/\r.lock<=E
 af:dq r.af n=true
 log:mK r.log
 base:r.base<=r.log.length
 aU:r.aU<=r.log.length
 bc:r.base<=r.aU
structure yO (n:Nat)(v:fK):Prop where
 promise : -1<=v.promise/\v.promise<=2001
 ak : -1<=v.ak/\v.ak<=2001
 af:uO v.af n
 has:0<=v.ak->dq v.af n=true
 log:mK v.log
structure ns (n:Nat)(E:Int)(a:Acc):Prop where
 ah:0<=a.ah/\a.ah<=E
 af:dq a.af n=true
 aZ:∀ e,yO n (a.aZ e)
structure d_ (n:Nat)(E:Int)(s:aN):Prop where
 begun:s.begun<=1000
 does:s.does<=6
 ah:0<=s.ah/\s.ah<=E
 ak:0<=s.ak/\s.ak<=2001
 want:s.does≠0->dq s.want n=true
 old:2<=s.does->dq s.old n=true
 af:4<=s.does->dq s.af n=true
 mw:uO s.af n
 log:mK s.log
 came:∀ m∈s.came,cU n E m/\m.kind=4+2*(s.does:Int)/\m.src∈s.all
 nodup:(s.came.map aK.src).Nodup
 few:(s.does≠5->s.came.length<=1)/\(s.does=5->s.came.length<s.af.length)/\(s.does=0\/s.does=2->s.came=[])
theorem cU.mono {n:Nat}{E E':Int}{m:aK}(h:cU n E m)(hE:E<=E'):cU n E' m:={ h with ah:=⟨h.ah.1,Int.le_trans h.ah.2 hE⟩ }
theorem gj.mono {n:Nat}{E E':Int}{r:aR}(h:gj n E r)(hE:E<=E'):gj n E' r :=
 {h with ah:=⟨h.ah.1,Int.le_trans h.ah.2 hE⟩,lock:=⟨h.lock.1,Int.le_trans h.lock.2 hE⟩ }
theorem ns.mono {n:Nat}{E E':Int}{r:Acc}(h:ns n E r)(hE:E<=E'):ns n E' r:={ h with ah:=⟨h.ah.1,Int.le_trans h.ah.2 hE⟩ }
theorem d_.mono {n:Nat}{E E':Int}{r:aN}(h:d_ n E r)(hE:E<=E'):d_ n E' r :=
 {h with ah:=⟨h.ah.1,Int.le_trans h.ah.2 hE⟩,came:=fun m hm=>⟨(h.came m hm).1.mono hE,(h.came m hm).2⟩ }
theorem e_ {l:List Int}{n:Nat}(h:dq l n=true):l.length<=n:=by
 obtain⟨h1,h2,_⟩:=(j0 _ _).1 h;have hsub:l ⊆ dn n:=by
  intro x hx;obtain⟨a,b⟩:=h1 x hx;simp only [dn,List.mem_map,List.mem_range];exact⟨x.toNat,by omega,by show Int.ofNat _=_;simp;omega⟩
 have:=h2.length_le_of_subset hsub
 simpa [dn] using this
theorem L5 {x:aH}(h:x.ok=true):∀ v∈x.nums,db v=true:=by
 unfold aH.ok at h;simp only [Bool.and_eq_true,Bool.or_eq_true,jt] at h;intro v hv;simp only [aH.nums,gK,iP,or_false] at hv;rw[rJ];rcases hv with rfl|rfl|rfl|rfl|rfl<;>omega
theorem cU.ok {n:Nat}{E:Int}{m:aK}(h:cU n E m)(hn:n<=5)(hE:E<=2000):m.ok=true:=by
 unfold aK.ok;rw[qp];have hml:m.af.length<=5:=by
  rcases h.af with q|q
  ·rw[q];exact bl _
  ·have:=e_ q;omega
 refine⟨⟨h.kind.1,h.kind.2,hml,h.log.1⟩, ?_, ?_, ?_⟩
 ·rw[List.all_eq_true]
  intro x hx;have h1:=h.src;have h2:=h.dst;have h3:=h.ah;have h4:=h.ak;have h5:=h.aO;have h6:=h.pos;have h7:=h.value;simp only [aK.head,gK,iP,or_false] at hx;rw[rJ];rcases hx with rfl|rfl|rfl|rfl|rfl|rfl|rfl<;>omega
 ·rw[List.all_eq_true]
  intro x hx;rcases h.af with q|q
  ·rw[q] at hx;cases hx
  ·have:=((j0 _ _).1 q).1 x hx
   rw[rJ];omega
 ·rw[List.all_eq_true]
  intro x hx;simp only [bk,List.mem_flatMap] at hx;obtain⟨e,he,hx⟩:=hx;exact L5 (h.log.2 e he) x hx
theorem mL : mK []:=⟨bl _,fun x hx=>by cases hx⟩
theorem DP {e:aH}(h:e.ok=true):mK [e]:=⟨by simp,fun x hx=>by rw[dg] at hx;subst hx;exact h⟩
theorem Ea {l:List aH}(h:mK l){p:Nat}(hp:p<l.length):(l.getD p aH.zero).ok=true:=by
 rw[List.getD,bU hp];exact h.2 _ (List.getElem_mem hp)
theorem PJ (key:Int)(l:List aH)(h:∀ x∈l,x.ok=true)(v:Int)(hv : -1<=v/\v<=999) : -1<=l.foldl (fun v e=>if e.kind=1/\e.key=key then e.value else v) v/\l.foldl (fun v e=>if e.kind=1/\e.key=key then e.value else v) v<=999:=by
 induction l generalizing v with
 | nil=>exact hv
 | cons a t ih =>
  rw[List.foldl_cons];refine ih (fun x hx=>h x (List.mem_cons_of_mem _ hx)) _ ?_
  split
  ·have:=h a fS
   unfold aH.ok at this;simp only [Bool.and_eq_true,Bool.or_eq_true,jt] at this;omega
  ·exact hv
theorem Kf {l:List aH}(h:mK l)(p:Nat) : -1<=jj l p/\jj l p<=999 :=
 PJ _ _ (fun x hx=>h.2 x (List.mem_of_mem_take hx)) _ ⟨by decide,by decide⟩
section
variable {n:Nat} {E:Int} {own:Int}
theorem FZ {l:List Int}{x y:Int}(h:bS l x=some y):y∈l:=by
 obtain⟨a,_,h2⟩:=Rm h;exact dU h2
theorem Sh {l:List Int}{x y:Int}(h:dY l x=some y):y∈l:=by
 obtain⟨a,h2,_⟩:=Sg h;exact dU h2
theorem uN {l:List Int}(h:dq l n=true)(hn:n<=5){x:Int}(hx:x∈l):0<=x/\x<=303:=by
 have:=((j0 _ _).1 h).1 x hx;omega
theorem vX {r:aR}(h:gj n E r)(hn:n<=5)(ho:0<=own/\own<=303):∀ x∈r.c_ own,cU n E x:=by
 intro x hx;unfold aR.c_ at hx;split at hx
 ·cases hx
 ·rename_i a ha
  rw[dg] at hx;subst hx;have h1:=uN h.af hn (Sh ha);have h2:=h.aU;have h3:=h.log.1;exact⟨by show (1:Int)<=3/\(3:Int)<=16;omega,ho,h1,h.ah,by show (0:Int)<=0/\(0:Int)<=2001;omega,by show (-1:Int)<=0/\(0:Int)<=2001;omega,
   by show (0:Int)<=(r.aU:Int)/\(r.aU:Int)<=999;omega,by show (-1:Int)<=0/\(0:Int)<=999;omega,.inl rfl,mL,
   by intro q;exact absurd q (by show ¬ ((3:Int)=6\/(3:Int)=11\/(3:Int)=13\/(3:Int)=15\/((3:Int)=10/\_));omega),by intro q;exact absurd q (by show ¬ ((3:Int)=1\/(3:Int)=2);omega)⟩
theorem D3 {r:aR}(h:gj n E r)(hn:n<=5)(ho:0<=own/\own<=303){nx:Int}(hx:nx∈r.af){p:Nat}(hp:p<r.log.length):cU n E (r.forward own nx p):=by
 have h1:=uN h.af hn hx;have h3:=h.log.1;exact⟨by show (1:Int)<=2/\(2:Int)<=16;omega,ho,h1,h.ah,by show (0:Int)<=0/\(0:Int)<=2001;omega,by show (-1:Int)<=0/\(0:Int)<=2001;omega,
   by show (0:Int)<=(p:Int)/\(p:Int)<=999;omega,by show (-1:Int)<=0/\(0:Int)<=999;omega,.inl rfl,DP (Ea h.log hp),
   by intro q;exact absurd q (by show ¬ ((2:Int)=6\/(2:Int)=11\/(2:Int)=13\/(2:Int)=15\/((2:Int)=10/\_));omega),fun _=>rfl⟩
theorem DM {x:aH}(h:x.ok=true):0<=x.client/\x.client<=3/\0<=x.seq/\x.seq<=999/\0<=x.key/\x.key<=15/\0<=x.value/\x.value<=999/\(x.kind=1\/(x.kind=2/\x.value=0)):=by
 unfold aH.ok at h;simp only [Bool.and_eq_true,Bool.or_eq_true,jt] at h;omega
theorem GM {r:aR}(h:gj n E r)(hE:0<=E)(ho:0<=own/\own<=303){p:Nat}(hp:p<r.log.length):cU n E (r.dm own p):=by
 have h1:=DM (Ea h.log hp);have h2:=Kf h.log p;exact⟨by show (1:Int)<=4/\(4:Int)<=16;omega,ho,by show (0:Int)<=300+(r.log.getD p aH.zero).client/\300+(r.log.getD p aH.zero).client<=303;omega,by show (0:Int)<=0/\(0:Int)<=E;omega,by show (0:Int)<=0/\(0:Int)<=2001;omega,by show (-1:Int)<=0/\(0:Int)<=2001;omega,
   by show (0:Int)<=(r.log.getD p aH.zero).seq/\(r.log.getD p aH.zero).seq<=999;omega,h2,.inl rfl,mL,
   by intro q;exact absurd q (by show ¬ ((4:Int)=6\/(4:Int)=11\/(4:Int)=13\/(4:Int)=15\/((4:Int)=10/\_));omega),by intro q;exact absurd q (by show ¬ ((4:Int)=1\/(4:Int)=2);omega)⟩
theorem xH {e:aH}{d o:Int}(h:e.ok=true)(hE:0<=E)(ho:0<=o/\o<=303)(hd:0<=d/\d<=303):cU n E { kind:=1,src:=o,dst:=d,log:=[e] } :=
 ⟨by show (1:Int)<=1/\(1:Int)<=16;omega,ho,hd,by show (0:Int)<=0/\(0:Int)<=E;omega,by show (0:Int)<=0/\(0:Int)<=2001;omega,by show (-1:Int)<=0/\(0:Int)<=2001;omega,
   by show (0:Int)<=0/\(0:Int)<=999;omega,by show (-1:Int)<=0/\(0:Int)<=999;omega,.inl rfl,DP h,
   by intro q;exact absurd q (by show ¬ ((1:Int)=6\/(1:Int)=11\/(1:Int)=13\/(1:Int)=15\/((1:Int)=10/\_));omega),fun _=>rfl⟩
theorem Gs {r:aR}(h:gj n E r)(hn:n<=5)(hE:0<=E)(ho:0<=own/\own<=303){e:aH}(he:e.ok=true)(hl:r.log.length<24):gj n E (r.put own e).1/\∀ x∈(r.put own e).2,cU n E x:=by
 have dy:mK (r.log++[e]):=by
  refine⟨by simp;omega, ?_⟩
  intro x hx;rcases fE.1 hx with q|q
  ·exact h.log.2 x q
  ·rw[dg] at q;subst q;exact he
 have h1:gj n E { r with log:=r.log++[e] }:={ h with log:=dy,base:=(by show r.base<=(r.log++[e]).length;have:=h.base;simp;omega),aU:=(by show r.aU<=(r.log++[e]).length;have:=h.aU;simp;omega) }
 unfold aR.put;split
 ·rename_i nx hnx
  refine⟨h1, ?_⟩
  intro x hx;rw[dg] at hx;subst hx;exact D3 h1 hn ho (FZ hnx) (by simp)
 ·have h2:gj n E { r with log:=r.log++[e],aU:=(r.log++[e]).length }:={ h1 with aU:=aG _,bc:=h1.base }
  refine⟨h2, ?_⟩
  intro x hx;unfold aR.mJ at hx;rcases fE.1 hx with q|q
  ·simp only [List.mem_map] at q
   obtain⟨p,hp,rfl⟩:=q;exact GM h1 hE ho (Gy hp).2
  ·exact vX h2 hn ho x q
theorem NJ {l:List Int}(h:dq l n=true):l.headD 0∈l:=by
 have:=((j0 _ _).1 h).2.2;cases l with
 | nil=>exact absurd rfl this
 | cons a t=>exact fS
theorem Kr {r:aR}(h:gj n E r)(hn:n<=5)(hE:0<=E)(ho:0<=own/\own<=303){e:aH}(he:e.ok=true):gj n E (r.asked own e).1/\∀ x∈(r.asked own e).2,cU n E x:=by
 unfold aR.asked;split
 ·refine⟨h, ?_⟩
  intro x hx;rw[dg] at hx;subst hx;exact xH he hE ho (uN h.af hn (NJ h.af))
 ·split
  ·split
   ·rename_i hp
    refine⟨h, ?_⟩
    intro x hx;rw[dg] at hx;subst hx;exact GM h hE ho (by have:=h.aU;omega)
   ·exact⟨h,fun x hx=>by cases hx⟩
  ·split
   ·exact⟨h,fun x hx=>by cases hx⟩
   ·exact Gs h hn hE ho he (by omega)
theorem EI {l:List aH}(h:mK l)(h1:l.length=1):(l.headD aH.zero).ok=true:=by
 cases l with
 | nil=>simp at h1
 | cons a t=>exact h.2 a fS
theorem Ti {r:aR}(h:gj n E r)(hn:n<=5)(hE:0<=E)(ho:0<=own/\own<=303){m:aK}(hm:cU n E m):gj n E (r.take own m).1/\∀ x∈(r.take own m).2,cU n E x:=by
 unfold aR.take;split
 ·split
  ·rename_i hc
   exact Kr h hn hE ho (EI hm.log hc.1)
  ·exact⟨h,fun x hx=>by cases hx⟩
 ·split
  ·unfold aR.gL
   split
   ·rename_i hc
    split
    ·rename_i hp
     exact Gs h hn hE ho (EI hm.log hc.2.2.1) hp.2
    ·split
     ·exact⟨h,vX h hn ho⟩
     ·exact⟨h,fun x hx=>by cases hx⟩
   ·exact⟨h,fun x hx=>by cases hx⟩
  ·split
   ·unfold aR.jf
    split
    ·rename_i hc
     have h1:gj n E { r with aU:=m.pos.toNat }:={ h with aU:=(by show m.pos.toNat<=r.log.length;omega),bc:=(by show r.base<=m.pos.toNat;have:=h.bc;omega) }
     exact⟨h1,vX h1 hn ho⟩
    ·exact⟨h,fun x hx=>by cases hx⟩
   ·split
    ·unfold aR.lp
     split
     ·exact⟨h,fun x hx=>by cases hx⟩
     ·have he:=hm.ah
      have hb:=hm.ak;have hk:=h.lock;refine⟨{ h with lock:=by show (0:Int)<=(if _ then _ else _)/\(if _ then _ else _)<=E;split<;>omega }, ?_⟩
      intro x hx;rw[dg] at hx;subst hx;exact⟨by show (1:Int)<=8/\(8:Int)<=16;omega,ho,hm.src,he,hb,by show (-1:Int)<=0/\(0:Int)<=2001;omega,by show (0:Int)<=0/\(0:Int)<=999;omega,by show (-1:Int)<=0/\(0:Int)<=999;omega,.inl rfl,h.log,
       by intro q;exact absurd q (by show ¬ ((8:Int)=6\/(8:Int)=11\/(8:Int)=13\/(8:Int)=15\/((8:Int)=10/\_));omega),by intro q;exact absurd q (by show ¬ ((8:Int)=1\/(8:Int)=2);omega)⟩
    ·split
     ·rename_i hk
      unfold aR.mC;have he:=hm.ah;refine⟨?_, ?_⟩
      ·split
       ·exact⟨he,h.lock,hm.has (.inr (.inr (.inl hk))),hm.log,aG _,aG _,aG _⟩
       ·exact h
      ·intro x hx
       rw[dg] at hx;subst hx;exact⟨by show (1:Int)<=14/\(14:Int)<=16;omega,ho,hm.src,he,by show (0:Int)<=0/\(0:Int)<=2001;omega,by show (-1:Int)<=0/\(0:Int)<=2001;omega,by show (0:Int)<=0/\(0:Int)<=999;omega,by show (-1:Int)<=0/\(0:Int)<=999;omega,.inl rfl,mL,
        by intro q;exact absurd q (by show ¬ ((14:Int)=6\/(14:Int)=11\/(14:Int)=13\/(14:Int)=15\/((14:Int)=10/\_));omega),by intro q;exact absurd q (by show ¬ ((14:Int)=1\/(14:Int)=2);omega)⟩
     ·exact⟨h,fun x hx=>by cases hx⟩
theorem Tj {r:aR}(h:gj n E r)(hn:n<=5)(ho:0<=own/\own<=303):∀ x∈r.tick own,cU n E x:=by
 intro x hx;unfold aR.tick at hx;split at hx
 ·split at hx
  ·exact vX h hn ho x hx
  ·rename_i nx hnx
   simp only [List.mem_map] at hx;obtain⟨p,hp,rfl⟩:=hx;exact D3 h hn ho (FZ hnx) (Gy hp).2
 ·cases hx
theorem Ta {r:aR}(h:gj n E r):gj n E r.dc:={ h with aU:=h.base,bc:=aG _ }
theorem Tf {r:aR}(h:gj n E r):gj n E (r.cF own) :=
 {h with aU:=(by show (if _ then _ else _)<=r.log.length;split;exact aG _;exact h.base),bc:=(by show r.base<=(if _ then _ else _);split;exact h.base;exact aG _) }
theorem JU {a:Acc}(h:ns n E a){m:aK}(hm:cU n E m):ns n E (a.take m).1/\∀ x∈(a.take m).2,cU n E x:=by
 have he:=hm.ah;have hb:=hm.ak;have hv:=h.aZ m.ah;unfold Acc.take;split
 ·refine⟨h, ?_⟩
  intro x hx;rw[dg] at hx;subst hx;exact⟨by show (1:Int)<=6/\(6:Int)<=16;omega,hm.dst,hm.src,h.ah,hb,by show (-1:Int)<=0/\(0:Int)<=2001;omega,by show (0:Int)<=0/\(0:Int)<=999;omega,by show (-1:Int)<=0/\(0:Int)<=999;omega,.inr h.af,mL,
   fun _=>h.af,by intro q;exact absurd q (by show ¬ ((6:Int)=1\/(6:Int)=2);omega)⟩
 ·split
  ·split
   ·exact⟨h,fun x hx=>by cases hx⟩
   ·refine⟨{ h with aZ := ?_ }, ?_⟩
    ·intro e
     show yO n (upd a.aZ m.ah _ e);unfold upd;split
     ·exact { hv with promise:=⟨by show -1<=m.ak;omega,hb.2⟩ }
     ·exact h.aZ e
    ·intro x hx
     rw[dg] at hx;subst hx;exact⟨by show (1:Int)<=10/\(10:Int)<=16;omega,hm.dst,hm.src,he,hb,hv.ak,by show (0:Int)<=0/\(0:Int)<=999;omega,by show (-1:Int)<=0/\(0:Int)<=999;omega,hv.af,hv.log,
      by
       intro q;refine hv.has ?_
       rcases q with q|q|q|q|q
       ·exact absurd q (by show ¬ (10:Int)=6;omega)
       ·exact absurd q (by show ¬ (10:Int)=11;omega)
       ·exact absurd q (by show ¬ (10:Int)=13;omega)
       ·exact absurd q (by show ¬ (10:Int)=15;omega)
       ·exact q.2,by intro q;exact absurd q (by show ¬ ((10:Int)=1\/(10:Int)=2);omega)⟩
  ·split
   ·rename_i hk
    split
    ·exact⟨h,fun x hx=>by cases hx⟩
    ·refine⟨{ h with aZ := ?_ }, ?_⟩
     ·intro e
      show yO n (upd a.aZ m.ah _ e);unfold upd;split
      ·exact⟨⟨by show -1<=m.ak;omega,hb.2⟩,⟨by show -1<=m.ak;omega,hb.2⟩,hm.af,fun _=>hm.has (.inr (.inl hk)),hm.log⟩
      ·exact h.aZ e
     ·intro x hx
      rw[dg] at hx;subst hx;exact⟨by show (1:Int)<=12/\(12:Int)<=16;omega,hm.dst,hm.src,he,hb,by show (-1:Int)<=0/\(0:Int)<=2001;omega,by show (0:Int)<=0/\(0:Int)<=999;omega,by show (-1:Int)<=0/\(0:Int)<=999;omega,.inl rfl,mL,
       by intro q;exact absurd q (by show ¬ ((12:Int)=6\/(12:Int)=11\/(12:Int)=13\/(12:Int)=15\/((12:Int)=10/\_));omega),by intro q;exact absurd q (by show ¬ ((12:Int)=1\/(12:Int)=2);omega)⟩
   ·split
    ·rename_i hk
     refine⟨?_, ?_⟩
     ·split
      ·exact⟨he,hm.has (.inr (.inr (.inr (.inl hk)))),h.aZ⟩
      ·exact h
     ·intro x hx
      rw[dg] at hx;subst hx;exact⟨by show (1:Int)<=16/\(16:Int)<=16;omega,hm.dst,hm.src,he,by show (0:Int)<=0/\(0:Int)<=2001;omega,by show (-1:Int)<=0/\(0:Int)<=2001;omega,by show (0:Int)<=0/\(0:Int)<=999;omega,by show (-1:Int)<=0/\(0:Int)<=999;omega,.inl rfl,mL,
       by intro q;exact absurd q (by show ¬ ((16:Int)=6\/(16:Int)=11\/(16:Int)=13\/(16:Int)=15\/((16:Int)=10/\_));omega),by intro q;exact absurd q (by show ¬ ((16:Int)=1\/(16:Int)=2);omega)⟩
    ·exact⟨h,fun x hx=>by cases hx⟩
end
end Go.Proofs.YtgieeeeeiggoeaaGreat
namespace Go.Proofs.YtgieeeeeiggoeaaGreat
section
variable {n:Nat} {E:Int} {own:Int}
theorem J9 {s:aN}(h:d_ n E s)(hn:n<=5){d:Int}(hd:d∈s.all):0<=d/\d<=303:=by
 unfold aN.all at hd;split at hd
 ·cases hd
 ·rename_i q;exact uN (h.old (by omega)) hn hd
 ·rename_i q;exact uN (h.af (by omega)) hn hd
 ·simp only [gK,iP,or_false] at hd;omega
theorem Bo {k d:Int}{e b:Int}(hk:k=5\/k=7\/k=9)(ho:0<=own/\own<=303)(hd:0<=d/\d<=303)(he:0<=e/\e<=E)(hb:0<=b/\b<=2001) :
  cU n E { kind:=k,src:=own,dst:=d,ah:=e,ak:=b } :=
 ⟨by show 1<=k/\k<=16;omega,ho,hd,he,hb,by show (-1:Int)<=0/\(0:Int)<=2001;omega,by show (0:Int)<=0/\(0:Int)<=999;omega,by show (-1:Int)<=0/\(0:Int)<=999;omega,.inl rfl,mL,
  by intro q;exact absurd q (by show ¬ (k=6\/k=11\/k=13\/k=15\/(k=10/\_));omega),by intro q;exact absurd q (by show ¬ (k=1\/k=2);omega)⟩
theorem zy {k d:Int}{e b:Int}{ms:List Int}{l:List aH}(hk:k=11\/k=13\/k=15)(ho:0<=own/\own<=303)(hd:0<=d/\d<=303)(he:0<=e/\e<=E)(hb:0<=b/\b<=2001)(hm:dq ms n=true)(hl:mK l) :
  cU n E { kind:=k,src:=own,dst:=d,ah:=e,ak:=b,af:=ms,log:=l } :=
 ⟨by show 1<=k/\k<=16;omega,ho,hd,he,hb,by show (-1:Int)<=0/\(0:Int)<=2001;omega,by show (0:Int)<=0/\(0:Int)<=999;omega,by show (-1:Int)<=0/\(0:Int)<=999;omega,.inr hm,hl,
  fun _=>hm,by intro q;exact absurd q (by show ¬ (k=1\/k=2);omega)⟩
theorem tD {s:aN}(h:d_ n E s)(hn:n<=5)(hE:0<=E)(ho:0<=own/\own<=303):∀ x∈s.asks own,cU n E x:=by
 intro x hx;unfold aN.asks at hx;simp only [List.mem_map,List.mem_filter] at hx;obtain⟨d,⟨hd,_⟩,rfl⟩:=hx;have hdb:=J9 h hn hd;have h6:=h.does;have z:(0:Int)<=0/\(0:Int)<=2001:=by omega
 unfold aN.ask;split
 ·exact Bo (.inl rfl) ho hdb ⟨by omega,hE⟩ h.ak
 ·exact Bo (.inr (.inl rfl)) ho hdb h.ah h.ak
 ·exact Bo (.inr (.inr rfl)) ho hdb h.ah h.ak
 ·rename_i q;exact zy (.inl rfl) ho hdb h.ah h.ak (h.af (by omega)) h.log
 ·rename_i q;exact zy (.inr (.inl rfl)) ho hdb h.ah z (h.af (by omega)) h.log
 ·rename_i q1 q2 q3 q4 q5
  by_cases h0:s.does=0
  ·unfold aN.all at hd
   rw[h0] at hd;cases hd
  ·have:s.does≠1:=fun e=>q1 e
   have:s.does≠2:=fun e=>q2 e;have:s.does≠3:=fun e=>q3 e;exact zy (.inr (.inr rfl)) ho hdb h.ah z (h.af (by omega)) mL
def aN.reads (s:aN):Int:=if s.does=1 then 1 else 0
theorem xX {s:aN}(h:d_ n E s){m:aK}(hm:cU n E m)(hf:s.fits m=true)(hlen:(s.does≠5->s.came=[])/\(s.does=5->s.came.length+1<s.af.length)/\s.does≠2):d_ n E { s with came:=s.came++[m] }:=by
 obtain⟨f1,f2,f3,f4,f5,f6⟩:=D1 hf;exact { h with
  came:=by
   intro x hx;rcases fE.1 hx with q|q
   ·exact h.came x q
   ·rw[dg] at q;subst q;exact⟨hm,f2,f5⟩
  nodup:=by
   show ((s.came++[m]).map aK.src).Nodup;rw[gw,List.map_singleton];unfold List.Nodup;rw[List.pairwise_append];refine⟨h.nodup,List.pairwise_singleton _ _, ?_⟩
   intro x hx y hy e;rw[dg] at hy;subst hy;simp only [List.mem_map] at hx;obtain⟨z,hz,rfl⟩:=hx;exact f6 z hz e
  few:=by
   refine⟨?_, ?_, ?_⟩
   ·intro q
    show (s.came++[m]).length<=1;rw[hlen.1 q];simp
   ·intro q
    show (s.came++[m]).length<s.af.length;rw[bG];exact hlen.2.1 q
   ·intro q
    have q':s.does=0\/s.does=2:=q;omega }
theorem sQ {s:aN}(hb:s.begun<=1000)(h6:s.does<=6)(he:0<=s.ah/\s.ah<=E)(Nq:0<=s.ak/\s.ak<=2001)(hmo:uO s.af n)(hl:mK s.log)(hn:n<=5)(hE:0<=E)(ho:0<=own/\own<=303)
  (hw:dq s.want n=true) (ho2:dq s.old n=true) (Ao:3<=s.does->dq s.af n=true) :
  d_ n E (s.b_ own).1/\∀ x∈(s.b_ own).2,cU n E x:=by
 have hd:(s.b_ own).1.does=if s.does=6 then 0 else s.does+1:=rfl
 have hd2:(s.b_ own).1.does≠0->(s.b_ own).1.does=s.does+1/\s.does<=5:=by
  rw[hd];intro q;by_cases e:s.does=6
  ·rw[if_pos e] at q;exact absurd rfl q
  ·rw[if_neg e];exact⟨rfl,by omega⟩
 have h1:d_ n E (s.b_ own).1 :=
  {begun:=hb
   does:=by
    by_cases q:(s.b_ own).1.does=0
    ·rw[q];omega
    ·obtain⟨q1,q2⟩:=hd2 q;omega
   ah:=he,ak:=Nq,want:=fun _=>hw,old:=fun _=>ho2,mw:=hmo,log:=hl
   af:=fun q=>Ao (by have:=hd2 (by omega);omega)
   came:=by intro x hx;cases hx
   nodup:=List.Pairwise.nil
   few:=by
    refine⟨fun _=>bl _, ?_,fun _=>rfl⟩
    intro q;have hm:=Ao (by have:=hd2 (by omega);omega)
    have:=((j0 _ _).1 hm).2.2;exact List.length_pos_iff.2 this }
 exact⟨h1,tD h1 hn hE ho⟩
theorem Dt {s:aN}(h:d_ n E s)(m:aK)(hc:s.came≠[]):cU n E (s.came.headD m)/\(s.came.headD m).kind=4+2*(s.does:Int):=by
 obtain⟨a,b,_⟩:=h.came _ (NH hc m);exact⟨a,b⟩
theorem QE {s:aN}(h:d_ n E s)(hn:n<=5)(hE:0<=E){m:aK}(hm:cU n E m) :
  d_ n (E+s.reads-(s.take m).1.reads) (s.take m).1/\(s.take m).1.reads<=s.reads/\(s.take m).1.begun=s.begun/\∀ x∈(s.take m).2,cU n (E+s.reads-(s.take m).1.reads) x:=by
 have ho:=hm.dst;by_cases hf:s.fits m=true
 ·obtain⟨f1,f2,f3,f4,f5,f6⟩:=D1 hf
  have h6:=h.does;have hw:=h.want f1;unfold aN.take;rw[if_pos hf];split
  ·rename_i q
   have hr:s.reads=1:=if_pos q;split
   ·rename_i hc
    have:=xX h hm hf ⟨fun _=>hc,fun e=>by omega,by omega⟩
    rw[hc] at this;have hr2:({ s with came:=[m] }:aN).reads=1:=if_pos q
    rw[hr,hr2];refine⟨this.mono (by omega),by omega,rfl,fun x hx=>by cases hx⟩
   ·rename_i hc
    obtain⟨c1,c2⟩:=Dt h m hc;have hb:cU n E (cu aK.ah s.came m)/\(cu aK.ah s.came m).kind=6:=by
     rcases Dc aK.ah s.came m with e|e
     ·rw[e];exact⟨c1,by rw[c2,q];rfl⟩
     ·rw[e];exact⟨hm,by rw[f2,q];rfl⟩
    generalize cu aK.ah s.came m=B at *;have he:=hb.1.ah;have hmm:=hb.1.has (.inl hb.2);obtain⟨r1,r2⟩:=sQ (n:=n) (E:=E+1) (own:=m.dst) (s:={ s with ah:=B.ah+1,old:=B.af }) h.begun h6 ⟨by show 0<=B.ah+1;omega,by show B.ah+1<=E+1;omega⟩ h.ak h.mw h.log hn (by omega) ho hw hmm (fun e=>by have e':3<=s.does:=e;omega)
    have hr2:(({ s with ah:=B.ah+1,old:=B.af }:aN).b_ m.dst).1.reads=0:=by
     unfold aN.reads aN.b_;simp[q]
    rw[hr,hr2];exact⟨r1.mono (by omega),by omega,rfl,fun x hx=>(r2 x hx).mono (by omega)⟩
  ·rename_i q
   have hr:s.reads=0:=if_neg (by omega)
   obtain⟨r1,r2⟩:=sQ (n:=n) (E:=E) (own:=m.dst) (s:={ s with log:=m.log }) h.begun h6 h.ah h.ak h.mw hm.log hn hE ho hw (h.old (by omega)) (fun e=>by have e':3<=s.does:=e;omega)
   have hr2:(({ s with log:=m.log }:aN).b_ m.dst).1.reads=0:=by
    unfold aN.reads aN.b_;simp[q]
   rw[hr,hr2];exact⟨r1.mono (by omega),by omega,rfl,fun x hx=>(r2 x hx).mono (by omega)⟩
  ·rename_i q
   have hr:s.reads=0:=if_neg (by omega)
   split
   ·rename_i hc
    have:=xX h hm hf ⟨fun _=>hc,fun e=>by omega,by omega⟩
    rw[hc] at this;have hr2:({ s with came:=[m] }:aN).reads=0:=if_neg (by show ¬ s.does=1;omega)
    rw[hr,hr2];refine⟨this.mono (by omega),by omega,rfl,fun x hx=>by cases hx⟩
   ·rename_i hc
    obtain⟨c1,c2⟩:=Dt h m hc;have hb:cU n E (cu aK.aO s.came m)/\(cu aK.aO s.came m).kind=10:=by
     rcases Dc aK.aO s.came m with e|e
     ·rw[e];exact⟨c1,by rw[c2,q];rfl⟩
     ·rw[e];exact⟨hm,by rw[f2,q];rfl⟩
    generalize cu aK.aO s.came m=B at *;split
    ·rename_i hv
     have hmm:=hb.1.has (.inr (.inr (.inr (.inr ⟨hb.2,hv⟩))));obtain⟨r1,r2⟩:=sQ (n:=n) (E:=E) (own:=m.dst) (s:={ s with af:=B.af,log:=B.log }) h.begun h6 h.ah h.ak (.inr hmm) hb.1.log hn hE ho hw (h.old (by omega)) (fun _=>hmm)
     have hr2:(({ s with af:=B.af,log:=B.log }:aN).b_ m.dst).1.reads=0:=by
      unfold aN.reads aN.b_;simp[q]
     rw[hr,hr2];exact⟨r1.mono (by omega),by omega,rfl,fun x hx=>(r2 x hx).mono (by omega)⟩
    ·obtain⟨r1,r2⟩:=sQ (n:=n) (E:=E) (own:=m.dst) (s:={ s with af:=s.want }) h.begun h6 h.ah h.ak (.inr hw) h.log hn hE ho hw (h.old (by omega)) (fun _=>hw)
     have hr2:(({ s with af:=s.want }:aN).b_ m.dst).1.reads=0:=by
      unfold aN.reads aN.b_;simp[q]
     rw[hr,hr2];exact⟨r1.mono (by omega),by omega,rfl,fun x hx=>(r2 x hx).mono (by omega)⟩
  ·rename_i q
   have hr:s.reads=0:=if_neg (by omega)
   split
   ·rename_i hc
    have:=xX h hm hf ⟨fun e=>by omega,fun _=>hc,by omega⟩
    have hr2:({ s with came:=s.came++[m] }:aN).reads=0:=if_neg (by show ¬ s.does=1;omega)
    rw[hr,hr2];refine⟨this.mono (by omega),by omega,rfl,fun x hx=>by cases hx⟩
   ·obtain⟨r1,r2⟩:=sQ (own:=m.dst) h.begun h6 h.ah h.ak h.mw h.log hn hE ho hw (h.old (by omega)) (fun _=>h.af (by omega))
    have hr2:(s.b_ m.dst).1.reads=0:=by unfold aN.reads aN.b_;simp[q]
    rw[hr,hr2];exact⟨r1.mono (by omega),by omega,rfl,fun x hx=>(r2 x hx).mono (by omega)⟩
  ·rename_i q1 q2 q3 q5
   have:s.does≠1:=fun e=>q1 e;have:s.does≠2:=fun e=>q2 e;have:s.does≠3:=fun e=>q3 e;have:s.does≠5:=fun e=>q5 e;have hr:s.reads=0:=if_neg (by omega)
   split
   ·rename_i hc
    have:=xX h hm hf ⟨fun _=>hc,fun e=>by omega,by omega⟩
    rw[hc] at this;have hr2:({ s with came:=[m] }:aN).reads=0:=if_neg (by show ¬ s.does=1;omega)
    rw[hr,hr2];refine⟨this.mono (by omega),by omega,rfl,fun x hx=>by cases hx⟩
   ·obtain⟨r1,r2⟩:=sQ (own:=m.dst) h.begun h6 h.ah h.ak h.mw h.log hn hE ho hw (h.old (by omega)) (fun _=>h.af (by omega))
    have hr2:(s.b_ m.dst).1.reads=0:=by
     unfold aN.reads aN.b_;by_cases e:s.does=6
     ·simp[e]
     ·simp only [if_neg e]
      exact if_neg (by omega)
    rw[hr,hr2];exact⟨r1.mono (by omega),by omega,rfl,fun x hx=>(r2 x hx).mono (by omega)⟩
 ·unfold aN.take
  rw[if_neg hf];show d_ n (E+s.reads-s.reads) s/\s.reads<=s.reads/\s.begun=s.begun/\_;exact⟨h.mono (by omega),by omega,rfl,fun x hx=>by cases hx⟩
theorem AV (up:Bool){b:Nat}(hb:b<=1000)(hE:0<=E):d_ n E (aN.still up b) :=
 {begun:=hb,does:=bl _,ah:=⟨gv _,hE⟩,ak:=⟨gv _,by show (0:Int)<=2001;omega⟩,want:=fun q=>absurd rfl q,old:=fun q=>absurd q (by show ¬ 2<=0;decide),af:=fun q=>absurd q (by show ¬ 4<=0;decide)
  mw:=.inl rfl,log:=mL,came:=fun x hx=>(by cases hx),nodup:=List.Pairwise.nil,few:=⟨fun _=>bl _,fun q=>absurd q (by show ¬ 0=5;decide),fun _=>rfl⟩ }
theorem AU {s:aN}(hb:s.begun<1000)(hE:0<=E)(ho:b8 own){l:List Int}(hl:dq l n=true):d_ n E (s.begin own l) :=
 {begun:=hb,does:=(by decide:1<=6),ah:=⟨gv _,hE⟩,ak:=by show 0<=2*(s.begun+1:Int)+(own-200)/\2*(s.begun+1:Int)+(own-200)<=2001;unfold b8 at ho;omega
  want:=fun _=>hl,old:=fun q=>absurd q (by show ¬ 2<=1;decide),af:=fun q=>absurd q (by show ¬ 4<=1;decide)
  mw:=.inl rfl,log:=mL,came:=fun x hx=>(by cases hx),nodup:=List.Pairwise.nil,few:=⟨fun _=>bl _,fun q=>absurd q (by show ¬ 1=5;decide),fun _=>rfl⟩ }
end
end Go.Proofs.YtgieeeeeiggoeaaGreat
namespace Go.Proofs.YtgieeeeeiggoeaaGreat
variable {E own:Int}{s:aN}{m:aK}{n:Nat}
structure bh where
 begun:Nat
 doing:Int
 waits:List Int
 ah:Int
 old:List Int
 aO:Int
 af:List Int
 log:List aH
def bh.ak (p:bh)(own:Int):Int:=2*(p.begun:Int)+own-200
def bh.question (p:bh)(own:Int):aK :=
 if p.doing=1 then { kind:=5,src:=0,dst:=0,ak:=p.ak own }
 else if p.doing=2 then { kind:=7,src:=0,dst:=0,ah:=p.ah,ak:=p.ak own }
 else if p.doing=3 then { kind:=9,src:=0,dst:=0,ah:=p.ah,ak:=p.ak own }
 else if p.doing=4 then { kind:=11,src:=0,dst:=0,ah:=p.ah,ak:=p.ak own,af:=p.af,log:=p.log }
 else if p.doing=5 then { kind:=13,src:=0,dst:=0,ah:=p.ah,af:=p.af,log:=p.log }
 else { kind:=15,src:=0,dst:=0,ah:=p.ah,af:=p.af }
def bh.oY (p:bh)(own dd:Int):aK:={ p.question own with src:=own,dst:=dd }
def bh.asks (p:bh)(own:Int):List aK:=p.waits.map (p.oY own)
def bh.dQ (p:bh)(own d:Int)(l:List Int):bh × List aK:=({ p with doing:=d,waits:=l }, { p with doing:=d,waits:=l }.asks own)
def bh.idle (p:bh):bh:={ begun:=p.begun,doing:=0,waits:=[],ah:=0,old:=[],aO:=0,af:=[],log:=[] }
def bh.fresh (p:bh)(l:List Int):bh:={ begun:=p.begun+1,doing:=0,waits:=[],ah:=0,old:=[],aO := -1,af:=l,log:=[] }
def bh.enough (p:bh):Bool:=if p.doing=2 then true else if p.doing=5 then decide ((p.waits.length:Int)=0) else decide ((p.waits.length:Int)<=1)
def bh.mV (p:bh)(own:Int)(m:aK):Bool :=
 if p.doing=1 then (m.kind == 6) && (m.ak == p.ak own)
 else if p.doing=2 then ((m.kind == 8) && (m.ah == p.ah)) && (m.ak == p.ak own)
 else if p.doing=3 then ((m.kind == 10) && (m.ah == p.ah)) && (m.ak == p.ak own)
 else if p.doing=4 then ((m.kind == 12) && (m.ah == p.ah)) && (m.ak == p.ak own)
 else if p.doing=5 then (m.kind == 14) && (m.ah == p.ah)
 else if p.doing=6 then (m.kind == 16) && (m.ah == p.ah)
 else false
def bh.gq (p:bh)(m:aK):bh:=if p.ah<m.ah+1 then { p with ah:=m.ah+1,old:=m.af } else p
def bh.dS (p:bh)(m:aK):bh:=if p.aO<m.aO then { p with aO:=m.aO,af:=m.af,log:=m.log } else p
def bh.learn (p:bh)(m:aK):bh :=
 if p.doing=1 then p.gq m else if p.doing=2 then { p with log:=m.log } else if p.doing=3 then p.dS m else p
def bh.fN (p:bh)(own:Int):bh × List aK :=
 if p.doing=1 then { p with old:=[] }.dQ own 2 p.old
 else if p.doing=2 then p.dQ own 3 [100,101,102]
 else if p.doing=3 then p.dQ own 4 [100,101,102]
 else if p.doing=4 then p.dQ own 5 p.af
 else if p.doing=5 then p.dQ own 6 [100,101,102]
 else (p.idle,[])
def bh.less (p:bh)(x:Int):bh:={ p with waits:=p.waits.eraseIdx (p.waits.idxOf x) }
def bh.take (p:bh)(own:Int)(m:aK):bh × List aK :=
 if m.src∈p.waits/\p.mV own m=true then
  if ((p.less m.src).learn m).enough=true then ((p.less m.src).learn m).fN own else ((p.less m.src).learn m,[])
 else (p,[])
structure eN (own:Int)(s:aN)(p:bh):Prop where
 begun:p.begun=s.begun
 doing:p.doing=(s.does:Int)
 ak:s.does≠0->p.ak own=s.ak
 waits:p.waits=s.all.filter (fun x => !s.du x)
 count:p.waits.length+s.came.length=s.all.length
 one:s.does=1->(s.came=[]->p.ah=0/\p.old=[])/\∀ m r,s.came=m :: r->p.ah=m.ah+1/\p.old=m.af
 ah:2<=s.does->p.ah=s.ah
 aO:s.does=1\/s.does=2->p.aO = -1/\p.af=s.want
 three:s.does=3->((s.came=[]\/∃ m r,s.came=m :: r/\m.aO <= -1)->p.aO = -1/\p.af=s.want/\p.log=s.log)/\∀ m r,s.came=m :: r -> -1<m.aO->p.aO=m.aO/\p.af=m.af/\p.log=m.log
 last:4<=s.does->p.af=s.af/\p.log=s.log
 mZ:p.old.length<=5
 lf:p.af.length<=5
 nN:p.log.length<=24
theorem Rt : ([100,101,102]:List Int).Nodup:=by decide
theorem Ka (h:d_ n E s):s.all.Nodup:=by
 unfold aN.all;split
 ·exact List.nodup_nil
 ·exact ((j0 _ _).1 (h.old (by omega))).2.1
 ·exact ((j0 _ _).1 (h.af (by omega))).2.1
 ·exact Rt
theorem tC (h:d_ n E s)(hn:n<=5):s.all.length<=5:=by
 unfold aN.all;split
 ·simp
 ·have:=e_ (h.old (by omega));omega
 ·have:=e_ (h.af (by omega));omega
 ·simp
theorem eN.oY {p:bh}(h:eN own s p)(h0:s.does≠0)(h6:s.does<=6)(x:Int):p.oY own x=s.ask own x:=by
 have hb:=h.ak h0;have hd:=h.doing;rcases (by omega:s.does=1\/s.does=2\/s.does=3\/s.does=4\/s.does=5\/s.does=6) with e|e|e|e|e|e
 all_goals rw[e] at hd
 all_goals simp[bh.oY,bh.question,hd,aN.ask,e,hb]
 ·exact h.ah (by omega)
 ·exact h.ah (by omega)
 ·exact⟨h.ah (by omega),h.last (by omega)⟩
 ·exact⟨h.ah (by omega),h.last (by omega)⟩
 ·exact⟨h.ah (by omega),(h.last (by omega)).1⟩
theorem eN.asks {p:bh}(h:eN own s p)(h6:s.does<=6):p.asks own=s.asks own:=by
 unfold bh.asks aN.asks;rw[h.waits];by_cases h0:s.does=0
 ·unfold aN.all
  rw[h0];rfl
 ·exact List.map_congr_left fun x _=>h.oY h0 h6 x
theorem eN.fits {p:bh}(h:eN own s p)(h6:s.does<=6)(m:aK):(m.src∈p.waits/\p.mV own m=true)↔s.fits m=true:=by
 have hd:=h.doing;rw[h.waits,List.mem_filter];unfold aN.fits;rcases (by omega:s.does=0\/s.does=1\/s.does=2\/s.does=3\/s.does=4\/s.does=5\/s.does=6) with e|e|e|e|e|e|e
 all_goals rw[e] at hd
 ·simp[bh.mV,hd,e]
 all_goals have hb:=h.ak (by omega)
 ·simp[bh.mV,hd,e,hb]
  constructor
  ·rintro⟨⟨a,b⟩,c,d⟩;exact⟨⟨⟨c,d⟩,a⟩,b⟩
  ·rintro⟨⟨⟨c,d⟩,a⟩,b⟩;exact⟨⟨a,b⟩,c,d⟩
 all_goals have he:=h.ah (by omega)
 all_goals simp[bh.mV,hd,e,hb,he]
 all_goals constructor
 ·rintro⟨⟨a,b⟩,⟨c,d⟩,f⟩;exact⟨⟨⟨⟨c,d⟩,f⟩,a⟩,b⟩
 ·rintro⟨⟨⟨⟨c,d⟩,f⟩,a⟩,b⟩;exact⟨⟨a,b⟩,⟨c,d⟩,f⟩
 ·rintro⟨⟨a,b⟩,⟨c,d⟩,f⟩;exact⟨⟨⟨⟨c,d⟩,f⟩,a⟩,b⟩
 ·rintro⟨⟨⟨⟨c,d⟩,f⟩,a⟩,b⟩;exact⟨⟨a,b⟩,⟨c,d⟩,f⟩
 ·rintro⟨⟨a,b⟩,⟨c,d⟩,f⟩;exact⟨⟨⟨⟨c,d⟩,f⟩,a⟩,b⟩
 ·rintro⟨⟨⟨⟨c,d⟩,f⟩,a⟩,b⟩;exact⟨⟨a,b⟩,⟨c,d⟩,f⟩
 ·rintro⟨⟨a,b⟩,c,d⟩;exact⟨⟨⟨c,d⟩,a⟩,b⟩
 ·rintro⟨⟨⟨c,d⟩,a⟩,b⟩;exact⟨⟨a,b⟩,c,d⟩
 ·rintro⟨⟨a,b⟩,c,d⟩;exact⟨⟨⟨c,d⟩,a⟩,b⟩
 ·rintro⟨⟨⟨c,d⟩,a⟩,b⟩;exact⟨⟨a,b⟩,c,d⟩
theorem Sl (l:List Int)(c:List aK)(hc:c=[]):l.filter (fun x => !(c.any (fun m=>decide (m.src=x))))=l:=by
 subst hc;simp
theorem eN.less {p:bh}(h:eN own s p)(hw:d_ n E s)(m:aK)(hin:m.src∈p.waits) :
  (p.less m.src).waits=s.all.filter (fun x => !((s.came++[m]).any (fun m=>decide (m.src=x))))/\(p.less m.src).waits.length+(s.came++[m]).length=s.all.length:=by
 have hnd:p.waits.Nodup:=by rw[h.waits];exact (Ka hw).filter _
 have e1:(p.less m.src).waits=p.waits.erase m.src:=by
  unfold bh.less;exact (List.erase_eq_eraseIdx_of_idxOf rfl).symm
 have hc:=h.count;refine⟨?_, ?_⟩
 ·rw[e1,hnd.erase_eq_filter,h.waits,List.filter_filter]
  refine List.filter_congr fun x _ => ?_
  unfold aN.du;rw[List.any_append];simp;cases h1:(s.came.any fun m=>decide (m.src=x))<;>by_cases h2:x=m.src
  ·simp[h2]
  ·have:¬ m.src=x:=fun e=>h2 e.symm
   simp[h2,this]
  ·simp[h2]
  ·simp
 ·rw[e1,List.length_erase_of_mem hin]
  have:0<p.waits.length:=List.length_pos_of_mem hin;simp;omega
theorem eN.turn (d:Nat)(hd:2<=d/\d<=6)(s':aN)(p':bh)(hs:s'.does=d)(hc:s'.came=[])(hb:p'.begun=s'.begun)(hba:p'.ak own=s'.ak)(he:p'.ah=s'.ah)
  (hv:d=2\/d=3->p'.aO = -1/\p'.af=s'.want) (h3:d=3->p'.log=s'.log) (h4:4<=d->p'.af=s'.af/\p'.log=s'.log) (ho:p'.old.length<=5) (hm:p'.af.length<=5) (hl:p'.log.length<=24) :
  eN own s' (p'.dQ own d s'.all).1/\(p'.dQ own d s'.all).2=s'.asks own:=by
 have key:eN own s' (p'.dQ own d s'.all).1:=by
  unfold bh.dQ;refine⟨hb,by simp[hs],fun _=>hba, ?_,by simp[hc],fun e=>by omega,fun _=>he,fun e=>hv (by omega),fun e=>⟨fun _=>⟨(hv (by omega)).1,(hv (by omega)).2,h3 (by omega)⟩,fun m r e2=>by rw[hc] at e2;cases e2⟩,fun e=>h4 (by omega),ho,hm,hl⟩
  unfold aN.du;rw[Sl _ _ hc]
 exact⟨key,key.asks (by omega)⟩
theorem we (f:aK->Int)(m0 m:aK):cu f [m0] m=if f m0<f m then m else m0:=rfl
theorem Uh (hf:s.fits m=true)(e:s.does=1):s.take m=if s.came=[] then ({ s with came:=[m] },[]) else { s with ah:=(cu aK.ah s.came m).ah+1,old:=(cu aK.ah s.came m).af }.b_ m.dst:=by
 unfold aN.take;rw[if_pos hf];split<;>first|rfl|(exfalso;omega)|(exfalso;simp_all)|contradiction
theorem Ui (hf:s.fits m=true)(e:s.does=2):s.take m={ s with log:=m.log }.b_ m.dst:=by
 unfold aN.take;rw[if_pos hf];split<;>first|rfl|(exfalso;omega)|(exfalso;simp_all)|contradiction
theorem Uj (hf:s.fits m=true)(e:s.does=3):s.take m=if s.came=[] then ({ s with came:=[m] },[]) else
    if 0<=(cu aK.aO s.came m).aO then { s with af:=(cu aK.aO s.came m).af,log:=(cu aK.aO s.came m).log }.b_ m.dst
    else { s with af:=s.want }.b_ m.dst:=by
 unfold aN.take;rw[if_pos hf];split<;>first|rfl|(exfalso;omega)|(exfalso;simp_all)|contradiction
theorem Hk (hf:s.fits m=true)(e:s.does=4\/s.does=6):s.take m=if s.came=[] then ({ s with came:=[m] },[]) else s.b_ m.dst:=by
 unfold aN.take;rw[if_pos hf];split<;>first|rfl|(exfalso;omega)
theorem Uk (hf:s.fits m=true)(e:s.does=5):s.take m=if s.came.length+1<s.af.length then ({ s with came:=s.came++[m] },[]) else s.b_ m.dst:=by
 unfold aN.take;rw[if_pos hf];split<;>first|rfl|(exfalso;omega)|(exfalso;simp_all)|contradiction
theorem vY (e:s.does=1\/s.does=3\/s.does=4\/s.does=6):s.all=[100,101,102]:=by
 unfold aN.all;split
 ·omega
 ·omega
 ·omega
 ·rfl
theorem eN.take {p:bh}(h:eN own s p)(hw:d_ n E s)(hn:n<=5)(hm:cU n E m)(hd:m.dst=own):eN own (s.take m).1 (p.take own m).1/\(p.take own m).2=(s.take m).2:=by
 subst hd;unfold bh.take;by_cases hf:s.fits m=true
 ·have hf':=(h.fits hw.does m).2 hf
  rw[if_pos hf'];obtain⟨hl1,hl2⟩:=h.less hw m hf'.1;have hdo:=h.doing;have hkind:m.kind=4+2*(s.does:Int):=by
   unfold aN.fits at hf;simp only [Bool.and_eq_true,jt] at hf;exact hf.1.1.1.1.2
  have hne:s.does≠0:=by
   unfold aN.fits at hf;simp only [Bool.and_eq_true,jt] at hf;exact hf.1.1.1.1.1
  have wT:m.af.length<=5:=by
   rcases hm.af with e|e
   ·simp[e]
   ·have:=e_ e;omega
  have hb:=h.ak hne;generalize hq:p.less m.src=q at *;have qb:q.begun=p.begun:=by rw[<- hq];rfl
  have qd:q.doing=p.doing:=by rw[<- hq];rfl
  have nT:q.ak m.dst=p.ak m.dst:=by rw[<- hq];rfl
  have qe:q.ah=p.ah:=by rw[<- hq];rfl
  have qo:q.old=p.old:=by rw[<- hq];rfl
  have qv:q.aO=p.aO:=by rw[<- hq];rfl
  have qm:q.af=p.af:=by rw[<- hq];rfl
  have ql:q.log=p.log:=by rw[<- hq];rfl
  rcases (by have:=hw.does;omega:s.does=1\/s.does=2\/s.does=3\/s.does=4\/s.does=5\/s.does=6) with e|e|e|e|e|e
  ·-- reads
   have hall:s.all=[100,101,102]:=vY (by omega)
   have hv:=h.aO (.inl e);have h1:=h.one e;have q1:q.doing=1:=by rw[qd,hdo,e];rfl
   have hen:(q.learn m).enough=decide ((q.waits.length:Int)<=1):=by
    unfold bh.learn bh.gq;rw[if_pos q1];split<;>simp[bh.enough,q1]
   have hle:q.learn m=q.gq m:=by unfold bh.learn;rw[if_pos q1]
   rw[Uh hf e];rw[hen,hle];rw[hall] at hl2;cases gp:s.came with
   | nil =>
    rw[gp] at hl2;simp at hl2;have:¬ (q.waits.length:Int)<=1:=by omega
    have hno:¬ decide ((q.waits.length:Int)<=1)=true:=by simpa using this
    rw[if_neg hno,if_pos rfl];refine⟨?_,rfl⟩
    obtain⟨g1,g2⟩:=h1.1 gp;have hlr:q.gq m={ q with ah:=m.ah+1,old:=m.af }:=by
     unfold bh.gq;rw[if_pos (by rw[qe,g1];have:=hm.ah;omega)]
    rw[hlr];refine⟨qb.trans h.begun,by simp[qd,hdo],fun _=>nT.trans hb, ?_, ?_,fun _=>⟨fun e2=>(by simp at e2),fun m' r e2=>by simp at e2;simp[e2.1]⟩,fun e2=>by simp at e2;omega,fun _=>⟨qv.trans hv.1,qm.trans hv.2⟩,fun e2=>by simp at e2;omega,fun e2=>by simp at e2;omega,wT,by simp;rw[qm];exact h.lf,by simp;rw[ql];exact h.nN⟩
    ·rw[hl1,gp]
     rfl
    ·have:({ s with came:=[m] }:aN).all=s.all:=rfl
     simp[this,hall,hl2]
   | cons m0 r0 =>
    have hr0:r0=[]:=by
     have:=hw.few.1 (by omega)
     rw[gp] at this;simp at this;exact this
    subst hr0;rw[gp] at hl2;simp at hl2;have:(q.waits.length:Int)<=1:=by omega
    have hyes:decide ((q.waits.length:Int)<=1)=true:=by simpa using this
    rw[if_pos hyes,if_neg (List.cons_ne_nil _ _)];obtain⟨g1,g2⟩:=h1.2 _ _ gp;have hlr:(q.gq m).ah=(cu aK.ah [m0] m).ah+1/\(q.gq m).old=(cu aK.ah [m0] m).af/\(q.gq m).begun=q.begun/\(q.gq m).aO=q.aO/\(q.gq m).af=q.af/\(q.gq m).log=q.log/\(q.gq m).doing=1:=by
     unfold bh.gq;rw[we];rw[qe,g1];by_cases hlt:m0.ah<m.ah
     ·rw[if_pos (by omega),if_pos hlt]
      exact⟨rfl,rfl,rfl,rfl,rfl,rfl,q1⟩
     ·rw[if_neg (by omega),if_neg hlt]
      exact⟨qe.trans g1,qo.trans g2,rfl,rfl,rfl,rfl,q1⟩
    obtain⟨k1,k2,k3,k4,k5,k6,k7⟩:=hlr;have hgo:(q.gq m).fN m.dst=({ q.gq m with old:=[] }:bh).dQ m.dst 2 (q.gq m).old:=by unfold bh.fN;rw[if_pos k7]
    rw[hgo,k2];have hon:({ s with ah:=(cu aK.ah [m0] m).ah+1,old:=(cu aK.ah [m0] m).af,came:=[m0] }:aN).b_ m.dst=({ s with ah:=(cu aK.ah [m0] m).ah+1,old:=(cu aK.ah [m0] m).af,does:=2,came:=[] },({ s with ah:=(cu aK.ah [m0] m).ah+1,old:=(cu aK.ah [m0] m).af,does:=2,came:=[] }:aN).asks m.dst):=by
     unfold aN.b_;simp[e]
    rw[hon];have hol:(cu aK.ah [m0] m).af.length<=5:=by
     rw[we];split
     ·exact wT
     ·have hm0:=(hw.came m0 (by rw[gp];simp)).1
      rcases hm0.af with e2|e2
      ·simp[e2]
      ·have:=e_ e2;simp;omega
    exact eN.turn 2 (by omega) _ _ rfl rfl (k3.trans (qb.trans h.begun)) (by show bh.ak _ _=_;unfold bh.ak;simp only;rw[k3];rw[<- hb, <- nT];rfl) k1 (fun _=>⟨k4.trans (qv.trans hv.1),k5.trans (qm.trans hv.2)⟩) (fun e2=>by omega) (fun e2=>by omega) (by simp) (by show (q.gq m).af.length<=5;rw[k5,qm];exact h.lf) (by show (q.gq m).log.length<=24;rw[k6,ql];exact h.nN)
  ·-- Wq
   have hv:=h.aO (.inr e);have q1:q.doing=2:=by rw[qd,hdo,e];rfl
   have hle:q.learn m={ q with log:=m.log }:=by unfold bh.learn;rw[if_neg (by rw[q1];decide),if_pos q1]
   rw[Ui hf e];rw[hle];have hen:({ q with log:=m.log }:bh).enough=true:=by unfold bh.enough;rw[if_pos q1]
   rw[if_pos hen];have hgo:({ q with log:=m.log }:bh).fN m.dst=({ q with log:=m.log }:bh).dQ m.dst 3 [100,101,102]:=by unfold bh.fN;rw[if_neg (by rw[q1];decide),if_pos q1]
   have hon:({ s with log:=m.log }:aN).b_ m.dst=({ s with log:=m.log,does:=3,came:=[] },({ s with log:=m.log,does:=3,came:=[] }:aN).asks m.dst):=by
    unfold aN.b_;simp[e]
   rw[hgo,hon];exact eN.turn 3 (by omega) { s with log:=m.log,does:=3,came:=[] } { q with log:=m.log } rfl rfl (qb.trans h.begun) (nT.trans hb) (qe.trans (h.ah (by omega))) (fun _=>⟨qv.trans hv.1,qm.trans hv.2⟩) (fun _=>rfl) (fun e2=>by omega) (by simp;rw[qo];exact h.mZ) (by simp;rw[qm];exact h.lf) hm.log.1
  ·-- Wk
   have hall:s.all=[100,101,102]:=vY (by omega)
   have h3:=h.three e;have q1:q.doing=3:=by rw[qd,hdo,e];rfl
   have hen:(q.learn m).enough=decide ((q.waits.length:Int)<=1):=by
    unfold bh.learn bh.dS;rw[if_neg (by rw[q1];decide),if_neg (by rw[q1];decide),if_pos q1]
    split<;>simp[bh.enough,q1]
   have hle:q.learn m=q.dS m:=by unfold bh.learn;rw[if_neg (by rw[q1];decide),if_neg (by rw[q1];decide),if_pos q1]
   rw[Uj hf e];rw[hen,hle];rw[hall] at hl2;cases gp:s.came with
   | nil =>
    rw[gp] at hl2;simp at hl2;have:¬ (q.waits.length:Int)<=1:=by omega
    have hno:¬ decide ((q.waits.length:Int)<=1)=true:=by simpa using this
    rw[if_neg hno,if_pos rfl];refine⟨?_,rfl⟩
    obtain⟨g1,g2,g3⟩:=h3.1 (.inl gp);have Fg:q.waits=({ s with came:=[m] }:aN).all.filter (fun x => !({ s with came:=[m] }:aN).du x):=by
     rw[hl1,gp];rfl
    have hcnt:q.waits.length+1=({ s with came:=[m] }:aN).all.length:=by
     have:({ s with came:=[m] }:aN).all=s.all:=rfl
     simp[this,hall,hl2]
    by_cases lK : -1<m.aO
    ·have hlr:q.dS m={ q with aO:=m.aO,af:=m.af,log:=m.log }:=by
      unfold bh.dS;rw[if_pos (by rw[qv,g1];exact lK)]
     rw[hlr];refine⟨qb.trans h.begun,by simp[qd,hdo],fun _=>nT.trans hb,Fg,hcnt,fun e2=>by simp at e2;omega,fun _=>qe.trans (h.ah (by omega)),fun e2=>by simp at e2;omega,fun _=>⟨fun e2 => ?_,fun m' r e2 _ => ?_⟩,fun e2=>by simp at e2;omega,by simp;rw[qo];exact h.mZ,wT,hm.log.1⟩
     ·rcases e2 with e2|⟨m',r,e2,e3⟩
      ·cases e2
      ·cases e2;omega
     ·cases e2;exact⟨rfl,rfl,rfl⟩
    ·have hlr:q.dS m=q:=by
      unfold bh.dS;rw[if_neg (by rw[qv,g1];exact lK)]
     rw[hlr];refine⟨qb.trans h.begun,by simp[qd,hdo],fun _=>nT.trans hb,Fg,hcnt,fun e2=>by simp at e2;omega,fun _=>qe.trans (h.ah (by omega)),fun e2=>by simp at e2;omega,fun _=>⟨fun e2=>⟨qv.trans g1,qm.trans g2,ql.trans g3⟩,fun m' r e2 e3 => ?_⟩,fun e2=>by simp at e2;omega,by rw[qo];exact h.mZ,by rw[qm];exact h.lf,by rw[ql];exact h.nN⟩
     cases e2;omega
   | cons m0 r0 =>
    have hr0:r0=[]:=by
     have:=hw.few.1 (by omega)
     rw[gp] at this;simp at this;exact this
    subst hr0;rw[gp] at hl2;simp at hl2;have:(q.waits.length:Int)<=1:=by omega
    have hyes:decide ((q.waits.length:Int)<=1)=true:=by simpa using this
    rw[if_pos hyes,if_neg (List.cons_ne_nil _ _)];have hm0:=(hw.came m0 (by rw[gp];simp)).1
    have k7:(q.dS m).doing=3:=by unfold bh.dS;split<;>exact q1
    have kb:(q.dS m).begun=q.begun:=by unfold bh.dS;split<;>rfl
    have ke:(q.dS m).ah=q.ah:=by unfold bh.dS;split<;>rfl
    have ko:(q.dS m).old=q.old:=by unfold bh.dS;split<;>rfl
    have hgo:(q.dS m).fN m.dst=(q.dS m).dQ m.dst 4 [100,101,102]:=by unfold bh.fN;rw[if_neg (by rw[k7];decide),if_neg (by rw[k7];decide),if_pos k7]
    have ET:(q.dS m).af.length<=5:=by
     unfold bh.dS;split
     ·exact wT
     ·rw[qm];exact h.lf
    have EP:(q.dS m).log.length<=24:=by
     unfold bh.dS;split
     ·exact hm.log.1
     ·rw[ql];exact h.nN
    have Fu:(q.dS m).ak m.dst=s.ak:=by rw[<- hb, <- nT];unfold bh.ak;rw[kb]
    rw[hgo];by_cases hbv:0<=(cu aK.aO [m0] m).aO
    ·have hval:(q.dS m).af=(cu aK.aO [m0] m).af/\(q.dS m).log=(cu aK.aO [m0] m).log:=by
      rw[we] at hbv |-;unfold bh.dS;by_cases hlt:m0.aO<m.aO
      ·rw[if_pos hlt] at hbv |-
       have:q.aO<m.aO:=by
        rw[qv];by_cases h00 : -1<m0.aO
        ·rw[(h3.2 _ _ gp h00).1];exact hlt
        ·rw[(h3.1 (.inr ⟨_,_,gp,by omega⟩)).1];omega
       rw[if_pos this];exact⟨rfl,rfl⟩
      ·rw[if_neg hlt] at hbv |-
       obtain⟨z1,z2,z3⟩:=h3.2 _ _ gp (by omega)
       rw[if_neg (by rw[qv,z1];exact hlt)]
       exact⟨qm.trans z2,ql.trans z3⟩
     rw[if_pos hbv];have hon:({ s with af:=(cu aK.aO [m0] m).af,log:=(cu aK.aO [m0] m).log,came:=[m0] }:aN).b_ m.dst=({ s with af:=(cu aK.aO [m0] m).af,log:=(cu aK.aO [m0] m).log,does:=4,came:=[] },({ s with af:=(cu aK.aO [m0] m).af,log:=(cu aK.aO [m0] m).log,does:=4,came:=[] }:aN).asks m.dst):=by
      unfold aN.b_;simp[e]
     rw[hon];exact eN.turn 4 (by omega) { s with af:=(cu aK.aO [m0] m).af,log:=(cu aK.aO [m0] m).log,does:=4,came:=[] } (q.dS m) rfl rfl (kb.trans (qb.trans h.begun)) Fu (ke.trans (qe.trans (h.ah (by omega)))) (fun e2=>by omega) (fun e2=>by omega) (fun _=>hval) (by rw[ko,qo];exact h.mZ) ET EP
    ·have hval:(q.dS m).af=s.want/\(q.dS m).log=s.log:=by
      rw[we] at hbv;have h00:m0.aO <= -1/\m.aO <= -1:=by
       split at hbv<;>omega
      obtain⟨z1,z2,z3⟩:=h3.1 (.inr ⟨_,_,gp,h00.1⟩);unfold bh.dS;rw[if_neg (by rw[qv,z1];omega)]
      exact⟨qm.trans z2,ql.trans z3⟩
     rw[if_neg hbv];have hon:({ s with af:=s.want,came:=[m0] }:aN).b_ m.dst=({ s with af:=s.want,does:=4,came:=[] },({ s with af:=s.want,does:=4,came:=[] }:aN).asks m.dst):=by
      unfold aN.b_;simp[e]
     rw[hon];exact eN.turn 4 (by omega) { s with af:=s.want,does:=4,came:=[] } (q.dS m) rfl rfl (kb.trans (qb.trans h.begun)) Fu (ke.trans (qe.trans (h.ah (by omega)))) (fun e2=>by omega) (fun e2=>by omega) (fun _=>hval) (by rw[ko,qo];exact h.mZ) ET EP
  ·-- asks for aZ
   have hall:s.all=[100,101,102]:=vY (by omega)
   have q1:q.doing=4:=by rw[qd,hdo,e];rfl
   have h4:=h.last (by omega)
   have hle:q.learn m=q:=by unfold bh.learn;rw[if_neg (by rw[q1];decide),if_neg (by rw[q1];decide),if_neg (by rw[q1];decide)]
   have hen:q.enough=decide ((q.waits.length:Int)<=1):=by unfold bh.enough;rw[if_neg (by rw[q1];decide),if_neg (by rw[q1];decide)]
   rw[Hk hf (.inl e)];rw[hle,hen];rw[hall] at hl2;cases gp:s.came with
   | nil =>
    rw[gp] at hl2;simp at hl2;have:¬ (q.waits.length:Int)<=1:=by omega
    have hno:¬ decide ((q.waits.length:Int)<=1)=true:=by simpa using this
    rw[if_neg hno,if_pos rfl];refine⟨⟨qb.trans h.begun,by simp[qd,hdo],fun _=>nT.trans hb,by rw[hl1,gp];rfl, ?_,fun e2=>by simp at e2;omega,fun _=>qe.trans (h.ah (by omega)),fun e2=>by simp at e2;omega,fun e2=>by simp at e2;omega,fun _=>⟨qm.trans h4.1,ql.trans h4.2⟩,by rw[qo];exact h.mZ,by rw[qm];exact h.lf,by rw[ql];exact h.nN⟩,rfl⟩
    have:({ s with came:=[m] }:aN).all=s.all:=rfl
    simp[this,hall,hl2]
   | cons m0 r0 =>
    rw[gp] at hl2;simp at hl2;have:(q.waits.length:Int)<=1:=by omega
    have hyes:decide ((q.waits.length:Int)<=1)=true:=by simpa using this
    rw[if_pos hyes,if_neg (List.cons_ne_nil _ _)];have hgo:q.fN m.dst=q.dQ m.dst 5 q.af:=by unfold bh.fN;rw[if_neg (by rw[q1];decide),if_neg (by rw[q1];decide),if_neg (by rw[q1];decide),if_pos q1]
    have hon:s.b_ m.dst=({ s with does:=5,came:=[] },({ s with does:=5,came:=[] }:aN).asks m.dst):=by
     unfold aN.b_;simp[e]
    rw[hgo,hon,qm,h4.1];exact eN.turn 5 (by omega) { s with does:=5,came:=[] } q rfl rfl (qb.trans h.begun) (nT.trans hb) (qe.trans (h.ah (by omega))) (fun e2=>by omega) (fun e2=>by omega) (fun _=>⟨qm.trans h4.1,ql.trans h4.2⟩) (by rw[qo];exact h.mZ) (by rw[qm];exact h.lf) (by rw[ql];exact h.nN)
  ·-- Wg
   have hall:s.all=s.af:=by unfold aN.all;split<;>first|rfl|(exfalso;omega)|(exfalso;simp_all)
   have q1:q.doing=5:=by rw[qd,hdo,e];rfl
   have h4:=h.last (by omega)
   have hle:q.learn m=q:=by unfold bh.learn;rw[if_neg (by rw[q1];decide),if_neg (by rw[q1];decide),if_neg (by rw[q1];decide)]
   have hen:q.enough=decide ((q.waits.length:Int)=0):=by unfold bh.enough;rw[if_neg (by rw[q1];decide),if_pos q1]
   rw[Uk hf e];rw[hle,hen];rw[hall] at hl2;simp at hl2;by_cases hlt:s.came.length+1<s.af.length
   ·have hno:¬ decide ((q.waits.length:Int)=0)=true:=by simp only [jt];omega
    rw[if_neg hno,if_pos hlt];refine⟨⟨qb.trans h.begun,by simp[qd,hdo],fun _=>nT.trans hb,by rw[hl1];rfl, ?_,fun e2=>by simp at e2;omega,fun _=>qe.trans (h.ah (by omega)),fun e2=>by simp at e2;omega,fun e2=>by simp at e2;omega,fun _=>⟨qm.trans h4.1,ql.trans h4.2⟩,by rw[qo];exact h.mZ,by rw[qm];exact h.lf,by rw[ql];exact h.nN⟩,rfl⟩
    have:({ s with came:=s.came++[m] }:aN).all=s.all:=rfl
    simp[this,hall,hl2]
   ·have hyes:decide ((q.waits.length:Int)=0)=true:=by simp only [jt];have:=hw.few.2.1 e;omega
    rw[if_pos hyes,if_neg hlt];have hgo:q.fN m.dst=q.dQ m.dst 6 [100,101,102]:=by unfold bh.fN;rw[if_neg (by rw[q1];decide),if_neg (by rw[q1];decide),if_neg (by rw[q1];decide),if_neg (by rw[q1];decide),if_pos q1]
    have hon:s.b_ m.dst=({ s with does:=6,came:=[] },({ s with does:=6,came:=[] }:aN).asks m.dst):=by
     unfold aN.b_;simp[e]
    rw[hgo,hon];exact eN.turn 6 (by omega) { s with does:=6,came:=[] } q rfl rfl (qb.trans h.begun) (nT.trans hb) (qe.trans (h.ah (by omega))) (fun e2=>by omega) (fun e2=>by omega) (fun _=>⟨qm.trans h4.1,ql.trans h4.2⟩) (by rw[qo];exact h.mZ) (by rw[qm];exact h.lf) (by rw[ql];exact h.nN)
  ·-- writes
   have hall:s.all=[100,101,102]:=vY (by omega)
   have q1:q.doing=6:=by rw[qd,hdo,e];rfl
   have h4:=h.last (by omega)
   have hle:q.learn m=q:=by unfold bh.learn;rw[if_neg (by rw[q1];decide),if_neg (by rw[q1];decide),if_neg (by rw[q1];decide)]
   have hen:q.enough=decide ((q.waits.length:Int)<=1):=by unfold bh.enough;rw[if_neg (by rw[q1];decide),if_neg (by rw[q1];decide)]
   rw[Hk hf (.inr e)];rw[hle,hen];rw[hall] at hl2;cases gp:s.came with
   | nil =>
    rw[gp] at hl2;simp at hl2;have:¬ (q.waits.length:Int)<=1:=by omega
    have hno:¬ decide ((q.waits.length:Int)<=1)=true:=by simpa using this
    rw[if_neg hno,if_pos rfl];refine⟨⟨qb.trans h.begun,by simp[qd,hdo],fun _=>nT.trans hb,by rw[hl1,gp];rfl, ?_,fun e2=>by simp at e2;omega,fun _=>qe.trans (h.ah (by omega)),fun e2=>by simp at e2;omega,fun e2=>by simp at e2;omega,fun _=>⟨qm.trans h4.1,ql.trans h4.2⟩,by rw[qo];exact h.mZ,by rw[qm];exact h.lf,by rw[ql];exact h.nN⟩,rfl⟩
    have:({ s with came:=[m] }:aN).all=s.all:=rfl
    simp[this,hall,hl2]
   | cons m0 r0 =>
    rw[gp] at hl2;simp at hl2;have:(q.waits.length:Int)<=1:=by omega
    have hyes:decide ((q.waits.length:Int)<=1)=true:=by simpa using this
    rw[if_pos hyes,if_neg (List.cons_ne_nil _ _)];have hgo:q.fN m.dst=(q.idle,[]):=by unfold bh.fN;rw[if_neg (by rw[q1];decide),if_neg (by rw[q1];decide),if_neg (by rw[q1];decide),if_neg (by rw[q1];decide),if_neg (by rw[q1];decide)]
    have hon:s.b_ m.dst=({ s with does:=0,came:=[] },[]):=by
     unfold aN.b_;simp[e];rfl
    rw[hgo,hon];exact⟨⟨qb.trans h.begun,rfl,fun e2=>absurd rfl e2,rfl,rfl,fun e2=>by simp at e2,fun e2=>by simp at e2,fun e2=>by simp at e2,fun e2=>by simp at e2,fun e2=>by simp at e2,by simp[bh.idle],by simp[bh.idle],by simp[bh.idle]⟩,rfl⟩
 ·have hf':¬ (m.src∈p.waits/\p.mV m.dst m=true):=fun e=>hf ((h.fits hw.does m).1 e)
  have:s.take m=(s,[]):=by unfold aN.take;rw[if_neg hf]
  rw[if_neg hf',this];exact⟨h,rfl⟩
theorem eN.still (own:Int)(up:Bool)(s:aN)(p:bh)(h:p.begun=s.begun):eN own (aN.still up s.begun) p.idle :=
 ⟨h,rfl,fun e=>absurd rfl e,rfl,rfl,fun e=>by simp[aN.still] at e,fun e=>by simp[aN.still] at e,fun e=>by simp[aN.still] at e,fun e=>by simp[aN.still] at e,fun e=>by simp[aN.still] at e,by simp[bh.idle],by simp[bh.idle],by simp[bh.idle]⟩
theorem eN.begin {p:bh}(h:eN own s p)(l:List Int)(hl:dq l n=true)(hn:n<=5) :
  eN own (s.begin own l) ((p.fresh l).dQ own 1 [100,101,102]).1/\((p.fresh l).dQ own 1 [100,101,102]).2=(s.begin own l).asks own:=by
 have hl5:l.length<=5:=by have:=e_ hl;omega
 have key:eN own (s.begin own l) ((p.fresh l).dQ own 1 [100,101,102]).1 :=
  ⟨by show p.begun+1=s.begun+1;rw[h.begun],rfl,fun _=>by show 2*((p.begun+1:Nat):Int)+own-200=2*((s.begun:Int)+1)+(own-200);rw[h.begun];omega,rfl,rfl,fun _=>⟨fun _=>⟨rfl,rfl⟩,fun m r e=>by simp[aN.begin] at e⟩,fun e=>by simp[aN.begin] at e,fun _=>⟨rfl,rfl⟩,fun e=>by simp[aN.begin] at e,fun e=>by simp[aN.begin] at e,by simp[bh.dQ,bh.fresh],hl5,by simp[bh.dQ,bh.fresh]⟩
 exact⟨key,key.asks (by show (1:Nat)<=6;omega)⟩
end Go.Proofs.YtgieeeeeiggoeaaGreat
