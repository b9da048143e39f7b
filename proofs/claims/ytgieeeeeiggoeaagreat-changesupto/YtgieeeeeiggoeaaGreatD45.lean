import Derived.Test.YtgieeeeeiggoeaaGreatD43
set_option maxRecDepth 100000
set_option maxHeartbeats 8000000
namespace Go.Proofs.YtgieeeeeiggoeaaGreat
open Go.RowKit Go.Shelf
open Tryz
def JJ (vs:List iG)(e z:Int)(f:Int->fK)(u:iG):Prop :=
 u.1=e/\u.2.1=f e/\((z = -1/\(∀ t∈vs,t.1≠e)/\u=(e,fK.none,.slice none 0 0,.slice none 0 0))\/∃ j:Nat,z=j/\vs[j]?=some u)
def Cc (w wx:World)(F:Nat->Prop)(b:Nat)(a:Acc)(m:aK)(vm vv:Value)(vs:List iG):Prop :=
 ∃ (u:iG) (bm:aK) (xm xl:Value),a.take m=({ a with aZ:=upd a.aZ u.1 u.2.1 },[bm])/\u.1=m.ah/\eY w wx F b vv a vm vv vs/\wx.heap[w.heap.size+1]?=some (.cells (kh u).toArray 284)/\wx.heap[w.heap.size+2]?=some (.cells (cd (bm,xm,xl)).toArray 134) /\
  (bd wx u.2.2.1 u.2.1.af/\bw wx u.2.2.2 u.2.1.log/\bA (Fi F w) u.2.2.1/\bA (Fi F w) u.2.2.2)/\bd wx xm bm.af/\bw wx xl bm.log
theorem Sr (b:Nat)(vv:Value)(a:Acc)(F:Nat->Prop)(m:aK)(a1:Option Addr)(d1:Nat)(a2:Option Addr)(d2:Nat)(w:World){n:Nat}{E:Int}(h:jy w F b vv a)(hms:bd w (.slice a1 m.af.length d1) m.af)(bR:bw w (.slice a2 m.log.length d2) m.log)(_hF1:bA F (.slice a1 m.af.length d1))(_hF2:bA F (.slice a2 m.log.length d2))(_hA:ns n E a)(hm:cU n E m)(hn:n<=5)(hE:E<=2000) :
  Calls prog 173 #[b,.agg #[m.kind,m.src,m.dst,m.ah,m.ak,m.aO,m.pos,m.value,.slice a1 m.af.length d1,.slice a2 m.log.length d2]] w fun e w'=>nr w F b vv e w' (a.take m):=by
 obtain⟨B,hB,bz,bf⟩:=dk w m (.slice a1 m.af.length d1) (.slice a2 m.log.length d2);obtain⟨vm,vs,hI⟩:=eY.of h;have hrow:=hI.row;obtain⟨av,cv,hvv⟩:=aM hrow;obtain⟨am,cm,dG⟩:=aM hI.own;subst hvv;subst dG;have kU:b<w.heap.size:=(aQ hI.blk);have eb:B.heap.size=w.heap.size+1:=by rw[<- hB];simp
 have hIB:=hI.below bz;have b3:=au hIB.blk 3;have k3:=au bf 3;have k4:=au bf 4;have k0:=au bf 0;have k1:=au bf 1;have k2:=au bf 2;have k8:=au bf 8;have k9:=au bf 9;have hvl:vs.length<=65536:=by
  have:=UP hI.is.1 (fun x hx=>by obtain⟨t,ht,rfl⟩:=List.mem_map.1 hx;exact (hI.ls t ht).2.2.2.2)
  rwa [fF] at this
 have iV:Hid ((Value.slice av vs.length cv).ownBlock≠some (w.heap.size+1)/\(Value.slice av vs.length cv).ownBlock≠some (w.heap.size+2)):=ae ⟨fun e=>by
  have:=(dL.1 (bK hrow e).choose_spec.1).1;omega,fun e=>by
  have:=(dL.1 (bK hrow e).choose_spec.1).1;omega⟩
 have HI:=ae hIB;have HB:=ae (aP bz bf);have jw:Hid (∀ V,Moved w V (fun k=>k=b\/(Value.slice av vs.length cv).ownBlock=some k)->bd V (.slice a1 m.af.length d1) m.af/\bw V (.slice a2 m.log.length d2) m.log):=ae fun V hM=>⟨hM.owns hms fun k hk hS=>hS.elim (fun e=>aY hI.blk hms (by decide) (e ▸ hk)) (fun e=>bM hms hrow (by decide) k hk e),hM.owns bR fun k hk hS=>hS.elim (fun e=>aY hI.blk bR (by decide) (e ▸ hk)) (fun e=>bM bR hrow (by decide) k hk e)⟩
 have hml:m.af.length<=5:=by
  rcases hm.af with e|e
  ·rw[e];simp
  ·have:=e_ e;omega
 have hll:=hm.log.1;have vE:Hid (∀ V,Moved w V (fun k=>k=b\/(Value.slice av vs.length cv).ownBlock=some k)->Calls prog 132 #[.slice a1 m.af.length d1] V fun e w1=>∃ x c,e=.returned (.slice x m.af.length c)/\w1.ownsRow V.heap.size 3 1 (.slice x m.af.length c) m.af.length (aJ m.af)/\ai V w1):=ae fun V hM=>by
  refine (Bw _ m.af V (jw.out V hM).1 (by omega)).mono ?_
  rintro e w1 ⟨v',rfl,h1,h2⟩;obtain⟨x,c,rfl⟩:=aM h1;exact⟨x,c,rfl,h1,h2⟩
 have lW:Hid (∀ V,Moved w V (fun k=>k=b\/(Value.slice av vs.length cv).ownBlock=some k)->Calls prog 208 #[.slice a2 m.log.length d2] V fun e w1=>∃ x c,e=.returned (.slice x m.log.length c)/\w1.ownsRow V.heap.size 42 5 (.slice x m.log.length c) m.log.length (aJ (bk m.log))/\ai V w1):=ae fun V hM=>by
  refine (nh _ m.log V (jw.out V hM).2 (by omega)).mono ?_
  rintro e w1 ⟨v',rfl,h1,h2⟩;obtain⟨x,c,rfl⟩:=aM h1;exact⟨x,c,rfl,h1,h2⟩
 have mixed:prog.follows Departure.mixedOrders=true:=by kernel_rfl
 clear h hI hIB hms bR hrow bf;go_enter func173,ntmps173;go_wp2_with fail;go_loopw [5,6] (fun at_ i wr=>∃ (k:Nat) (z:Int),k<=vs.length/\i=.int .i64 k/\at_=.int .i64 z/\((z = -1/\∀ j t,j<k->vs[j]?=some t->t.1≠m.ah)\/∃ (j:Nat) (t:iG),vs[j]?=some t/\t.1=m.ah/\z=j)/\∃ q,wr=B.drewN q) (fun _ i _=>vs.length-(intOf i).toNat)
 case atStart=>exact⟨0, -1,bl _,rfl,rfl,.inl ⟨rfl,fun j t hj=>by omega⟩,0,rfl⟩
 case round =>
  obtain⟨k,z,hk,rfl,rfl,hat,q,rfl⟩:=hrel;have HA:=ae hat;clear hat;by_cases hlt:k<vs.length
  ·have hk0:(0:Int)<=(k:Int):=by omega
   have hk1:(k:Int)<(vs.length:Int):=by omega
   obtain⟨u,hu⟩:∃ u,vs[k]?=some u:=⟨_,bU hlt⟩;obtain⟨g,cap,hv,hc⟩:=xV HI.out.row hu;cases hv;have c0:B.cell? ⟨g,k*5,none⟩=some (.int .i64 u.1):=hc 0 (by omega)
   have HU:=ae hu;clear hc hu;by_cases he:u.1=m.ah
   ·have rn:(u.1 == m.ah)=true:=by simp[he]
    go_wp2_with fail;go_quiet (fail);go_wp2_with fail;go_roundw
    case rel=>exact⟨k+1,k,by omega,by go_num,rfl,.inr ⟨k,u,HU.out,he,rfl⟩,_,rfl⟩
    case measure=>simp[intOf];omega
   ·have rn:(u.1 == m.ah)=false:=by simp[he]
    go_wp2_with fail;go_quiet (fail);go_wp2_with fail;go_roundw
    case rel =>
     refine⟨k+1,z,by omega,by go_num,rfl, ?_,_,rfl⟩
     rcases HA.out with ⟨h1,h2⟩|h2
     ·refine .inl ⟨h1,fun j t hj ht => ?_⟩
      by_cases hjk:j=k
      ·subst hjk
       rw[HU.out] at ht;injection ht with ht
       rw[<- ht];exact he
      ·exact h2 j t (by omega) ht
     ·exact .inr h2
    case measure=>simp[intOf];omega
  ·obtain⟨u,hsp⟩:∃ u,JJ vs m.ah z a.aZ u:=by
    rcases HA.out with ⟨h1,h2⟩|⟨j,t,h1,h2,h3⟩
    ·have hno:∀ t∈vs,t.1≠m.ah:=fun t ht=>by
      obtain⟨j,hj⟩:=List.getElem?_of_mem ht
      exact h2 j t (by have:=(dI.1 hj).1;omega) hj
     exact⟨_,rfl,(HI.out.is.2.2 _ hno).symm,.inl ⟨h1,hno,rfl⟩⟩
    ·exact⟨t,h2,by rw[<- h2];exact (HI.out.is.2.1 t (dU h1)).symm,.inr ⟨j,h3,h1⟩⟩
   have qf:bd B u.2.2.1 u.2.1.af/\bw B u.2.2.2 u.2.1.log/\bA (Fi F w) u.2.2.1/\bA (Fi F w) u.2.2.2:=by
    rcases hsp.2.2 with ⟨-, -,h3⟩|⟨j, -,h2⟩
    ·rw[h3];exact⟨bd.nil _,bw.nil _,bA.nil _,bA.nil _⟩
    ·have:=HI.out.ls u (dU h2);exact⟨this.1,this.2.1,this.2.2.1,this.2.2.2.1⟩
   have Ji:=ae qf;have oo:=ae hsp;obtain⟨x1,e1,hx1⟩:=aM qf.1;obtain⟨x2,e2,hx2⟩:=aM qf.2.1;have HX:=ae (aP hx1 hx2);clear qf HA hx1 hx2 hsp;go_upto_if 34 with fail
   go_cut [3,5,7] (fun p3 p5 p7 wx=>p3=.pointer (some w.heap.size)/\p5=.int .i64 z/\p7=.pointer (some ⟨w.heap.size+1,0,none⟩)/\∃ q,wx=(B.drewN q).alloc (.cells (kh u).toArray 284))
   case first =>
    rcases oo.out.2.2 with ⟨rfl, -,hu⟩|⟨j,rfl,hj⟩
    ·subst hu
     go_wp2_with fail;go_meet;exact⟨rfl,rfl,rfl,q,rfl⟩
    ·have hj0:(0:Int)<=(j:Int):=by omega
     have hj1:(j:Int)<(vs.length:Int):=by have:=(dI.1 hj).1;omega
     obtain⟨g,cap,hv,hc⟩:=xV HI.out.row hj;cases hv;have zz:∀ o,Below B.heap.size (B.drewN q) ((B.drewN q).alloc o):=fun o=>(ax _ (B.drewN q)).alloc (aG _) o;have y0:=fun o=>aF (zz o) (show (B.drewN q).cell? ⟨g,j*5,none⟩=some (.int .i64 u.1) from hc 0 (by omega))
     have y1:=fun o=>aF (zz o) (show (B.drewN q).cell? ⟨g,j*5+1,none⟩=some (.int .i64 u.2.1.promise) from hc 1 (by omega))
     have y2:=fun o=>aF (zz o) (show (B.drewN q).cell? ⟨g,j*5+2,none⟩=some (.int .i64 u.2.1.ak) from hc 2 (by omega))
     have y3:=fun o=>aF (zz o) (show (B.drewN q).cell? ⟨g,j*5+3,none⟩=some u.2.2.1 from hc 3 (by omega))
     have y4:=fun o=>aF (zz o) (show (B.drewN q).cell? ⟨g,j*5+4,none⟩=some u.2.2.2 from hc 4 (by omega))
     have yb:=fun o=>aF (zz o) (show (B.drewN q).cell? (b,3)=some (.slice (some g) vs.length cv) from b3);rw[HX.out.1] at y3;rw[HX.out.2] at y4;go_wp2_with fail;go_meet;refine⟨rfl,rfl,rfl,q, ?_⟩
     unfold kh;rw[HX.out.1,HX.out.2]
   case rest =>
    obtain⟨rfl,rfl,rfl,q2,rfl⟩:=hcut;obtain⟨X,hX,hbX,zN⟩:=ch (B.drewN q2) (kh u).toArray 284;rw[hX];have lF:ai B X:=(aV (ax _ _) q2).trans hbX;have ud:X.heap.size=w.heap.size+2:=by rw[<- hX];simp[eb]
    clear hX;have e0:=aF lF k0;have qL:=aF lF k1;have e2':=aF lF k2;have e3:=aF lF k3;have e4:=aF lF k4;have e8:=aF lF k8;have e9:=aF lF k9;have og:=ae (HI.out.below lF);clear k0 k1 k2 k3 k4 k8 k9 b3 HI;go_upto_region 11 with fail
    have zz:∀ o,ai X (X.alloc o):=fun o=>(ax _ X).alloc (aG _) o;have hnew:∀ o o2,((X.alloc o).alloc o2).heap[w.heap.size+2+1]?=some o2:=fun o o2=>by rw[<- ud];exact kX X o o2
    have f0:=fun o=>aF (zz o) e0;have f3:=fun o=>aF (zz o) e3;have f4:=fun o=>aF (zz o) e4;have f8:=fun o=>aF (zz o) e8;have f9:=fun o=>aF (zz o) e9;have oz:∀ o,(X.alloc o).heap[b]?=some (.cells #[.bool a.up,a.ah,.slice am a.af.length cm,.slice av vs.length cv] 203):=fun o=>((zz o).block _ (aQ og.out.blk)).trans og.out.blk;have g1:=fun o=>aj (oz o) 1;have g2:=fun o=>aj (oz o) 2;have g3:=fun o=>aj (oz o) 3;have zq:=fun o=>aW (oz o) 1;have pc:=fun o=>aW (oz o) 2;have hn1:¬ b=w.heap.size:=by omega
    have hn2:¬ b=w.heap.size+1:=by omega
    have At:¬ b=w.heap.size+2:=by omega
    clear e0 qL e2' e3 e4 e8 e9;by_cases hk5:m.kind=5
    ·have HT:Hid (a.take m=(a,[{ kind:=6,src:=m.dst,dst:=m.src,ah:=a.ah,ak:=m.ak,af:=a.af }])):=ae (by unfold Acc.take;rw[if_pos hk5])
     have Al:(m.kind == 5)=true:=by simp[hk5]
     clear hk5;go_wp2_with fail;go_ret;rw[HT.out];exact og.out.fin ((zz _).alloc (by simp) _) (a_.one (g:=w.heap.size+2+1) _ (.slice am a.af.length cm) (.slice none 0 0) (hnew _ _) (by omega) (aS og.out.own fun z _ hz=>((zz _).alloc (by simp) _).block z hz) (bw.nil _))
    by_cases kY:m.kind=15
    ·have Al:(m.kind == 5)=false:=by simp[hk5]
     have uu:(m.kind == 9)=false:=by rw[kY];rfl
     have Ak:(m.kind == 11)=false:=by rw[kY];rfl
     have Oc:(m.kind == 15)=true:=by simp[kY]
     have hok:=hm.has (.inr (.inr (.inr (.inl kY))));have h50:=((j0 _ _).1 hok).2.2;have VJ:=e_ hok;by_cases hgt:a.ah<m.ah
     ·have HT:Hid (a.take m=({ a with ah:=m.ah,af:=m.af },[{ kind:=16,src:=m.dst,dst:=m.src,ah:=m.ah }])):=ae (by
       unfold Acc.take;rw[if_neg hk5,if_neg (by omega),if_neg (by omega),if_pos kY,if_pos hgt])
      have hgd:decide (a.ah<m.ah)=true:=eR hgt;have H1:Hid (∀ o q,eY w (((X.alloc o).drewN q).setCell ⟨b,1,none⟩ (.int .i64 m.ah)) F b (.slice av vs.length cv) { a with ah:=m.ah } (.slice am a.af.length cm) (.slice av vs.length cv) vs/\(((X.alloc o).drewN q).setCell ⟨b,1,none⟩ (.int .i64 m.ah)).heap[w.heap.size+2]?=some o/\(((X.alloc o).drewN q).setCell ⟨b,1,none⟩ (.int .i64 m.ah)).heap[w.heap.size]?=some (.cells #[m.kind,m.src,m.dst,m.ah,m.ak,m.aO,m.pos,m.value,.slice a1 m.af.length d1,.slice a2 m.log.length d2] 134)):=ae fun o q=>by
       refine⟨(og.out.below (aV (zz o) q)).BJ m.ah,(cJ _ _ _ _ (by show w.heap.size+2≠b;omega)).trans ?_,(cJ _ _ _ _ (by show w.heap.size≠b;omega)).trans (((zz o).block _ (by omega)).trans ((lF.block _ (by omega)).trans HB.out.2))⟩
       rw[<- ud];exact hnw X o
      have V0:¬ w.heap.size=b:=by omega
      have nJ:¬ w.heap.size+2=b:=by omega
      clear hk5 kY oz;go_wp2_with fail;go_quiet (fail);go_wp2_with fail;refine (vE.out _ (H1.out _ _).1.mv).mono ?_
      rintro e W1 ⟨x5,c5,rfl,o5,hb5⟩;obtain⟨I1,K1,M1⟩:=H1.out _ _;have I2:=I1.below hb5;have K2:=(hb5.block _ (aQ K1)).trans K1;have r2:=aj I2.blk 2;have Wo:=aW I2.blk 2;have kc:=fun j=>aj K2 j;have kf:=fun j=>aW K2 j;have HW:=ae (aP I2 (aP K2 o5));have hsw:w.heap.size+2<W1.heap.size:=(aQ K2);have s5:=I1.mv.size;clear I1 K1 M1 I2 K2 o5 hb5 g1 g2 g3 zq pc f0 f3 f4 f8 f9 H1;go_wp2_with fail;go_ret;rw[HT.out];obtain⟨I2,K2,o5⟩:=HW.out;have o6:=obs o5 (bl _);have MX:bA (Fi F w) (.slice x5 m.af.length c5):=fun k hk=>.inr (by have:=(o5.lt k hk).1;omega)
      have J1:=I2.xK o6 MX;have K3:=(cJ W1 ⟨b,2,none⟩ (.slice x5 m.af.length c5) (w.heap.size+2) (by show w.heap.size+2≠b;omega)).trans K2
      have J2:=J1.other (j:=0) K3 (by decide) (by omega) iV.out.2 (.int .i64 16)
      have K4:=bV _ _ 0 _ _ (.int .i64 16) K3;have J3:=J2.other (j:=4) K4 (by decide) (by omega) iV.out.2 (.int .i64 0)
      refine J3.fin ((ax _ _).alloc (aG _) _) (a_.one (g:=W1.heap.size) _ (.slice none 0 0) (.slice none 0 0) ?_ (by omega) (bd.nil _) (bw.nil _))
      have hnw:=hnw (((W1.setCell ⟨b,2,none⟩ (.slice x5 m.af.length c5)).setCell ⟨w.heap.size+2,0,none⟩ (.int .i64 16)).setCell ⟨w.heap.size+2,4,none⟩ (.int .i64 0)) (.cells #[.int .i64 16,m.dst,m.src,m.ah,(),(),(),(),true,true] 134);rw[World.size_setCell,World.size_setCell,World.size_setCell] at hnw;exact hnw
     ·have HT:Hid (a.take m=(a,[{ kind:=16,src:=m.dst,dst:=m.src,ah:=m.ah }])):=ae (by
       unfold Acc.take;rw[if_neg hk5,if_neg (by omega),if_neg (by omega),if_pos kY,if_neg hgt])
      have hgd:decide (a.ah<m.ah)=false:=ee hgt;clear hk5 kY oz;go_wp2_with fail;go_quiet (fail);go_wp2_with fail;go_ret;rw[HT.out];refine og.out.fin ((((aV (zz _) _).setCell (by show X.heap.size<=w.heap.size+2;omega) _).setCell (by show X.heap.size<=w.heap.size+2;omega) _).alloc (by simp) _) (a_.one (g:=w.heap.size+2+1) _ (.slice none 0 0) (.slice none 0 0) ?_ (by omega) (bd.nil _) (bw.nil _))
      have key:∀ (V:World) (o:Obj),V.heap.size=w.heap.size+2+1->(V.alloc o).heap[w.heap.size+2+1]?=some o:=fun V o e=>by rw[<- e];exact hnw V o
      exact key _ _ (by rw[World.size_setCell,World.size_setCell];show (X.alloc _).heap.size=_;rw[eJ,ud])
    by_cases hk:m.kind=9\/m.kind=11
    ·have Al:(m.kind == 5)=false:=by simp[hk5]
     have q_:X.heap[w.heap.size+1]?=some (.cells #[u.1,u.2.1.promise,u.2.1.ak,.slice x1 u.2.1.af.length e1,.slice x2 u.2.1.log.length e2] 284):=by
      rw[<- HX.out.1, <- HX.out.2, <- eb];exact zN
     have oD:=fun o=>((zz o).block _ (by omega)).trans q_
     have v1:=fun o=>aj (oD o) 1;have Hu:=fun o=>aW (oD o) 1;have hu:=oo.out.2.1;by_cases hlt2:m.ak<u.2.1.promise
     ·have HT:Hid (a.take m=(a,[])):=ae (by
       unfold Acc.take;rw[if_neg hk5];rw[hu] at hlt2;rcases hk with e|e
       ·rw[if_pos e,if_pos hlt2]
       ·rw[if_neg (by omega),if_pos e,if_pos hlt2])
      clear hu oD zN q_ oz;rcases hk with hk|hk
      ·have uu:(m.kind == 9)=true:=by simp[hk]
       clear hk hk5 kY;go_wp2_with fail;go_ret;rw[HT.out];exact og.out.fin (zz _) (a_.nil _ _)
      ·have uu:(m.kind == 9)=false:=by simp[hk]
       have Ak:(m.kind == 11)=true:=by simp[hk]
       clear hk hk5 kY;go_wp2_with fail;go_ret;rw[HT.out];exact og.out.fin (zz _) (a_.nil _ _)
     have hvv:(Value.slice av vs.length cv).ownBlock≠some (w.heap.size+1):=iV.out.1;obtain⟨X1,hX1⟩:∃ X1,X.setCell ⟨w.heap.size+1,1,none⟩ (.int .i64 m.ak)=X1:=⟨_,rfl⟩;have hI1:eY w X1 F b (.slice av vs.length cv) a (.slice am a.af.length cm) (.slice av vs.length cv) vs:=by
      rw[<- hX1];exact og.out.other q_ (by decide) (by omega) hvv _
     have hV1:X1.heap[w.heap.size+1]?=some (.cells #[u.1,m.ak,u.2.1.ak,.slice x1 u.2.1.af.length e1,.slice x2 u.2.1.log.length e2] 284):=by
      rw[<- hX1];exact bV _ _ _ _ _ _ q_
     have hM1:X1.heap[w.heap.size]?=some (.cells #[m.kind,m.src,m.dst,m.ah,m.ak,m.aO,m.pos,m.value,.slice a1 m.af.length d1,.slice a2 m.log.length d2] 134):=by
      rw[<- hX1];exact (cJ _ _ _ _ (by show w.heap.size≠w.heap.size+1;omega)).trans ((lF.block _ (by omega)).trans HB.out.2)
     have hs1:X1.heap.size=w.heap.size+2:=by rw[<- hX1];simpa using ud
     have pA:∀ o,ai X1 (X1.alloc o):=fun o=>(ax _ X1).alloc (aG _) o;have hm1:=fun o=>((pA o).block _ (by omega)).trans hM1
     have hv1:=fun o=>((pA o).block _ (by omega)).trans hV1
     have p0:=fun o=>aj (hm1 o) 0;have p4:=fun o=>aj (hm1 o) 4;have p8:=fun o=>aj (hm1 o) 8;have q1:=fun o=>aj (hv1 o) 1;have q2':=fun o=>aj (hv1 o) 2;have q3:=fun o=>aj (hv1 o) 3;have q4:=fun o=>aj (hv1 o) 4;have Gw:=fun o=>aW (hv1 o) 2;have H1:=ae (aP hI1 (aP hV1 hM1));have yB:Hid (∀ V,ai X1 V->bd V (.slice x1 u.2.1.af.length e1) u.2.1.af/\bw V (.slice x2 u.2.1.log.length e2) u.2.1.log/\bA (Fi F w) (.slice x1 u.2.1.af.length e1)/\bA (Fi F w) (.slice x2 u.2.1.log.length e2)):=ae fun V hb=>by
      obtain⟨j1,j2,j3,j4⟩:=Ji.out;rw[HX.out.1] at j1 j3;rw[HX.out.2] at j2 j4;have i1:=aS j1 (w':=X) fun z _ hz=>lF.block z hz;have i2:=aS j2 (w':=X) fun z _ hz=>lF.block z hz;have k1:=bu (a:=⟨w.heap.size+1,1,none⟩) i1 (aY q_ i1 (by decide)) (.int .i64 m.ak)
      have k2:=bu (a:=⟨w.heap.size+1,1,none⟩) i2 (aY q_ i2 (by decide)) (.int .i64 m.ak)
      rw[hX1] at k1 k2;exact⟨aS k1 fun z _ hz=>hb.block z hz,aS k2 fun z _ hz=>hb.block z hz,j3,j4⟩
     have HU:=ae hu;have HN:=ae hlt2;have hnl:¬ m.ak<u.2.1.promise:=hlt2;clear hI1 hV1 hM1 hm1 hv1 oD zN q_ oz hu hlt2;rcases hk with hk|hk
     ·have uu:(m.kind == 9)=true:=by simp[hk]
      have HT:Hid (a.take m=({ a with aZ:=upd a.aZ m.ah { a.aZ m.ah with promise:=m.ak } },[{ kind:=10,src:=m.dst,dst:=m.src,ah:=m.ah,ak:=m.ak,aO:=(a.aZ m.ah).ak,af:=(a.aZ m.ah).af,log:=(a.aZ m.ah).log }])):=ae (by
       unfold Acc.take;rw[if_neg hk5,if_pos hk,if_neg (by rw[<- HU.out];exact hnl)])
      clear hk hk5 kY;go_upto_if 80 with fail
      go_cut [3,5,7,8] (fun p3 p5 p7 p8 wx=>p3=.pointer (some w.heap.size)/\p5=.int .i64 z/\p7=.pointer (some ⟨w.heap.size+1,0,none⟩)/\p8=.pointer (some ⟨w.heap.size+2,0,none⟩)/\Cc w wx F b a m (.slice am a.af.length cm) (.slice av vs.length cv) vs)
      case first =>
       go_wp2_with fail;go_meet;refine⟨rfl,rfl,rfl,rfl,(u.1, { u.2.1 with promise:=m.ak },.slice x1 u.2.1.af.length e1,.slice x2 u.2.1.log.length e2), { kind:=10,src:=m.dst,dst:=m.src,ah:=m.ah,ak:=m.ak,aO:=u.2.1.ak,af:=u.2.1.af,log:=u.2.1.log },.slice x1 u.2.1.af.length e1,.slice x2 u.2.1.log.length e2, ?_,oo.out.1,H1.out.1.below (pA _), ?_, ?_, ?_, ?_, ?_⟩
       ·rw[HT.out, <- HU.out,oo.out.1]
       ·exact ((pA _).block _ (by omega)).trans H1.out.2.1
       ·rw[<- hs1]
        exact hnw X1 _
       ·exact yB.out _ (pA _)
       ·exact (yB.out _ (pA _)).1
       ·exact (yB.out _ (pA _)).2.1
      case rest =>
       obtain⟨rfl,rfl,rfl,rfl,⟨ue,uv,w1,w2⟩,bm,xm,xl,ht,hue,hI,hV,hK,hL,hi1,hi2⟩:=hcut;simp only at hue hL ht;subst hue;obtain⟨y1,z1,hy1⟩:=aM hL.1;obtain⟨y2,z2,hy2⟩:=aM hL.2.1;obtain⟨y3,z3,hy3⟩:=aM hi1;obtain⟨y4,z4,hy4⟩:=aM hi2;subst hy1;subst hy2;subst hy3;subst hy4;have HT2:=ae ht;have i3:=aj hI.blk 3;have zr:=aW hI.blk 3;have dZ:=au hV 0;have UK:=au hV 1;have UL:=au hV 2;have UM:=au hV 3;have UN:=au hV 4;have Pq:=au hK 0;have Ps:=au hK 1;have Pt:=au hK 2;have Pu:=au hK 3;have Pv:=au hK 4;have Pw:=au hK 5;have Px:=au hK 6;have Py:=au hK 7;have Pz:=au hK 8;have PA:=au hK 9;have HM:=ae (aP hI (aP hV (aP hK (aP hL (aP hi1 hi2)))));clear ht q1 q2' q3 q4 Gw p0 p4 p8 f0 f3 f4 f8 f9 g1 g2 g3 zq pc v1 Hu hnew zz pA hX1 hB hbX lF bz;rcases oo.out.2.2 with ⟨hz,hno, -⟩|⟨j,hz,hj⟩
       ·subst hz
        obtain⟨V,dO⟩:∃ V,V=(wc.alloc (.cells #[m.ah,uv.promise,uv.ak,.slice y1 uv.af.length z1,.slice y2 uv.log.length z2] 284)).drew:=⟨_,rfl⟩;have zw:∀ o,ai wc (wc.alloc o):=fun o=>(ax _ wc).alloc (aG _) o;have bF:ai wc V:=by rw[dO];exact (zw _).drew
        have ph:=hm.ah;obtain⟨g',cap',W1,hrun,hb1,hI1,bI⟩:=(hI.below bF).CT (g:=wc.heap.size) (u:=(m.ah,uv,.slice y1 uv.af.length z1,.slice y2 uv.log.length z2)) (by rw[dO];exact hnw _ _) hno ⟨by omega,by omega⟩ (aS hL.1 fun z _ hz=>bF.block z hz) (aS hL.2.1 fun z _ hz=>bF.block z hz) hL.2.2.1 hL.2.2.2 hvl
        have rS:=(hI.below bF).row;have r1:=bI.owns (aS hi1 fun z _ hz=>bF.block z hz) (fun k hk hS=>bM (aS hi1 fun z _ hz=>bF.block z hz) rS (by decide) k hk hS)
        have r2:=bI.owns (aS hi2 fun z _ hz=>bF.block z hz) (fun k hk hS=>bM (aS hi2 fun z _ hz=>bF.block z hz) rS (by decide) k hk hS)
        have r3:=bu (a:=⟨b,3,none⟩) r1 (aY hb1 r1 (by decide)) (.slice (some g') (vs.length+1) cap')
        have r4:=bu (a:=⟨b,3,none⟩) r2 (aY hb1 r2 (by decide)) (.slice (some g') (vs.length+1) cap')
        have K4:=(bI.block _ (j5 (aQ hK) bF.size) iV.out.2).trans ((bF.block _ (aQ hK)).trans hK);have K6:=(cJ W1 ⟨b,3,none⟩ (.slice (some g') (vs.length+1) cap') (w.heap.size+2) (by show w.heap.size+2≠b;omega)).trans K4
        have d3:=aj hb1 3;have e3:=aW hb1 3;have w3:=fun o=>aF (zw o) i3;have HR:=ae hrun;rw[dO] at HR;obtain⟨W6,iK⟩:∃ W6,W1.setCell ⟨b,3,none⟩ (.slice (some g') (vs.length+1) cap')=W6:=⟨_,rfl⟩;have s6:=hI1.mv.size;simp only at hI1;rw[iK] at r3 r4 K6 hI1 s6;have QQ:=au K6 0;have QR:=au K6 1;have QS:=au K6 2;have QT:=au K6 3;have QU:=au K6 4;have QV:=au K6 5;have QW:=au K6 6;have QX:=au K6 7;have QY:=au K6 8;have QZ:=au K6 9;have H6:=ae (aP hI1 (aP r3 r4));clear hrun hI1 bI rS r1 r2 r3 r4 K4 K6 hb1 hI hV hK hL hi1 hi2 dO bF ph;go_upto_region 33 with fail
        go_region_law (first|(refine jq rfl (.tmp 115) (.tmp 117) 201 rfl _ _ _ _ (by simp[Act.eval]) (by simp[Act.eval]) HR.out ?_))
        all_goals (
         go_wp2_with fail;go_ret;rw[HT2.out];exact H6.out.1.fin ((ax _ W6).alloc (aG _) _) (a_.one (g:=W6.heap.size) _ (.slice y3 bm.af.length z3) (.slice y4 bm.log.length z4) (hnw W6 _) (by omega) (aS H6.out.2.1 fun z _ hz=>((ax _ W6).alloc (aG _) _).block z hz) (aS H6.out.2.2 fun z _ hz=>((ax _ W6).alloc (aG _) _).block z hz)))
       ·subst hz
        have hj0:(0:Int)<=(j:Int):=by omega
        have hj1:(j:Int)<(vs.length:Int):=by have:=(dI.1 hj).1;omega
        obtain⟨g,cap,hv,hc⟩:=xV hI.row hj;cases hv;have c0:wc.cell? ⟨g,j*5,none⟩=some (.int .i64 u.1):=hc 0 (by omega)
        have c1:wc.cell? ⟨g,j*5+1,none⟩=some (.int .i64 u.2.1.promise):=hc 1 (by omega)
        have c2:wc.cell? ⟨g,j*5+2,none⟩=some (.int .i64 u.2.1.ak):=hc 2 (by omega)
        have c3:wc.cell? ⟨g,j*5+3,none⟩=some u.2.2.1:=hc 3 (by omega)
        have c4:wc.cell? ⟨g,j*5+4,none⟩=some u.2.2.2:=hc 4 (by omega)
        have hgb:=(bK hI.row (by rfl)).choose_spec.1
        have MN:=aW hgb (j*5);have MO:=aW hgb (j*5+1);have MP:=aW hgb (j*5+2);have MQ:=aW hgb (j*5+3);have MR:=aW hgb (j*5+4);have HJ:=ae hj;clear hc hI hV hK hL hi1 hi2 hgb hj;go_upto_region 32 with fail
        obtain⟨W5,rb⟩:∃ W5,(((((wc.setCell ⟨g,j*5,none⟩ (.int .i64 m.ah)).setCell ⟨g,j*5+1,none⟩ (.int .i64 uv.promise)).setCell ⟨g,j*5+2,none⟩ (.int .i64 uv.ak)).setCell ⟨g,j*5+3,none⟩ (.slice y1 uv.af.length z1)).setCell ⟨g,j*5+4,none⟩ (.slice y2 uv.log.length z2))=W5:=⟨_,rfl⟩;obtain⟨hI,hV,hK,hL,hi1,hi2⟩:=HM.out;have J5:=hI.G_ (u:=(m.ah,uv,.slice y1 uv.af.length z1,.slice y2 uv.log.length z2)) HJ.out oo.out.1.symm hL.1 hL.2.1 hL.2.2.1 hL.2.2.2;have r1:=xJ (j:=j) (c0:=.int .i64 m.ah) (c1:=.int .i64 uv.promise) (c2:=.int .i64 uv.ak) (c3:=.slice y1 uv.af.length z1) (c4:=.slice y2 uv.log.length z2) hI.row hi1 (by decide)
        have r2:=xJ (j:=j) (c0:=.int .i64 m.ah) (c1:=.int .i64 uv.promise) (c2:=.int .i64 uv.ak) (c3:=.slice y1 uv.af.length z1) (c4:=.slice y2 uv.log.length z2) hI.row hi2 (by decide)
        have nH:w.heap.size+2≠g:=fun e=>iV.out.2 (by rw[e];rfl)
        have K5:=(cJ _ ⟨g,j*5+4,none⟩ (.slice y2 uv.log.length z2) _ nH).trans ((cJ _ ⟨g,j*5+3,none⟩ (.slice y1 uv.af.length z1) _ nH).trans ((cJ _ ⟨g,j*5+2,none⟩ (.int .i64 uv.ak) _ nH).trans ((cJ _ ⟨g,j*5+1,none⟩ (.int .i64 uv.promise) _ nH).trans ((cJ _ ⟨g,j*5,none⟩ (.int .i64 m.ah) _ nH).trans hK))));have s5:W5.heap.size=wc.heap.size:=by rw[<- rb];simp
        have s6:=hI.mv.size;rw[rb] at r1 r2 K5;simp only at J5;rw[rb] at J5;have PV:=au K5 0;have PW:=au K5 1;have PX:=au K5 2;have PY:=au K5 3;have PZ:=au K5 4;have P4:=au K5 5;have P6:=au K5 6;have P8:=au K5 7;have P_:=au K5 8;have Qa:=au K5 9;have H5:=ae (aP J5 (aP r1 r2));clear J5 r1 r2 K5 hI hV hK hL hi1 hi2;go_region;go_wp2_with fail;go_ret;rw[HT2.out];exact H5.out.1.fin (((ax _ W5).alloc (aG _) _).drew) (a_.one (g:=wc.heap.size) _ (.slice y3 bm.af.length z3) (.slice y4 bm.log.length z4) (by rw[<- s5];exact hnw W5 _) (by omega) (aS H5.out.2.1 fun z _ hz=>(((ax _ W5).alloc (aG _) _).drew).block z hz) (aS H5.out.2.2 fun z _ hz=>(((ax _ W5).alloc (aG _) _).drew).block z hz))
     ·have uu:(m.kind == 9)=false:=by simp[hk]
      have Ak:(m.kind == 11)=true:=by simp[hk]
      have HT:Hid (a.take m=({ a with aZ:=upd a.aZ m.ah ⟨m.ak,m.ak,m.af,m.log⟩ },[{ kind:=12,src:=m.dst,dst:=m.src,ah:=m.ah,ak:=m.ak }])):=ae (by
       unfold Acc.take;rw[if_neg hk5,if_neg (by omega),if_pos hk,if_neg (by rw[<- HU.out];exact hnl)])
      obtain⟨X2,hX2⟩:∃ X2,X1.setCell ⟨w.heap.size+1,2,none⟩ (.int .i64 m.ak)=X2:=⟨_,rfl⟩;have hI2:eY w X2 F b (.slice av vs.length cv) a (.slice am a.af.length cm) (.slice av vs.length cv) vs:=by
       rw[<- hX2];exact H1.out.1.other H1.out.2.1 (by decide) (by omega) hvv _
      have hV2:X2.heap[w.heap.size+1]?=some (.cells #[u.1,m.ak,m.ak,.slice x1 u.2.1.af.length e1,.slice x2 u.2.1.log.length e2] 284):=by
       rw[<- hX2];exact bV _ _ _ _ _ _ H1.out.2.1
      have hM2:X2.heap[w.heap.size]?=some (.cells #[m.kind,m.src,m.dst,m.ah,m.ak,m.aO,m.pos,m.value,.slice a1 m.af.length d1,.slice a2 m.log.length d2] 134):=by
       rw[<- hX2];exact (cJ _ _ _ _ (by show w.heap.size≠w.heap.size+1;omega)).trans H1.out.2.2
      have hs2:X2.heap.size=w.heap.size+2:=by rw[<- hX2];simpa using hs1
      have tg:∀ o,ai X2 (X2.alloc o):=fun o=>(ax _ X2).alloc (aG _) o;have u8:=fun o=>aj (((tg o).block _ (by omega)).trans hM2) 8
      have H2:=ae (aP hI2 (aP hV2 hM2));clear hk hk5 kY hI2 hV2 hM2;go_upto_if 80 with fail
      go_cut [3,5,7,8] (fun p3 p5 p7 p8 wx=>p3=.pointer (some w.heap.size)/\p5=.int .i64 z/\p7=.pointer (some ⟨w.heap.size+1,0,none⟩)/\p8=.pointer (some ⟨w.heap.size+2,0,none⟩)/\Cc w wx F b a m (.slice am a.af.length cm) (.slice av vs.length cv) vs)
      case first =>
       go_wp2_with fail;refine (vE.out _ (H2.out.1.below (tg _)).mv).mono ?_
       rintro e W3 ⟨x5,c5,rfl,o5,hb5⟩;have I3:=(H2.out.1.below (tg _)).below hb5;have hnw:∀ o,(X2.alloc o).heap[w.heap.size+2]?=some o:=fun o=>by rw[<- hs2];exact hnw X2 o
       have K3:=(hb5.block (w.heap.size+2) (by rw[eJ];omega)).trans (hnw _)
       have V3:=(hb5.block (w.heap.size+1) (by rw[eJ];omega)).trans (((tg _).block _ (by omega)).trans H2.out.2.1)
       have M3:=(hb5.block w.heap.size (by rw[eJ];omega)).trans (((tg _).block _ (by omega)).trans H2.out.2.2)
       have s3:=hb5.size;rw[eJ] at s3;have n3:=aj V3 3;have Wh:=aW V3 3;have n9:=aj M3 9;have I4:=I3.other (j:=3) V3 (by decide) (by omega) hvv (.slice x5 m.af.length c5)
       have V4:=bV _ _ 3 _ _ (.slice x5 m.af.length c5) V3;have K4:=(cJ W3 ⟨w.heap.size+1,3,none⟩ (.slice x5 m.af.length c5) (w.heap.size+2) (by show w.heap.size+2≠w.heap.size+1;omega)).trans K3
       have o6:=bu (a:=⟨w.heap.size+1,3,none⟩) o5 (aY V3 o5 (by decide)) (.slice x5 m.af.length c5)
       have H4:=ae (aP I4 (aP V4 (aP K4 o6)));clear I3 K3 V3 M3 o5 hb5 I4 V4 K4 o6 hnw;go_wp2_with fail;refine (lW.out _ H4.out.1.mv).mono ?_
       rintro e W5 ⟨x7,c7,rfl,o7,i7⟩;obtain⟨I4,V4,K4,o6⟩:=H4.out;have I5:=I4.below i7;have V5:=(i7.block _ (aQ V4)).trans V4;have K5:=(i7.block _ (aQ K4)).trans K4;have o8:=aS o6 fun z _ hz=>i7.block z hz;have s7:=i7.size;rw[World.size_setCell] at s7;have n4:=aj V5 4;have Wi:=aW V5 4;have I6:=I5.other (j:=4) V5 (by decide) (by omega) hvv (.slice x7 m.log.length c7)
       have V6:=bV _ _ 4 _ _ (.slice x7 m.log.length c7) V5;have K6:=(cJ W5 ⟨w.heap.size+1,4,none⟩ (.slice x7 m.log.length c7) (w.heap.size+2) (by show w.heap.size+2≠w.heap.size+1;omega)).trans K5
       have o9:=bu (a:=⟨w.heap.size+1,4,none⟩) o8 (aY V5 o8 (by decide)) (.slice x7 m.log.length c7)
       have uU:=bu (a:=⟨w.heap.size+1,4,none⟩) o7 (aY V5 o7 (by decide)) (.slice x7 m.log.length c7)
       have H6:=ae (aP I6 (aP V6 (aP K6 (aP o9 uU))));clear I4 V4 K4 o6 I5 V5 K5 o8 I6 V6 K6 o9 uU o7 i7 H4;go_wp2_with fail;go_meet;obtain⟨I6,V6,K6,o9,uU⟩:=H6.out;refine⟨rfl,rfl,rfl,rfl,(u.1,⟨m.ak,m.ak,m.af,m.log⟩,.slice x5 m.af.length c5,.slice x7 m.log.length c7), { kind:=12,src:=m.dst,dst:=m.src,ah:=m.ah,ak:=m.ak },.slice none 0 0,.slice none 0 0, ?_,oo.out.1,I6,V6,K6,⟨obs o9 (bl _),obs uU (bl _),fun k hk=>.inr ?_,fun k hk=>.inr ?_⟩,bd.nil _,bw.nil _⟩
       ·rw[HT.out,oo.out.1]
       ·have:=(o9.lt k hk).1
        rw[eJ] at this;omega
       ·have:=(uU.lt k hk).1
        rw[World.size_setCell] at this;omega
      case rest =>
       obtain⟨rfl,rfl,rfl,rfl,⟨ue,uv,w1,w2⟩,bm,xm,xl,ht,hue,hI,hV,hK,hL,hi1,hi2⟩:=hcut;simp only at hue hL ht;subst hue;obtain⟨y1,z1,hy1⟩:=aM hL.1;obtain⟨y2,z2,hy2⟩:=aM hL.2.1;obtain⟨y3,z3,hy3⟩:=aM hi1;obtain⟨y4,z4,hy4⟩:=aM hi2;subst hy1;subst hy2;subst hy3;subst hy4;have HT2:=ae ht;have i3:=aj hI.blk 3;have zr:=aW hI.blk 3;have dZ:=au hV 0;have UK:=au hV 1;have UL:=au hV 2;have UM:=au hV 3;have UN:=au hV 4;have Pq:=au hK 0;have Ps:=au hK 1;have Pt:=au hK 2;have Pu:=au hK 3;have Pv:=au hK 4;have Pw:=au hK 5;have Px:=au hK 6;have Py:=au hK 7;have Pz:=au hK 8;have PA:=au hK 9;have HM:=ae (aP hI (aP hV (aP hK (aP hL (aP hi1 hi2)))));clear ht q1 q2' q3 q4 Gw p0 p4 p8 u8 tg hX2 H2 f0 f3 f4 f8 f9 g1 g2 g3 zq pc v1 Hu hnew zz pA hX1 hB hbX lF bz;rcases oo.out.2.2 with ⟨hz,hno, -⟩|⟨j,hz,hj⟩
       ·subst hz
        obtain⟨V,dO⟩:∃ V,V=(wc.alloc (.cells #[m.ah,uv.promise,uv.ak,.slice y1 uv.af.length z1,.slice y2 uv.log.length z2] 284)).drew:=⟨_,rfl⟩;have zw:∀ o,ai wc (wc.alloc o):=fun o=>(ax _ wc).alloc (aG _) o;have bF:ai wc V:=by rw[dO];exact (zw _).drew
        have ph:=hm.ah;obtain⟨g',cap',W1,hrun,hb1,hI1,bI⟩:=(hI.below bF).CT (g:=wc.heap.size) (u:=(m.ah,uv,.slice y1 uv.af.length z1,.slice y2 uv.log.length z2)) (by rw[dO];exact hnw _ _) hno ⟨by omega,by omega⟩ (aS hL.1 fun z _ hz=>bF.block z hz) (aS hL.2.1 fun z _ hz=>bF.block z hz) hL.2.2.1 hL.2.2.2 hvl
        have rS:=(hI.below bF).row;have r1:=bI.owns (aS hi1 fun z _ hz=>bF.block z hz) (fun k hk hS=>bM (aS hi1 fun z _ hz=>bF.block z hz) rS (by decide) k hk hS)
        have r2:=bI.owns (aS hi2 fun z _ hz=>bF.block z hz) (fun k hk hS=>bM (aS hi2 fun z _ hz=>bF.block z hz) rS (by decide) k hk hS)
        have r3:=bu (a:=⟨b,3,none⟩) r1 (aY hb1 r1 (by decide)) (.slice (some g') (vs.length+1) cap')
        have r4:=bu (a:=⟨b,3,none⟩) r2 (aY hb1 r2 (by decide)) (.slice (some g') (vs.length+1) cap')
        have K4:=(bI.block _ (j5 (aQ hK) bF.size) iV.out.2).trans ((bF.block _ (aQ hK)).trans hK);have K6:=(cJ W1 ⟨b,3,none⟩ (.slice (some g') (vs.length+1) cap') (w.heap.size+2) (by show w.heap.size+2≠b;omega)).trans K4
        have d3:=aj hb1 3;have e3:=aW hb1 3;have w3:=fun o=>aF (zw o) i3;have HR:=ae hrun;rw[dO] at HR;obtain⟨W6,iK⟩:∃ W6,W1.setCell ⟨b,3,none⟩ (.slice (some g') (vs.length+1) cap')=W6:=⟨_,rfl⟩;have s6:=hI1.mv.size;simp only at hI1;rw[iK] at r3 r4 K6 hI1 s6;have QQ:=au K6 0;have QR:=au K6 1;have QS:=au K6 2;have QT:=au K6 3;have QU:=au K6 4;have QV:=au K6 5;have QW:=au K6 6;have QX:=au K6 7;have QY:=au K6 8;have QZ:=au K6 9;have H6:=ae (aP hI1 (aP r3 r4));clear hrun hI1 bI rS r1 r2 r3 r4 K4 K6 hb1 hI hV hK hL hi1 hi2 dO bF ph;go_upto_region 33 with fail
        go_region_law (first|(refine jq rfl (.tmp 115) (.tmp 117) 201 rfl _ _ _ _ (by simp[Act.eval]) (by simp[Act.eval]) HR.out ?_))
        all_goals (
         go_wp2_with fail;go_ret;rw[HT2.out];exact H6.out.1.fin ((ax _ W6).alloc (aG _) _) (a_.one (g:=W6.heap.size) _ (.slice y3 bm.af.length z3) (.slice y4 bm.log.length z4) (hnw W6 _) (by omega) (aS H6.out.2.1 fun z _ hz=>((ax _ W6).alloc (aG _) _).block z hz) (aS H6.out.2.2 fun z _ hz=>((ax _ W6).alloc (aG _) _).block z hz)))
       ·subst hz
        have hj0:(0:Int)<=(j:Int):=by omega
        have hj1:(j:Int)<(vs.length:Int):=by have:=(dI.1 hj).1;omega
        obtain⟨g,cap,hv,hc⟩:=xV hI.row hj;cases hv;have c0:wc.cell? ⟨g,j*5,none⟩=some (.int .i64 u.1):=hc 0 (by omega)
        have c1:wc.cell? ⟨g,j*5+1,none⟩=some (.int .i64 u.2.1.promise):=hc 1 (by omega)
        have c2:wc.cell? ⟨g,j*5+2,none⟩=some (.int .i64 u.2.1.ak):=hc 2 (by omega)
        have c3:wc.cell? ⟨g,j*5+3,none⟩=some u.2.2.1:=hc 3 (by omega)
        have c4:wc.cell? ⟨g,j*5+4,none⟩=some u.2.2.2:=hc 4 (by omega)
        have hgb:=(bK hI.row (by rfl)).choose_spec.1
        have MN:=aW hgb (j*5);have MO:=aW hgb (j*5+1);have MP:=aW hgb (j*5+2);have MQ:=aW hgb (j*5+3);have MR:=aW hgb (j*5+4);have HJ:=ae hj;clear hc hI hV hK hL hi1 hi2 hgb hj;go_upto_region 32 with fail
        obtain⟨W5,rb⟩:∃ W5,(((((wc.setCell ⟨g,j*5,none⟩ (.int .i64 m.ah)).setCell ⟨g,j*5+1,none⟩ (.int .i64 uv.promise)).setCell ⟨g,j*5+2,none⟩ (.int .i64 uv.ak)).setCell ⟨g,j*5+3,none⟩ (.slice y1 uv.af.length z1)).setCell ⟨g,j*5+4,none⟩ (.slice y2 uv.log.length z2))=W5:=⟨_,rfl⟩;obtain⟨hI,hV,hK,hL,hi1,hi2⟩:=HM.out;have J5:=hI.G_ (u:=(m.ah,uv,.slice y1 uv.af.length z1,.slice y2 uv.log.length z2)) HJ.out oo.out.1.symm hL.1 hL.2.1 hL.2.2.1 hL.2.2.2;have r1:=xJ (j:=j) (c0:=.int .i64 m.ah) (c1:=.int .i64 uv.promise) (c2:=.int .i64 uv.ak) (c3:=.slice y1 uv.af.length z1) (c4:=.slice y2 uv.log.length z2) hI.row hi1 (by decide)
        have r2:=xJ (j:=j) (c0:=.int .i64 m.ah) (c1:=.int .i64 uv.promise) (c2:=.int .i64 uv.ak) (c3:=.slice y1 uv.af.length z1) (c4:=.slice y2 uv.log.length z2) hI.row hi2 (by decide)
        have nH:w.heap.size+2≠g:=fun e=>iV.out.2 (by rw[e];rfl)
        have K5:=(cJ _ ⟨g,j*5+4,none⟩ (.slice y2 uv.log.length z2) _ nH).trans ((cJ _ ⟨g,j*5+3,none⟩ (.slice y1 uv.af.length z1) _ nH).trans ((cJ _ ⟨g,j*5+2,none⟩ (.int .i64 uv.ak) _ nH).trans ((cJ _ ⟨g,j*5+1,none⟩ (.int .i64 uv.promise) _ nH).trans ((cJ _ ⟨g,j*5,none⟩ (.int .i64 m.ah) _ nH).trans hK))));have s5:W5.heap.size=wc.heap.size:=by rw[<- rb];simp
        have s6:=hI.mv.size;rw[rb] at r1 r2 K5;simp only at J5;rw[rb] at J5;have PV:=au K5 0;have PW:=au K5 1;have PX:=au K5 2;have PY:=au K5 3;have PZ:=au K5 4;have P4:=au K5 5;have P6:=au K5 6;have P8:=au K5 7;have P_:=au K5 8;have Qa:=au K5 9;have H5:=ae (aP J5 (aP r1 r2));clear J5 r1 r2 K5 hI hV hK hL hi1 hi2;go_region;go_wp2_with fail;go_ret;rw[HT2.out];exact H5.out.1.fin (((ax _ W5).alloc (aG _) _).drew) (a_.one (g:=wc.heap.size) _ (.slice y3 bm.af.length z3) (.slice y4 bm.log.length z4) (by rw[<- s5];exact hnw W5 _) (by omega) (aS H5.out.2.1 fun z _ hz=>(((ax _ W5).alloc (aG _) _).drew).block z hz) (aS H5.out.2.2 fun z _ hz=>(((ax _ W5).alloc (aG _) _).drew).block z hz))
    have HT:Hid (a.take m=(a,[])):=ae (by
     unfold Acc.take;rw[if_neg hk5,if_neg (fun e=>hk (.inl e)),if_neg (fun e=>hk (.inr e)),if_neg kY])
    have Al:(m.kind == 5)=false:=by simp[hk5]
    have uu:(m.kind == 9)=false:=by simp;exact fun e=>hk (.inl e)
    have Ak:(m.kind == 11)=false:=by simp;exact fun e=>hk (.inr e)
    have Oc:(m.kind == 15)=false:=by simp[kY]
    clear hk5 kY hk oz;go_wp2_with fail;go_ret;rw[HT.out];exact og.out.fin (zz _) (a_.nil _ _)
end Go.Proofs.YtgieeeeeiggoeaaGreat
