import Derived.Test.YtgieeeeeiggoeaaGreatD54
import Derived.ProofKit
import Derived.OpenShut
import Derived.Deep.Slices
import Derived.SizedLaws
import Derived.Test.YtgieeeeeiggoeaaGreatRows
import Derived.ShutString
import Derived.ChangeOld
import Derived.Below
import Derived.JoinedCond
set_option maxRecDepth 100000
namespace Go.Proofs.YtgieeeeeiggoeaaGreat
open Go.ChangeShapes Go.WideShapes Go.ChangeAt Go.RowKit Go.Deep
section
variable {H:Type} {enc:TypeId × Value->H} {W:World}
theorem Ge : Tryz.prog.cellsOf 3=1:=by kernel_rfl
theorem Gd : Tryz.prog.cellsOf 42=5:=by kernel_rfl
theorem RK : Tryz.prog.cellsOf 29=1:=by kernel_rfl
theorem RO {cs:List Value}(h:cs.length=5):∃ c0 c1 c2 c3 c4,cs=[c0,c1,c2,c3,c4]:=by
 match cs,h with
 | [c0,c1,c2,c3,c4],_=>exact⟨c0,c1,c2,c3,c4,rfl⟩
theorem RN {cs:List Value}(h:cs.length=10):∃ c0 c1 c2 c3 c4 c5 c6 c7 c8 c9,cs=[c0,c1,c2,c3,c4,c5,c6,c7,c8,c9]:=by
 match cs,h with
 | [c0,c1,c2,c3,c4,c5,c6,c7,c8,c9],_=>exact⟨c0,c1,c2,c3,c4,c5,c6,c7,c8,c9,rfl⟩
theorem uW {n:Nat}{c:Value}{xs:List (DataW H × List MemPlace)}{i:Nat}(hi:i<xs.length)(h:DataW.trod enc Tryz.prog W 0 (fun _=>true) true n 3 [c]=xs[i]?):∃ z,c=.int .i64 z:=by
 rw[bU hi] at h;obtain⟨z,hz,_⟩:=DataW.trod_int Tryz.underlying3 h;exact⟨z,by simpa using hz⟩
theorem RL {n:Nat}{cs:List Value}{x:DataW H × List MemPlace}(h:DataW.trod enc Tryz.prog W 0 (fun _=>true) true n 42 cs=some x) :
  ∃ e:aH,cs=[.int .i64 e.client,.int .i64 e.seq,.int .i64 e.kind,.int .i64 e.key,.int .i64 e.value]:=by
 obtain⟨xs,m,_,_,hl,hlen,hf⟩:=DataW.trod_struct Tryz.underlying42 h;obtain⟨c0,c1,c2,c3,c4,rfl⟩:=RO (hl.trans Gd);have hlen':xs.length=5:=hlen;have f0:DataW.trod enc Tryz.prog W 0 (fun _=>true) true m 3 (([c0,c1,c2,c3,c4].drop 0).take (Tryz.prog.cellsOf 3))=xs[0]?:=hf 0 _ rfl;have f1:DataW.trod enc Tryz.prog W 0 (fun _=>true) true m 3 (([c0,c1,c2,c3,c4].drop 1).take (Tryz.prog.cellsOf 3))=xs[1]?:=hf 1 _ rfl;have f2:DataW.trod enc Tryz.prog W 0 (fun _=>true) true m 3 (([c0,c1,c2,c3,c4].drop 2).take (Tryz.prog.cellsOf 3))=xs[2]?:=hf 2 _ rfl;have f3:DataW.trod enc Tryz.prog W 0 (fun _=>true) true m 3 (([c0,c1,c2,c3,c4].drop 3).take (Tryz.prog.cellsOf 3))=xs[3]?:=hf 3 _ rfl;have f4:DataW.trod enc Tryz.prog W 0 (fun _=>true) true m 3 (([c0,c1,c2,c3,c4].drop 4).take (Tryz.prog.cellsOf 3))=xs[4]?:=hf 4 _ rfl;rw[Ge] at f0 f1 f2 f3 f4;obtain⟨z0,rfl⟩:=uW (by omega) f0
 obtain⟨z1,rfl⟩:=uW (by omega) f1
 obtain⟨z2,rfl⟩:=uW (by omega) f2
 obtain⟨z3,rfl⟩:=uW (by omega) f3
 obtain⟨z4,rfl⟩:=uW (by omega) f4
 exact⟨⟨z0,z1,z2,z3,z4⟩,rfl⟩
theorem Dy : Tryz.prog.cellsOf 71=10:=by kernel_rfl
theorem xz {n:Nat}{c:Value}{xs:List (DataW H × List MemPlace)}{i:Nat}(hi:i<xs.length)(h:DataW.trod enc Tryz.prog W 0 (fun _=>true) true n 3 [c]=xs[i]?):∃ z,c=.int .i64 z /\ -9223372036854775808<=z/\z<=9223372036854775807:=by
 rw[bU hi] at h;obtain⟨z,hz,_,hw⟩:=DataW.trod_int Tryz.underlying3 h;exact⟨z,by simpa using hz,bounds_i64 hw⟩
def dN.list (o:dN):List Value:=[.int .i64 o.kind,.int .i64 o.cl,.int .i64 o.n,.int .i64 o.i,.int .i64 o.e.client,.int .i64 o.e.seq,.int .i64 o.e.kind,.int .i64 o.e.key,.int .i64 o.e.value,.slice o.a o.len o.cap]
theorem RM {n:Nat}{v:Value}{x:DataW H × List MemPlace}(h:DataW.trod enc Tryz.prog W 0 (fun _=>true) true n 29 [v]=some x) :
  ∃ (ms:List Int) (a:Option Addr) (cap:Nat),v=.slice a ms.length cap/\kN W v ms/\(ms=[]\/∃ el sp,x.1=.slice el sp/\el.length=ms.length):=by
 rcases open_ints Tryz.underlying29 Tryz.underlying3 (by kernel_rfl) h with ⟨hcs,_⟩|⟨a,len,cap,zs,hcs,_,hl,hm,hz,rfl,hcell,hwz⟩
 ·obtain rfl:v=.slice none 0 0:=by simpa using hcs
  exact⟨[],none,0,rfl,⟨⟨none,0,rfl,fun i hi=>absurd hi (Nat.not_lt_zero _)⟩,none,0,rfl,aG _⟩,.inl rfl⟩
 ·obtain rfl:v=.slice (some a) len cap:=by simpa using hcs
  have hz':zs.length=cap:=by simpa using hz
  have hlen:(zs.take len).length=len:=by rw[dA];omega
  refine⟨zs.take len,some a,cap,by rw[hlen],⟨⟨some a,cap,by rw[hlen],fun i hi => ?_⟩,some a,cap,by rw[hlen],by omega⟩,.inr ⟨_,_,rfl,by simp[lits]⟩⟩
  rw[hlen] at hi;obtain⟨b,off,rfl,hc⟩:=ints_at hcell (by omega)
  refine⟨b,off,rfl, ?_⟩
  rw[hc i (by omega)]
  simp[List.getD,hi]
theorem RP {n:Nat}{cs:List Value}{x:DataW H × List MemPlace}(h:DataW.trod enc Tryz.prog W 0 (fun _=>true) true n 71 cs=some x) :
  ∃ o:dN,cs=o.list/\o.Fit/\(-9223372036854775808<=o.cl/\o.cl<=9223372036854775807)/\kN W (.slice o.a o.len o.cap) o.l/\(o.l=[]\/∃ parts el sp,x.1=.agg parts/\DataW.slice el sp∈parts/\el.length=o.l.length):=by
 obtain⟨xs,m,_,hxa,hl,hlen,hf⟩:=DataW.trod_struct Tryz.underlying71 h;obtain⟨c0,c1,c2,c3,c4,c5,c6,c7,c8,c9,rfl⟩:=RN (hl.trans Dy);have hlen':xs.length=6:=hlen;have f0:DataW.trod enc Tryz.prog W 0 (fun _=>true) true m 3 (([c0,c1,c2,c3,c4,c5,c6,c7,c8,c9].drop 0).take (Tryz.prog.cellsOf 3))=xs[0]?:=hf 0 _ rfl;have f1:DataW.trod enc Tryz.prog W 0 (fun _=>true) true m 3 (([c0,c1,c2,c3,c4,c5,c6,c7,c8,c9].drop 1).take (Tryz.prog.cellsOf 3))=xs[1]?:=hf 1 _ rfl;have f2:DataW.trod enc Tryz.prog W 0 (fun _=>true) true m 3 (([c0,c1,c2,c3,c4,c5,c6,c7,c8,c9].drop 2).take (Tryz.prog.cellsOf 3))=xs[2]?:=hf 2 _ rfl;have f3:DataW.trod enc Tryz.prog W 0 (fun _=>true) true m 3 (([c0,c1,c2,c3,c4,c5,c6,c7,c8,c9].drop 3).take (Tryz.prog.cellsOf 3))=xs[3]?:=hf 3 _ rfl;have f4:DataW.trod enc Tryz.prog W 0 (fun _=>true) true m 42 (([c0,c1,c2,c3,c4,c5,c6,c7,c8,c9].drop 4).take (Tryz.prog.cellsOf 42))=xs[4]?:=hf 4 _ rfl;have f5:DataW.trod enc Tryz.prog W 0 (fun _=>true) true m 29 (([c0,c1,c2,c3,c4,c5,c6,c7,c8,c9].drop 9).take (Tryz.prog.cellsOf 29))=xs[5]?:=hf 5 _ rfl;rw[Ge] at f0 f1 f2 f3;rw[Gd] at f4;rw[RK] at f5;obtain⟨z0,rfl,b0⟩:=xz (by omega) f0
 obtain⟨z1,rfl,b1⟩:=xz (by omega) f1
 obtain⟨z2,rfl,b2⟩:=xz (by omega) f2
 obtain⟨z3,rfl,b3⟩:=xz (by omega) f3
 rw[bU (by omega:4<xs.length)] at f4
 obtain⟨e,he⟩:=RL f4;simp at he;obtain⟨rfl,rfl,rfl,rfl,rfl⟩:=he;rw[bU (by omega:5<xs.length)] at f5
 obtain⟨ms,a,cap,hv,hin,hsz⟩:=RM f5;subst hv;refine⟨⟨z0,z1,z2,z3,e,a,ms.length,cap,ms⟩,rfl,⟨b2,b3⟩,b1,hin, ?_⟩
 rcases hsz with q|⟨el,sp,q1,q2⟩
 ·exact .inl q
 ·refine .inr ⟨_,el,sp,by rw[hxa], ?_,q2⟩
  rw[<- q1];exact List.mem_map.2 ⟨_,List.getElem_mem (by omega:5<xs.length),rfl⟩
theorem RQ {n:Nat}{v:Value}{x:DataW H × List MemPlace}(h:DataW.trod enc Tryz.prog W 0 (fun _=>true) true n 22 [v]=some x)(hx2:∀ el sp,x.1=.slice el sp->el.length<=1048576/\∀ parts e2 s2,DataW.agg parts∈el->DataW.slice e2 s2∈parts->e2.length<=1048576) :
  ∃ l:List dN,yL W v l/\l.length<=1048576:=by
 rcases open_slice Tryz.underlying22 h with ⟨hcs,_⟩|⟨a,len,cap,m,k,D,Pl,hcs,hb,hl,hm,hmm,rfl,hx⟩
 ·obtain rfl:v=.slice none 0 0:=by simpa using hcs
  exact⟨[],⟨none,0,rfl,fun i o hi=>by simp at hi⟩,bl _⟩
 ·obtain rfl:v=.slice (some a) len cap:=by simpa using hcs
  have hm':m=cap:=by simpa using hmm
  obtain⟨hb1,hb2⟩:=hx2 _ _ rfl;rw[fF,List.length_range] at hb1;have JZ:∀ x y,(a.add x).add y=a.add (x+y):=by
   intro x y;unfold Addr.add;by_cases hx:x=0<;>by_cases hy:y=0<;>simp[hx,hy,Nat.add_assoc]
  haveI:Inhabited dN:=⟨⟨0,0,0,0,aH.zero,none,0,0,[]⟩⟩
  obtain⟨E,hE⟩:=choose_lt (α := dN) (n:=len) (p:=fun i e=>(∀ j,j<10->W.cell? (a.add (i*10+j))=e.list[j]?)/\e.Fit/\(-9223372036854775808<=e.cl/\e.cl<=9223372036854775807)/\kN W (.slice e.a e.len e.cap) e.l/\e.l.length<=1048576) (fun i hi=>by
   obtain⟨cs',h1,h2⟩:=hx i (by omega)
   obtain⟨o,rfl,hF,hc,hin,hsz⟩:=RP h2;rw[Dy] at h1;refine⟨o,fun j hj => ?_,hF,hc,hin, ?_⟩
   ·have:=(World.cells?_some h1).2.2 j hj
    rw[<- this,JZ]
   ·rcases hsz with q|⟨parts,el,sp,q1,q2,q3⟩
    ·rw[q];simp
    ·rw[<- q3]
     exact hb2 parts el sp (List.mem_map.2 ⟨i,List.mem_range.2 hi,q1⟩) q2)
  refine⟨(List.range len).map E,⟨some a,cap,by simp,fun i o hi => ?_⟩,by simpa using hb1⟩
  have hi':i<len:=by
   have:=(dI.1 hi).1
   simpa using this
  have ho:E i=o:=by
   rw[fe,List.getElem?_range hi'] at hi
   simpa using hi
  subst ho;obtain⟨hs,hF,hc,hin,hle⟩:=hE i hi';obtain⟨b,off,spot⟩:=a;have hspot:spot=none:=by simpa [Addr.add] using World.cell?_spot ((hE 0 (by omega)).1 0 (by omega))
  subst hspot;have ad:∀ j,(⟨b,off,none⟩:Addr).add j=⟨b,off+j,none⟩:=fun j=>by unfold Addr.add;simp
  have c0:W.cell? ⟨b,off+i*10,none⟩=some (.int .i64 (E i).kind):=by have:=hs 0 (by omega);rw[ad] at this;exact this
  refine⟨b,off,rfl,Bu c0,fun t ht => ?_,hF,hc,hin,hle⟩
  have:=hs t ht;rw[ad, <- Nat.add_assoc] at this;rw[this];unfold dN.list;rw[<- Array.getElem?_toList]
end
end Go.Proofs.YtgieeeeeiggoeaaGreat
namespace Go.Proofs.YtgieeeeeiggoeaaGreat
open Go.ChangeShapes Go.WideShapes Go.ChangeAt Go.RowKit
set_option linter.unusedVariables false
theorem KN {H:Type}(d:DataW H):1<=Rows.uptoBulk d:=by
 cases d with
 | lit l=>cases l<;>simp[Rows.uptoBulk]
 | nil=>simp[Rows.uptoBulk]
 | ptr d=>simp[Rows.uptoBulk]
 | slice elems spare=>simp[Rows.uptoBulk]
 | agg parts=>simp[Rows.uptoBulk]
 | iface t d=>simp[Rows.uptoBulk]
 | map entries=>simp[Rows.uptoBulk]
 | held h=>simp[Rows.uptoBulk]
theorem Dh {H:Type}(l:List (DataW H)):l.length<=Rows.uptoBulkAll l:=by
 induction l with
 | nil=>simp[Rows.uptoBulkAll]
 | cons x r ih=>have:=KN x;simp only [Rows.uptoBulkAll,eu];omega
theorem Di {H:Type}{l:List (DataW H)}{d:DataW H}(h:d∈l):Rows.uptoBulk d<=Rows.uptoBulkAll l:=by
 induction l with
 | nil=>cases h
 | cons x r ih =>
  simp only [Rows.uptoBulkAll];rcases gK.1 h with e|e
  ·rw[e];omega
  ·have:=ih e;omega
theorem Lh : ownKnob Tryz.prog.godebug=none:=by kernel_rfl
theorem Lf : laidOutB Tryz.prog=true:=by kernel_rfl
theorem Ld (H:Type)(enc:TypeId × Value->H)(W:World)(base:Nat)(args:Array Value)(ds gs:List (DataW H))(before:List MemPlace)
  (hval:∀ (j:Nat) t v,Tryz.f4.params[j]?=some t->args[j]?=some v->Value.okWide Tryz.prog W .any base t v)
  (hW:DataW.Whole enc Tryz.prog Tryz.f4.params.toList Rows.changesSpec.vars false W args.toList ds gs before) (hk:Rows.uptoSmall H (ds++gs)=true) :
  Calls Tryz.prog 4 args W fun e W'=>∃ v,e=.returned v/\Rows.changesSpec.post enc Tryz.prog Tryz.f4 false true false false W args v W':=by
 have hW':=hW;obtain⟨p,q,wC,hV,rfl,hfz,hnd⟩:=hW;have hA:DataW.TrodAll enc Tryz.prog W 0 (fun _=>true) true Tryz.f4.params.toList args.toList ds p:=wC;rw[Tryz.params4] at hA hval;obtain⟨v0,H0,d0,ds0,p0,q0,hargs,rfl,rfl,h0,r0⟩:=trodAll_cons hA;obtain⟨rfl,rfl,rfl⟩:=trodAll_nil r0;obtain rfl:args=#[v0]:=by cases args;simp_all
 obtain⟨rfl,rfl⟩:=trodVars_none hV;have k0:=h0;have Ql:∀ x∈p0,x.block<W.heap.size:=by obtain⟨m,hm⟩:=k0;exact DataW.trod_lt m _ _ _ hm
 obtain⟨a1,FF,tK,rfl⟩:=okWide_slice Tryz.underlying22 (hval 0 22 v0 rfl rfl);obtain⟨fuel,hf1⟩:=h0;have hbk:Rows.uptoBulkAll [d0]<=1048576:=of_decide_eq_true hk;obtain⟨l,hl,hlen⟩:=RQ (v:=.slice a1 FF tK) hf1 (fun el sp e=>by
  have e':d0=.slice el sp:=e;rw[e'] at hbk;simp only [Rows.uptoBulkAll,Rows.uptoBulk] at hbk;refine⟨by have:=Dh el;omega,fun parts e2 s2 h1 h2 => ?_⟩
  have q1:=Di h1;have q2:=Di h2;simp only [Rows.uptoBulk] at q1 q2;have q3:=Dh e2;omega)
 clear wC;refine (Lc (.slice a1 FF tK) l W hl hlen).mono fun e W' ⟨he,pL⟩ => ?_
 subst he;exact⟨_,rfl,_,_,_,[],_,[],hW',trodAll_mk1 (shut_bool Tryz.underlying4 _),(trodAll_cons_mk (Below.trod Lf (by kernel_rfl) (of_decide_eq_true (by kernel_rfl)) k0 pL Ql) trodAll_mk0),rfl,pL.frame _,fun h=>by cases h⟩
theorem Lg (os:Os)(started:os.Started)(H:Type)(enc:TypeId × Value->H)(F:Stop.Interp) :
  ReturnsInHanded {} Tryz.checked os 4 .any ((Rows.OpenSpec.upto Rows.changesSpec).pre6 enc Tryz.prog Tryz.f4 Rows.changesUptoRow.domain false) (((Rows.OpenSpec.upto Rows.changesSpec).at F).post enc Tryz.prog Tryz.f4 false true false false):=by
 refine returnsInHanded_of_cond (C:=Tryz.checked) (s:=Rows.OpenSpec.upto Rows.changesSpec) (k:=Rows.uptoSmall) rfl Lh started (by kernel_rfl) Tryz.func4
  (OpenSpec.witness (enc:=enc) (C:=Tryz.checked) (s:=Rows.OpenSpec.upto Rows.changesSpec) (k:=Rows.uptoSmall) rfl false ⟨#[],#[.slice none 0 0],[]⟩ 8 (by kernel_rfl) (by kernel_rfl) (by kernel_rfl)
   (x:=([.nil],[],[])) (by kernel_rfl) rfl (by kernel_rfl)) ?_
 intro W base args ds gs before hval hW _ hk _;exact Ld H enc W base args ds gs before hval hW hk
theorem Lb : Rows.changesUptoRow.holds Tryz.pinned (Rows.OpenSpec.upto Rows.changesSpec) :=
 OpenClaim.holds_of_cond 4 Tryz.f4 rfl rfl rfl rfl rfl rfl rfl ⟨rfl,rfl,rfl,rfl,rfl⟩ rfl rfl rfl rfl rfl (by kernel_rfl) Tryz.func4 (by kernel_rfl)
  (of_decide_eq_true (by kernel_rfl)) (by unfold Func.isWrapper;first|(rw[if_pos (by decide +kernel)];kernel_rfl)|(rw[if_neg (by decide +kernel)];exact⟨rfl,rfl⟩))
  (fun os started H enc _ F=>Lg os started H enc F)
theorem changesUpto_proved : Rows.ChangesUptoSaid:=Lb
end Go.Proofs.YtgieeeeeiggoeaaGreat
