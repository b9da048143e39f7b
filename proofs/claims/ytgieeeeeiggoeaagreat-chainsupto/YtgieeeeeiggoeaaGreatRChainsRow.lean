import Derived.Test.YtgieeeeeiggoeaaGreatC50
import Derived.ProofKit
import Derived.OpenShut
import Derived.Deep.Slices
import Derived.SizedLaws
import Derived.Test.YtgieeeeeiggoeaaGreatRows
import Derived.WalkKit
import Derived.ShutString
import Derived.ChangeOld
import Derived.Below
import Derived.JoinedCond
set_option maxRecDepth 100000
namespace Go.Proofs.YtgieeeeeiggoeaaGreat
open Go.ChangeShapes Go.WideShapes Go.ChangeAt Go.RowKit Go.Deep
section
variable {H:Type} {enc:TypeId × Value→H} {W:World}
theorem op_cells_int : Tryz.prog.cellsOf 3=1:=by kernel_rfl
theorem op_cells_ent : Tryz.prog.cellsOf 42=5:=by kernel_rfl
theorem op_cells_row : Tryz.prog.cellsOf 29=1:=by kernel_rfl
theorem op_list5 {cs:List Value}(h:cs.length=5):∃ c0 c1 c2 c3 c4,cs=[c0,c1,c2,c3,c4]:=by
 match cs,h with
 | [c0,c1,c2,c3,c4],_=>exact⟨c0,c1,c2,c3,c4,rfl⟩
theorem op_list10 {cs:List Value}(h:cs.length=10):∃ c0 c1 c2 c3 c4 c5 c6 c7 c8 c9,cs=[c0,c1,c2,c3,c4,c5,c6,c7,c8,c9]:=by
 match cs,h with
 | [c0,c1,c2,c3,c4,c5,c6,c7,c8,c9],_=>exact⟨c0,c1,c2,c3,c4,c5,c6,c7,c8,c9,rfl⟩
theorem op_int_cell {n:Nat}{c:Value}{xs:List (DataW H × List MemPlace)}{i:Nat}(hi:i<xs.length)(h:DataW.trod enc Tryz.prog W 0 (fun _=>true) true n 3 [c]=xs[i]?):∃ z,c=.int .i64 z:=by
 rw[List.getElem?_eq_getElem hi] at h
 obtain⟨z,hz,_⟩:=DataW.trod_int Tryz.underlying3 h
 exact⟨z,by simpa using hz⟩
theorem op_entry {n:Nat}{cs:List Value}{x:DataW H × List MemPlace}(h:DataW.trod enc Tryz.prog W 0 (fun _=>true) true n 42 cs=some x) :
  ∃ e:Ent,cs=[.int .i64 e.client,.int .i64 e.seq,.int .i64 e.kind,.int .i64 e.key,.int .i64 e.value]:=by
 obtain⟨xs,m,_,_,hl,hlen,hf⟩:=DataW.trod_struct Tryz.underlying42 h
 obtain⟨c0,c1,c2,c3,c4,rfl⟩:=op_list5 (hl.trans op_cells_ent)
 have hlen':xs.length=5:=hlen
 have f0:DataW.trod enc Tryz.prog W 0 (fun _=>true) true m 3 (([c0,c1,c2,c3,c4].drop 0).take (Tryz.prog.cellsOf 3))=xs[0]?:=hf 0 _ rfl
 have f1:DataW.trod enc Tryz.prog W 0 (fun _=>true) true m 3 (([c0,c1,c2,c3,c4].drop 1).take (Tryz.prog.cellsOf 3))=xs[1]?:=hf 1 _ rfl
 have f2:DataW.trod enc Tryz.prog W 0 (fun _=>true) true m 3 (([c0,c1,c2,c3,c4].drop 2).take (Tryz.prog.cellsOf 3))=xs[2]?:=hf 2 _ rfl
 have f3:DataW.trod enc Tryz.prog W 0 (fun _=>true) true m 3 (([c0,c1,c2,c3,c4].drop 3).take (Tryz.prog.cellsOf 3))=xs[3]?:=hf 3 _ rfl
 have f4:DataW.trod enc Tryz.prog W 0 (fun _=>true) true m 3 (([c0,c1,c2,c3,c4].drop 4).take (Tryz.prog.cellsOf 3))=xs[4]?:=hf 4 _ rfl
 rw[op_cells_int] at f0 f1 f2 f3 f4
 obtain⟨z0,rfl⟩:=op_int_cell (by omega) f0
 obtain⟨z1,rfl⟩:=op_int_cell (by omega) f1
 obtain⟨z2,rfl⟩:=op_int_cell (by omega) f2
 obtain⟨z3,rfl⟩:=op_int_cell (by omega) f3
 obtain⟨z4,rfl⟩:=op_int_cell (by omega) f4
 exact⟨⟨z0,z1,z2,z3,z4⟩,rfl⟩
theorem cells_op : Tryz.prog.cellsOf 71=10:=by kernel_rfl
theorem op_int {n:Nat}{c:Value}{xs:List (DataW H × List MemPlace)}{i:Nat}(hi:i<xs.length)(h:DataW.trod enc Tryz.prog W 0 (fun _=>true) true n 3 [c]=xs[i]?):∃ z,c=.int .i64 z ∧ -9223372036854775808≤z∧z≤9223372036854775807:=by
 rw[List.getElem?_eq_getElem hi] at h
 obtain⟨z,hz,_,hw⟩:=DataW.trod_int Tryz.underlying3 h
 exact⟨z,by simpa using hz,bounds_i64 hw⟩
def LOp.list (o:LOp):List Value:=[.int .i64 o.kind,.int .i64 o.cl,.int .i64 o.n,.int .i64 o.i,.int .i64 o.e.client,.int .i64 o.e.seq,.int .i64 o.e.kind,.int .i64 o.e.key,.int .i64 o.e.value,.slice o.a o.len o.cap]
theorem open_op {n:Nat}{cs:List Value}{x:DataW H × List MemPlace}(h:DataW.trod enc Tryz.prog W 0 (fun _=>true) true n 71 cs=some x) :
  ∃ o:LOp,cs=o.list∧o.Fit∧(-9223372036854775808≤o.cl∧o.cl≤9223372036854775807):=by
 obtain⟨xs,m,_,_,hl,hlen,hf⟩:=DataW.trod_struct Tryz.underlying71 h
 obtain⟨c0,c1,c2,c3,c4,c5,c6,c7,c8,c9,rfl⟩:=op_list10 (hl.trans cells_op)
 have hlen':xs.length=6:=hlen
 have f0:DataW.trod enc Tryz.prog W 0 (fun _=>true) true m 3 (([c0,c1,c2,c3,c4,c5,c6,c7,c8,c9].drop 0).take (Tryz.prog.cellsOf 3))=xs[0]?:=hf 0 _ rfl
 have f1:DataW.trod enc Tryz.prog W 0 (fun _=>true) true m 3 (([c0,c1,c2,c3,c4,c5,c6,c7,c8,c9].drop 1).take (Tryz.prog.cellsOf 3))=xs[1]?:=hf 1 _ rfl
 have f2:DataW.trod enc Tryz.prog W 0 (fun _=>true) true m 3 (([c0,c1,c2,c3,c4,c5,c6,c7,c8,c9].drop 2).take (Tryz.prog.cellsOf 3))=xs[2]?:=hf 2 _ rfl
 have f3:DataW.trod enc Tryz.prog W 0 (fun _=>true) true m 3 (([c0,c1,c2,c3,c4,c5,c6,c7,c8,c9].drop 3).take (Tryz.prog.cellsOf 3))=xs[3]?:=hf 3 _ rfl
 have f4:DataW.trod enc Tryz.prog W 0 (fun _=>true) true m 42 (([c0,c1,c2,c3,c4,c5,c6,c7,c8,c9].drop 4).take (Tryz.prog.cellsOf 42))=xs[4]?:=hf 4 _ rfl
 have f5:DataW.trod enc Tryz.prog W 0 (fun _=>true) true m 29 (([c0,c1,c2,c3,c4,c5,c6,c7,c8,c9].drop 9).take (Tryz.prog.cellsOf 29))=xs[5]?:=hf 5 _ rfl
 rw[op_cells_int] at f0 f1 f2 f3
 rw[op_cells_ent] at f4
 rw[op_cells_row] at f5
 obtain⟨z0,rfl,b0⟩:=op_int (by omega) f0
 obtain⟨z1,rfl,b1⟩:=op_int (by omega) f1
 obtain⟨z2,rfl,b2⟩:=op_int (by omega) f2
 obtain⟨z3,rfl,b3⟩:=op_int (by omega) f3
 rw[List.getElem?_eq_getElem (by omega:4<xs.length)] at f4
 obtain⟨e,he⟩:=op_entry f4
 simp at he
 obtain⟨rfl,rfl,rfl,rfl,rfl⟩:=he;rw[List.getElem?_eq_getElem (by omega:5<xs.length)] at f5
 obtain⟨a,len,cap,hv⟩:∃ a len cap,c9=.slice a len cap:=by
  rcases open_slice Tryz.underlying29 f5 with ⟨hcs,_⟩|⟨a,len,cap,_,_,_,_,hcs,_⟩
  ·exact⟨none,0,0,by simpa using hcs⟩
  ·exact⟨some a,len,cap,by simpa using hcs⟩
 subst hv;exact⟨⟨z0,z1,z2,z3,e,a,len,cap⟩,rfl,⟨b2,b3⟩,b1⟩
theorem open_ops {n:Nat}{v:Value}{x:DataW H × List MemPlace}(h:DataW.trod enc Tryz.prog W 0 (fun _=>true) true n 22 [v]=some x) :
  ∃ l:List LOp,OpsAt W v l∧(l=[]∨∃ el sp,x.1=.slice el sp∧el.length=l.length):=by
 rcases open_slice Tryz.underlying22 h with ⟨hcs,_⟩|⟨a,len,cap,m,k,D,Pl,hcs,hb,hl,hm,hmm,rfl,hx⟩
 ·obtain rfl:v=.slice none 0 0:=by simpa using hcs
  exact⟨[],⟨none,0,rfl,fun i o hi=>by simp at hi⟩,.inl rfl⟩
 ·obtain rfl:v=.slice (some a) len cap:=by simpa using hcs
  have hm':m=cap:=by simpa using hmm
  have ad2:∀ x y,(a.add x).add y=a.add (x+y):=by
   intro x y;unfold Addr.add
   by_cases hx:x=0<;>by_cases hy:y=0<;>simp[hx,hy,Nat.add_assoc]
  haveI:Inhabited LOp:=⟨⟨0,0,0,0,Ent.zero,none,0,0⟩⟩
  obtain⟨E,hE⟩:=choose_lt (α := LOp) (n:=len) (p:=fun i e=>(∀ j,j<10→W.cell? (a.add (i*10+j))=e.list[j]?)∧e.Fit∧(-9223372036854775808≤e.cl∧e.cl≤9223372036854775807)) (fun i hi=>by
   obtain⟨cs',h1,h2⟩:=hx i (by omega)
   obtain⟨o,rfl,hF,hc⟩:=open_op h2
   rw[cells_op] at h1
   refine⟨o,fun j hj => ?_,hF,hc⟩
   have:=(World.cells?_some h1).2.2 j hj
   rw[← this,ad2])
  refine⟨(List.range len).map E,⟨some a,cap,by simp,fun i o hi => ?_⟩,.inr ⟨_,_,rfl,by simp⟩⟩
  have hi':i<len:=by
   have:=(List.getElem?_eq_some_iff.1 hi).1
   simpa using this
  have ho:E i=o:=by
   rw[List.getElem?_map,List.getElem?_range hi'] at hi
   simpa using hi
  subst ho;obtain⟨hs,hF,hc⟩:=hE i hi'
  obtain⟨b,off,spot⟩:=a;have hspot:spot=none:=by simpa [Addr.add] using World.cell?_spot ((hE 0 (by omega)).1 0 (by omega))
  subst hspot;have ad:∀ j,(⟨b,off,none⟩:Addr).add j=⟨b,off+j,none⟩:=fun j=>by unfold Addr.add;simp
  have c0:W.cell? ⟨b,off+i*10,none⟩=some (.int .i64 (E i).kind):=by have:=hs 0 (by omega);rw[ad] at this;exact this
  refine⟨b,off,rfl,rc_lt c0,fun t ht => ?_,hF,hc⟩
  have:=hs t ht
  rw[ad, ← Nat.add_assoc] at this
  rw[this];unfold LOp.list
  rw[← Array.getElem?_toList]
end
end Go.Proofs.YtgieeeeeiggoeaaGreat
namespace Go.Proofs.YtgieeeeeiggoeaaGreat
open Go.ChangeShapes Go.WideShapes Go.ChangeAt Go.RowKit
set_option linter.unusedVariables false
theorem bulk_one {H:Type}(d:DataW H):1≤Rows.uptoBulk d:=by
 cases d with
 | lit l=>cases l<;>simp[Rows.uptoBulk]
 | nil=>simp[Rows.uptoBulk]
 | ptr d=>simp[Rows.uptoBulk]
 | slice elems spare=>simp[Rows.uptoBulk]
 | agg parts=>simp[Rows.uptoBulk]
 | iface t d=>simp[Rows.uptoBulk]
 | map entries=>simp[Rows.uptoBulk]
 | held h=>simp[Rows.uptoBulk]
theorem bulk_len {H:Type}(l:List (DataW H)):l.length≤Rows.uptoBulkAll l:=by
 induction l with
 | nil=>simp[Rows.uptoBulkAll]
 | cons x r ih=>have:=bulk_one x;simp only [Rows.uptoBulkAll,List.length_cons];omega
theorem chains_own : ownKnob Tryz.prog.godebug=none:=by kernel_rfl
theorem chains_laidOut : laidOutB Tryz.prog=true:=by kernel_rfl
theorem chains_contract (H:Type)(enc:TypeId × Value→H)(W:World)(base:Nat)(args:Array Value)(ds gs:List (DataW H))(before:List MemPlace)
  (hval:∀ (j:Nat) t v,Tryz.f3.params[j]?=some t→args[j]?=some v→Value.okWide Tryz.prog W .any base t v)
  (hW:DataW.Whole enc Tryz.prog Tryz.f3.params.toList Rows.chainsSpec.vars false W args.toList ds gs before) (hk:Rows.uptoSmall H (ds++gs)=true) :
  Calls Tryz.prog 3 args W fun e W'=>∃ v,e=.returned v∧Rows.chainsSpec.post enc Tryz.prog Tryz.f3 false true false false W args v W':=by
 have hW':=hW
 obtain⟨p,q,hA0,hV,rfl,hfz,hnd⟩:=hW;have hA:DataW.TrodAll enc Tryz.prog W 0 (fun _=>true) true Tryz.f3.params.toList args.toList ds p:=hA0
 rw[Tryz.params3] at hA hval
 obtain⟨v0,vs0,d0,ds0,p0,q0,hargs,rfl,rfl,h0,r0⟩:=trodAll_cons hA
 obtain⟨rfl,rfl,rfl⟩:=trodAll_nil r0
 obtain rfl:args=#[v0]:=by cases args;simp_all
 obtain⟨rfl,rfl⟩:=trodVars_none hV
 have k0:=h0
 have lt0:∀ x∈p0,x.block<W.heap.size:=by obtain⟨m,hm⟩:=k0;exact DataW.trod_lt m _ _ _ hm
 obtain⟨a1,len1,cap1,rfl⟩:=okWide_slice Tryz.underlying22 (hval 0 22 v0 rfl rfl)
 obtain⟨fuel,hf1⟩:=h0;obtain⟨l,hl,hsize⟩:=open_ops (v:=.slice a1 len1 cap1) hf1
 have hlen:l.length≤1048576:=by
  rcases hsize with rfl|⟨el,sp,hp,hn⟩
  ·simp
  ·have hp':d0=.slice el sp:=hp
   subst hp';have hb:Rows.uptoBulkAll [DataW.slice (H:=H) el sp]≤1048576:=of_decide_eq_true hk
   simp only [Rows.uptoBulkAll,Rows.uptoBulk] at hb
   have:=bulk_len el
   omega
 clear hA0 hsize;refine (chains_any (.slice a1 len1 cap1) l W hl hlen).mono fun e W' ⟨he,bel⟩ => ?_
 subst he;exact⟨_,rfl,_,_,_,[],_,[],hW',trodAll_mk1 (shut_bool Tryz.underlying4 _),(trodAll_cons_mk (Below.trod chains_laidOut (by kernel_rfl) (of_decide_eq_true (by kernel_rfl)) k0 bel lt0) trodAll_mk0),rfl,bel.frame _,fun h=>by cases h⟩
theorem chains_lifted (os:Os)(started:os.Started)(H:Type)(enc:TypeId × Value→H)(F:Stop.Interp) :
  ReturnsInHanded {} Tryz.checked os 3 .any ((Rows.OpenSpec.upto Rows.chainsSpec).pre6 enc Tryz.prog Tryz.f3 Rows.chainsUptoRow.domain false) (((Rows.OpenSpec.upto Rows.chainsSpec).at F).post enc Tryz.prog Tryz.f3 false true false false):=by
 refine returnsInHanded_of_cond (C:=Tryz.checked) (s:=Rows.OpenSpec.upto Rows.chainsSpec) (k:=Rows.uptoSmall) rfl chains_own started (by kernel_rfl) Tryz.func3
  (OpenSpec.witness (enc:=enc) (C:=Tryz.checked) (s:=Rows.OpenSpec.upto Rows.chainsSpec) (k:=Rows.uptoSmall) rfl false ⟨#[],#[.slice none 0 0],[]⟩ 8 (by kernel_rfl) (by kernel_rfl) (by kernel_rfl)
   (x:=([.nil],[],[])) (by kernel_rfl) rfl (by kernel_rfl)) ?_
 intro W base args ds gs before hval hW _ hk _;exact chains_contract H enc W base args ds gs before hval hW hk
theorem chainsUpto_over : Rows.chainsUptoRow.holds Tryz.pinned (Rows.OpenSpec.upto Rows.chainsSpec) :=
 OpenClaim.holds_of_cond 3 Tryz.f3 rfl rfl rfl rfl rfl rfl rfl ⟨rfl,rfl,rfl,rfl,rfl⟩ rfl rfl rfl rfl rfl (by kernel_rfl) Tryz.func3 (by kernel_rfl)
  (of_decide_eq_true (by kernel_rfl)) (by unfold Func.isWrapper;first|(rw[if_pos (by decide +kernel)];kernel_rfl)|(rw[if_neg (by decide +kernel)];exact⟨rfl,rfl⟩))
  (fun os started H enc _ F=>chains_lifted os started H enc F)
theorem chainsUpto_proved : Rows.ChainsUptoSaid:=chainsUpto_over
end Go.Proofs.YtgieeeeeiggoeaaGreat
