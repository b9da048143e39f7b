import Derived.Test.YtgieeeeeiggoeaaGreatC09
import Derived.Deep.RegionHeld3
set_option maxRecDepth 100000
set_option maxHeartbeats 1000000
namespace Go.Proofs.YtgieeeeeiggoeaaGreat
open Go.RowKit
def CellsAt (w:World)(v:Value)(n:Nat)(xs:List Value):Prop :=
 ∃ a c,v=.slice a n c∧(∀ j u,xs[j]?=some u→∃ x,a=some x∧w.cell? (x.add j)=some u)
theorem CellsAt.of_owns {w:World}{base size n:Nat}{e:TypeId}{v:Value}{xs:List Value}(h:w.ownsRow base e size v n xs):CellsAt w v n xs:=by
 rcases h.2 with ⟨rfl,rfl⟩|⟨g,cap,cur,rfl,hb,hg,hn,hm,hs,ht⟩
 ·refine⟨_,_,rfl,fun j u hj => ?_⟩
  have h0:=h.1
  have:=(List.getElem?_eq_some_iff.1 hj).1
  omega
 ·exact⟨_,_,rfl,fun j u hj=>⟨_,rfl,h.cells rfl j u hj⟩⟩
theorem infoStr : (Tryz.prog.info? 9).map (fun i=>(i.zero,i.size,i.bytes))=some (some (.string ⟨#[]⟩),1,16):=by kernel_rfl
theorem infoAns : (Tryz.prog.info? 113).map (fun i=>(i.zero,i.size,i.bytes))=some (some (.agg #[.int .i64 0,.int .i64 0,.int .i64 0]),3,24):=by kernel_rfl
theorem below_grown_new {w w':World}{o:Obj}(hg:(w.alloc o).grownBy w' (Value.ownBlock (.slice (some ⟨w.heap.size,0,none⟩) 0 0))):Below w.heap.size w w' :=
 ((Below.refl w.heap.size w).alloc (Nat.le_refl _) o).grown hg (by simp) (fun k hk=>by simp[Value.ownBlock] at hk;omega)
theorem eqNil_ints (w:World)(a:Option Addr)(n c:Nat):(binOp .eql 29 (.slice a n c) (.slice none 0 0)).run Tryz.prog w=.ok (.bool a.isNone) w:=by
 unfold binOp
 simp[run_equal_slice_nil w _ _ a n c Tryz.underlying29]
theorem clone_ints (v:Value)(n:Nat)(xs:List Value)(w:World)(hv:CellsAt w v n xs)(hx:xs.length=n*1)(h1:∀ u∈xs,u.oneCell'=true)(hl:n≤3000000000000) :
  Calls Tryz.prog 69 #[v] w fun e w'=>∃ v',e=.returned v'∧w'.ownsRow w.heap.size 3 1 v' n xs∧Below w.heap.size w w':=by
 obtain⟨a,c,rfl,hc⟩:=hv;have Hc:=hideA hc;have hE:=fun w=>eqNil_ints w a n c
 have H1:=hideA h1;clear hc h1;cases a with
 | none =>
  obtain rfl:xs=[]:=by
   cases xs with
   | nil=>rfl
   | cons u t=>obtain⟨x,hx,_⟩:=Hc.out 0 u rfl;cases hx
  obtain rfl:n=0:=by simp at hx;omega
  go_enter Tryz.func69,Tryz.ntmps69
  go_wp2_with fail;go_ret;exact⟨_,rfl,World.ownsRow_nil _ _ _ _,Below.refl _ _⟩
 | some ad =>
  obtain⟨i0,hi,hz0,hz1,hz2⟩:=info_parts infoInt
  go_enter Tryz.func69,Tryz.ntmps69
  go_wp2_with (at_builtin;refine wpList_append_own _ rfl _ _ 29 rfl w.heap.size 3 i0 _ 1 8 Tryz.underlying29 hi hz0 hz1 hz2 rfl (by decide) (.slice (some ⟨w.heap.size,0,none⟩) 0 0) 0 [] rfl (World.ownsRow_made w #[] 0 (Nat.le_refl _) (by unfold maxLen;omega) rfl) ad n c xs rfl hx (fun j u hj=>by obtain⟨x,e,hc⟩:=Hc.out j u hj;cases e;exact cell_later ((Below.refl _ w).alloc (Nat.le_refl _) _) hc) H1.out (by unfold maxLen;omega) (by omega) (by simp) ?_)
  intro v' w' ho hg _;go_wp2_with fail;go_ret;exact⟨_,rfl,by simpa using ho,below_grown_new hg⟩
theorem eqNil_ents (w:World)(a:Option Addr)(n c:Nat):(binOp .eql 44 (.slice a n c) (.slice none 0 0)).run Tryz.prog w=.ok (.bool a.isNone) w:=by
 unfold binOp
 simp[run_equal_slice_nil w _ _ a n c Tryz.underlying44]
theorem clone_ents (v:Value)(n:Nat)(xs:List Value)(w:World)(hv:CellsAt w v n xs)(hx:xs.length=n*5)(h1:∀ u∈xs,u.oneCell'=true)(hl:n≤3000000000000) :
  Calls Tryz.prog 147 #[v] w fun e w'=>∃ v',e=.returned v'∧w'.ownsRow w.heap.size 42 5 v' n xs∧Below w.heap.size w w':=by
 obtain⟨a,c,rfl,hc⟩:=hv;have Hc:=hideA hc;have hE:=fun w=>eqNil_ents w a n c
 have H1:=hideA h1;clear hc h1;cases a with
 | none =>
  obtain rfl:xs=[]:=by
   cases xs with
   | nil=>rfl
   | cons u t=>obtain⟨x,hx,_⟩:=Hc.out 0 u rfl;cases hx
  obtain rfl:n=0:=by simp at hx;omega
  go_enter Tryz.func147,Tryz.ntmps147
  go_wp2_with fail;go_ret;exact⟨_,rfl,World.ownsRow_nil _ _ _ _,Below.refl _ _⟩
 | some ad =>
  obtain⟨i0,hi,hz0,hz1,hz2⟩:=info_parts infoEnt
  go_enter Tryz.func147,Tryz.ntmps147
  go_wp2_with (at_builtin;refine wpList_append_own _ rfl _ _ 44 rfl w.heap.size 42 i0 _ 5 40 Tryz.underlying44 hi hz0 hz1 hz2 rfl (by decide) (.slice (some ⟨w.heap.size,0,none⟩) 0 0) 0 [] rfl (World.ownsRow_made w #[] 0 (Nat.le_refl _) (by unfold maxLen;omega) rfl) ad n c xs rfl hx (fun j u hj=>by obtain⟨x,e,hc⟩:=Hc.out j u hj;cases e;exact cell_later ((Below.refl _ w).alloc (Nat.le_refl _) _) hc) H1.out (by unfold maxLen;omega) (by omega) (by simp) ?_)
  intro v' w' ho hg _;go_wp2_with fail;go_ret;exact⟨_,rfl,by simpa using ho,below_grown_new hg⟩
theorem eqNil_anss (w:World)(a:Option Addr)(n c:Nat):(binOp .eql 91 (.slice a n c) (.slice none 0 0)).run Tryz.prog w=.ok (.bool a.isNone) w:=by
 unfold binOp
 simp[run_equal_slice_nil w _ _ a n c Tryz.underlying91]
theorem clone_anss (v:Value)(n:Nat)(xs:List Value)(w:World)(hv:CellsAt w v n xs)(hx:xs.length=n*3)(h1:∀ u∈xs,u.oneCell'=true)(hl:n≤3000000000000) :
  Calls Tryz.prog 146 #[v] w fun e w'=>∃ v',e=.returned v'∧w'.ownsRow w.heap.size 113 3 v' n xs∧Below w.heap.size w w':=by
 obtain⟨a,c,rfl,hc⟩:=hv;have Hc:=hideA hc;have hE:=fun w=>eqNil_anss w a n c
 have H1:=hideA h1;clear hc h1;cases a with
 | none =>
  obtain rfl:xs=[]:=by
   cases xs with
   | nil=>rfl
   | cons u t=>obtain⟨x,hx,_⟩:=Hc.out 0 u rfl;cases hx
  obtain rfl:n=0:=by simp at hx;omega
  go_enter Tryz.func146,Tryz.ntmps146
  go_wp2_with fail;go_ret;exact⟨_,rfl,World.ownsRow_nil _ _ _ _,Below.refl _ _⟩
 | some ad =>
  obtain⟨i0,hi,hz0,hz1,hz2⟩:=info_parts infoAns
  go_enter Tryz.func146,Tryz.ntmps146
  go_wp2_with (at_builtin;refine wpList_append_own _ rfl _ _ 91 rfl w.heap.size 113 i0 _ 3 24 Tryz.underlying91 hi hz0 hz1 hz2 rfl (by decide) (.slice (some ⟨w.heap.size,0,none⟩) 0 0) 0 [] rfl (World.ownsRow_made w #[] 0 (Nat.le_refl _) (by unfold maxLen;omega) rfl) ad n c xs rfl hx (fun j u hj=>by obtain⟨x,e,hc⟩:=Hc.out j u hj;cases e;exact cell_later ((Below.refl _ w).alloc (Nat.le_refl _) _) hc) H1.out (by unfold maxLen;omega) (by omega) (by simp) ?_)
  intro v' w' ho hg _;go_wp2_with fail;go_ret;exact⟨_,rfl,by simpa using ho,below_grown_new hg⟩
def idxI (l:List Int)(x:Int):Int:=if x∈l then (l.idxOf x:Int) else -1
theorem idx_take (l:List Int)(x:Int)(k:Nat)(hk:k<l.length)(hn:x ∉ l.take k)(he:l.getD k 0=x):idxI l x=k:=by
 have hm:x∈l:=by
  rw[← he,List.getD,List.getElem?_eq_getElem hk]
  exact List.getElem_mem hk
 unfold idxI
 rw[if_pos hm];have e:l=l.take k++l.getD k 0 :: l.drop (k+1):=by
  rw[show l.getD k 0=l[k] by simp[List.getD,List.getElem?_eq_getElem hk]]
  simp
 rw[e,List.idxOf_append,if_neg hn,he];simp
 omega
theorem idx_none (l:List Int)(x:Int)(hn:x ∉ l):idxI l x = -1:=by unfold idxI;rw[if_neg hn]
theorem idxI_range (l:List Int)(x:Int) : -1≤idxI l x∧idxI l x<l.length:=by
 unfold idxI
 split
 ·rename_i h
  have:=List.idxOf_lt_length_of_mem h
  omega
 ·omega
theorem index_ints (v:Value)(l:List Int)(x:Int)(w:World)(hv:IntsAt w v l)(hl:l.length≤1000000) :
  Calls Tryz.prog 152 #[v,.int .i64 x] w fun e w'=>e=.returned (.int .i64 (idxI l x))∧w'=w:=by
 obtain⟨a,c,rfl,hc⟩:=hv;have Hc:=hideA hc;clear hc;go_enter Tryz.func152,Tryz.ntmps152
 go_wp2_with fail;go_loopw [8] (fun i wr=>∃ k:Nat,k≤l.length∧i=.int .i64 k∧wr=w∧x ∉ l.take k) (fun i _=>l.length-(intOf i).toNat)
 case atStart=>exact⟨0,Nat.zero_le _,rfl,rfl,by simp⟩
 case round =>
  obtain⟨k,hk,rfl,rfl,hn⟩:=hrel;by_cases hlt:k<l.length
  ·obtain⟨b,off,rfl,ck⟩:=Hc.out k hlt
   have hk1:(k:Int)<(l.length:Int):=by omega
   have ht:Hid (l.take (k+1)=l.take k++[l.getD k 0]):=take_snoc_ints l k hlt
   have hf:=hideA (idx_take l x k hlt hn)
   generalize l.getD k 0=y at *
   by_cases hxy:x=y
   ·have H:Hid (idxI l x=k):=hideA (hf.out hxy.symm)
    subst hxy;go_wp2_with fail;go_ret;exact⟨by rw[H.out];rfl,rfl⟩
   ·have hxd:(x == y)=false:=by simp[hxy]
    go_wp2_with fail;go_roundw
    case rel=>exact⟨k+1,by omega,by go_num,by trivial,by rw[ht.out];simp[hn,hxy]⟩
    case measure=>simp[intOf];omega
  ·obtain rfl:k=l.length:=by omega
   have H:Hid (idxI l x = -1):=hideA (idx_none l x (by rwa [List.take_length] at hn))
   go_wp2_with fail;go_ret;exact⟨by rw[H.out];rfl,rfl⟩
theorem contains_ints (v:Value)(l:List Int)(x:Int)(w:World)(hv:IntsAt w v l)(hl:l.length≤1000000) :
  Calls Tryz.prog 121 #[v,.int .i64 x] w fun e w'=>e=.returned (.bool (decide (x∈l)))∧w'=w:=by
 have hi:=index_ints v l x w hv hl
 have hr:=idxI_range l x
 have H:Hid (decide (x∈l)=decide (0≤idxI l x)):=hideA (by unfold idxI;split<;>simp_all)
 rw[H.out];obtain⟨a,c,rfl,hc⟩:=hv;clear hc;generalize idxI l x=k at *
 go_enter Tryz.func121,Tryz.ntmps121
 go_wp2_with fail;refine hi.mono ?_
 rintro e w1 ⟨rfl,rfl⟩;go_wp2_with fail;go_ret;exact⟨rfl,rfl⟩
theorem ret_no {a:ByteArray}{p:List UInt8 × Int}(h:Hid (p=([],1)))(ha:a=bs []):Ending.returned (.tuple #[.string a,.int .i64 1])=.returned (.tuple #[.string (bs p.1),.int .i64 p.2]):=by rw[h.out,ha]
theorem refEncode_short (k f t ep ba vo po va:Int)(mem log:Value)(ms:List Int)(es:List Ent)(w:World)(hmem:IntsAt w mem ms)(hlog:LogAt w log es)
  (hno:¬ (1≤k∧k≤16∧ms.length≤5∧es.length≤24)):Calls Tryz.prog 166 #[.agg #[.int .i64 k,.int .i64 f,.int .i64 t,.int .i64 ep,.int .i64 ba,.int .i64 vo,.int .i64 po,.int .i64 va,mem,log]] w fun e w'=>Below w.heap.size w w'∧e=.returned (.tuple #[.string (bs (encOf k [f,t,ep,ba,vo,po,va] ms es).1),.int .i64 (encOf k [f,t,ep,ba,vo,po,va] ms es).2]):=by
 obtain⟨am,cm,rfl, -⟩:=hmem;obtain⟨al,cl,rfl, -⟩:=hlog;have hb0:=(Below.refl w.heap.size w).alloc (Nat.le_refl _) (.cells #[.int .i64 k,.int .i64 f,.int .i64 t,.int .i64 ep,.int .i64 ba,.int .i64 vo,.int .i64 po,.int .i64 va,.slice am ms.length cm,.slice al es.length cl] 134)
 have hE:Hid (encOf k [f,t,ep,ba,vo,po,va] ms es=([],1)):=encOf_no (msgOk_false fun h=>hno h.1)
 by_cases h1:k<1
 ·go_enter Tryz.func166,Tryz.ntmps166
  go_wp2_with fail;go_ret2
  exact⟨hb0,ret_no hE rfl⟩
 by_cases h2:16<k
 ·go_enter Tryz.func166,Tryz.ntmps166
  go_wp2_with fail;go_ret2
  exact⟨hb0,ret_no hE rfl⟩
 by_cases h3:5<ms.length
 ·go_enter Tryz.func166,Tryz.ntmps166
  go_wp2_with fail;go_ret2
  exact⟨hb0,ret_no hE rfl⟩
 have h4:24<es.length:=by omega
 go_enter Tryz.func166,Tryz.ntmps166
 go_wp2_with fail;go_ret2
 exact⟨hb0,ret_no hE rfl⟩
theorem add_bs (l m:List UInt8)(h:l.length+m.length≤9223372036854775807):∀ w,(Op.stringOp .add (bs l) (bs m)).run Tryz.prog w=.ok (.string (bs (l++m))) w:=by
 intro w;rw[run_string_add_sum w (bs l) (bs m) (by rw[bs_size,bs_size];omega),bs_append]
theorem writtenOf_yes {l:List Int}(h:l.all numOk=true):writtenOf l=(numsBytes l,true):=by unfold writtenOf;rw[if_pos h]
theorem writtenOf_not {l:List Int}(h:l.all numOk=false):writtenOf l=([],false):=by unfold writtenOf;rw[h];rfl
theorem refEncode_long (k f t ep ba vo po va:Int)(mem log:Value)(ms:List Int)(es:List Ent)(w:World)(hmem:IntsAt w mem ms)(hlog:LogAt w log es)
  (h1:1≤k) (h2:k≤16) (h3:ms.length≤5) (h4:es.length≤24):Calls Tryz.prog 166 #[.agg #[.int .i64 k,.int .i64 f,.int .i64 t,.int .i64 ep,.int .i64 ba,.int .i64 vo,.int .i64 po,.int .i64 va,mem,log]] w fun e w'=>Below w.heap.size w w'∧e=.returned (.tuple #[.string (bs (encOf k [f,t,ep,ba,vo,po,va] ms es).1),.int .i64 (encOf k [f,t,ep,ba,vo,po,va] ms es).2]):=by
 have hmem1:=hmem
 have hlog1:=hlog
 obtain⟨am,cm,rfl, -⟩:=hmem1;obtain⟨al,cl,rfl, -⟩:=hlog1;obtain⟨W,hW,hb0,hsz,q, -⟩:=boxed w #[.int .i64 k,.int .i64 f,.int .i64 t,.int .i64 ep,.int .i64 ba,.int .i64 vo,.int .i64 po,.int .i64 va,.slice am ms.length cm,.slice al es.length cl] 134
 have hlogW:=hlog.below hb0
 have hmemW:=hmem.below hb0
 have q0:W.cell? ⟨w.heap.size,0,none⟩=some (.int .i64 k):=q 0
 have q1:W.cell? ⟨w.heap.size,1,none⟩=some (.int .i64 f):=q 1
 have q2:W.cell? ⟨w.heap.size,2,none⟩=some (.int .i64 t):=q 2
 have q3:W.cell? ⟨w.heap.size,3,none⟩=some (.int .i64 ep):=q 3
 have q4:W.cell? ⟨w.heap.size,4,none⟩=some (.int .i64 ba):=q 4
 have q5:W.cell? ⟨w.heap.size,5,none⟩=some (.int .i64 vo):=q 5
 have q6:W.cell? ⟨w.heap.size,6,none⟩=some (.int .i64 po):=q 6
 have q7:W.cell? ⟨w.heap.size,7,none⟩=some (.int .i64 va):=q 7
 have q8:W.cell? ⟨w.heap.size,8,none⟩=some (.slice am ms.length cm):=q 8
 have q9:W.cell? ⟨w.heap.size,9,none⟩=some (.slice al es.length cl):=q 9
 have hsz':w.heap.size<W.heap.size:=by omega
 clear q hsz;go_enter Tryz.func166,Tryz.ntmps166
 go_wp2_with fail;clear hW;refine (numbers_any k f t ep ba vo po va _ _ es _ hlogW h4).mono ?_
 rintro e w1 ⟨hb1,hd,lg,rfl,hhd,hlg⟩;have hmem1:=hmemW.below hb1
 go_wp2_with fail;refine (written_any hd _ _ hhd (by simp)).mono ?_
 rintro e w2 ⟨hb2,rfl⟩;go_wp2_with fail;refine (written_any _ _ _ (hmem1.below hb2) (by omega)).mono ?_
 rintro e w3 ⟨hb3,rfl⟩;have hlg3:=(hlg.below hb2).below hb3
 go_wp2_with fail;refine (written_any _ _ _ hlg3 (by rw[entsNums_length];omega)).mono ?_
 rintro e w4 ⟨hb4,rfl⟩;have hb14:Below W.heap.size W w4:=hb1.trans ((hb2.trans ((hb3.trans (hb4.mono hb3.size)).mono hb2.size)).mono hb1.size)
 have hb04:Below w.heap.size w w4:=hb0.trans (hb14.mono hb0.size)
 by_cases g1:(List.all [f,t,ep,ba,vo,po,va] numOk)=true
 ·by_cases g2:ms.all numOk=true
  ·by_cases g3:(entsNums es).all numOk=true
   ·rw[writtenOf_yes g1,writtenOf_yes g2,writtenOf_yes g3]
    have r0:=cell_later hb14 q0
    have r9:=cell_later hb14 q9
    have t1:=numsBytes_length [f,t,ep,ba,vo,po,va]
    have t2:=numsBytes_length ms
    have t3:=numsBytes_length (entsNums es)
    have t4:=entsNums_length es
    have t5:([f,t,ep,ba,vo,po,va]:List Int).length=7:=rfl
    have t6:=oneB_length k.toNat
    have t7:=oneB_length ms.length
    have t8:=oneB_length es.length
    have a1:=add_bs (oneB k.toNat) (numsBytes [f,t,ep,ba,vo,po,va]) (by omega)
    have a2:=add_bs (oneB k.toNat++numsBytes [f,t,ep,ba,vo,po,va]) (oneB ms.length) (by simp only [List.length_append];omega)
    have a3:=add_bs (oneB k.toNat++(numsBytes [f,t,ep,ba,vo,po,va]++oneB ms.length)) (numsBytes ms) (by simp only [List.length_append];omega)
    have a4:=add_bs (oneB k.toNat++(numsBytes [f,t,ep,ba,vo,po,va]++(oneB ms.length++numsBytes ms))) (oneB es.length) (by simp only [List.length_append];omega)
    have a5:=add_bs (oneB k.toNat++(numsBytes [f,t,ep,ba,vo,po,va]++(oneB ms.length++(numsBytes ms++oneB es.length)))) (numsBytes (entsNums es)) (by simp only [List.length_append];omega)
    simp only [List.append_assoc] at a1 a2 a3 a4 a5
    clear t1 t2 t3 t4 t5 t6 t7 t8;clear q0 q1 q2 q3 q4 q5 q6 q7 q8 q9;go_wp2_with fail;go_region_held3 (fun w'=>w'.cell? ⟨w.heap.size,0,none⟩=some (.int .i64 k)∧w'.cell? ⟨w.heap.size,9,none⟩=some (.slice al es.length cl)∧Below w.heap.size w w')
     (first|exact⟨r0,r9,hb04.drew⟩|(go_split_ands;exact⟨cell_later hbn (by assumption),cell_later hbn (by assumption),Below.trans (by assumption) (hbn.mono (Below.size (by assumption)))⟩))
     ((go_at_call 169;refine (one_any _ _ ?_).mono ?_;(omega);rintro e wn ⟨rfl,hbn⟩))
    have hBl:=body_length k [f,t,ep,ba,vo,po,va] ms es
    have hyes:Hid (encOf k [f,t,ep,ba,vo,po,va] ms es=(body k [f,t,ep,ba,vo,po,va] ms es++sumOf (body k [f,t,ep,ba,vo,po,va] ms es),0)):=encOf_yes ((msgOk_iff _ _ _ _).2 ⟨⟨h1,h2,h3,h4⟩,g1,g2,g3⟩)
    have hBd:oneB k.toNat++(numsBytes [f,t,ep,ba,vo,po,va]++(oneB ms.length++(numsBytes ms++(oneB es.length++numsBytes (entsNums es)))))=body k [f,t,ep,ba,vo,po,va] ms es:=rfl
    rw[hBd];clear hBd a1 a2 a3 a4 a5;generalize body k [f,t,ep,ba,vo,po,va] ms es=B at *
    have hBl':B.length≤1000:=by rw[hBl];simp only [List.length_cons,List.length_nil];omega
    clear hBl;have hcl:=crc_lt B
    have b1:=add_bs B (oneB (crc B)) (by rw[oneB_length];omega)
    have b2:=add_bs (B++oneB (crc B)) (oneB (crc B / 256)) (by simp only [List.length_append,oneB_length];omega)
    have b3:=add_bs (B++(oneB (crc B)++oneB (crc B / 256))) (oneB (crc B / 65536)) (by simp only [List.length_append,oneB_length];omega)
    have b4:=add_bs (B++(oneB (crc B)++(oneB (crc B / 256)++oneB (crc B / 65536)))) (oneB (crc B / 16777216)) (by simp only [List.length_append,oneB_length];omega)
    simp only [List.append_assoc] at b1 b2 b3 b4
    go_wp2_with fail;refine (Sum_any _ _ (by rw[bs_size];unfold maxLen;omega)).mono ?_
    rintro e w5 ⟨rfl,rfl⟩;rw[bs_list];go_wp2_with fail;refine (one_any _ _ (by omega)).mono ?_
    rintro e w6 ⟨rfl,hb6⟩;rw[show ((crc B:Nat):Int).toNat=crc B by omega]
    go_wp2_with fail;refine (one_any _ _ (by omega)).mono ?_
    rintro e w7 ⟨rfl,hb7⟩;rw[show (((crc B:Nat):Int) / 256).toNat=crc B / 256 by omega]
    go_wp2_with fail;refine (one_any _ _ (by omega)).mono ?_
    rintro e w8 ⟨rfl,hb8⟩;rw[show (((crc B:Nat):Int) / 65536).toNat=crc B / 65536 by omega]
    go_wp2_with fail;refine (one_any _ _ (by omega)).mono ?_
    rintro e w9 ⟨rfl,hb9⟩;rw[show (((crc B:Nat):Int) / 16777216).toNat=crc B / 16777216 by omega]
    go_wp2_with fail;go_ret2
    have hH := ‹w5.cell? _=_∧w5.cell? _=_∧Below w.heap.size w w5›
    refine⟨hH.2.2.trans ((hb6.trans ((hb7.trans ((hb8.trans (hb9.mono hb8.size)).mono hb7.size)).mono hb6.size)).mono hH.2.2.size), ?_⟩
    rw[hyes.out];rfl
   ·have g3':(entsNums es).all numOk=false:=by simpa using g3
    rw[writtenOf_yes g1,writtenOf_yes g2,writtenOf_not g3'];have hE:Hid (encOf k [f,t,ep,ba,vo,po,va] ms es=([],1)):=encOf_no (msgOk_false fun h=>g3 h.2.2.2)
    clear q0 q1 q2 q3 q4 q5 q6 q7 q8 q9;go_wp2_with fail;go_ret2
    exact⟨hb04,ret_no hE rfl⟩
  ·have g2':ms.all numOk=false:=by simpa using g2
   rw[writtenOf_yes g1,writtenOf_not g2'];have hE:Hid (encOf k [f,t,ep,ba,vo,po,va] ms es=([],1)):=encOf_no (msgOk_false fun h=>g2 h.2.2.1)
   clear q0 q1 q2 q3 q4 q5 q6 q7 q8 q9;go_wp2_with fail;go_ret2
   exact⟨hb04,ret_no hE rfl⟩
 ·have g1':(List.all [f,t,ep,ba,vo,po,va] numOk)=false:=by simpa using g1
  rw[writtenOf_not g1'];have hE:Hid (encOf k [f,t,ep,ba,vo,po,va] ms es=([],1)):=encOf_no (msgOk_false fun h=>g1 h.2.1)
  clear q0 q1 q2 q3 q4 q5 q6 q7 q8 q9;go_wp2_with fail;go_ret2
  exact⟨hb04,ret_no hE rfl⟩
theorem refEncode_any (k f t ep ba vo po va:Int)(mem log:Value)(ms:List Int)(es:List Ent)(w:World)(hmem:IntsAt w mem ms)(hlog:LogAt w log es):Calls Tryz.prog 166 #[.agg #[.int .i64 k,.int .i64 f,.int .i64 t,.int .i64 ep,.int .i64 ba,.int .i64 vo,.int .i64 po,.int .i64 va,mem,log]] w fun e w'=>Below w.heap.size w w'∧e=.returned (.tuple #[.string (bs (encOf k [f,t,ep,ba,vo,po,va] ms es).1),.int .i64 (encOf k [f,t,ep,ba,vo,po,va] ms es).2]):=by
 by_cases h:1≤k∧k≤16∧ms.length≤5∧es.length≤24
 ·exact refEncode_long k f t ep ba vo po va mem log ms es w hmem hlog h.1 h.2.1 h.2.2.1 h.2.2.2
 ·exact refEncode_short k f t ep ba vo po va mem log ms es w hmem hlog h
theorem byteAt_in (s:ByteArray)(k:Nat)(h:k<s.size):byteAt s.data.toList k=s[k].toNat:=by
 unfold byteAt
 have:s.data.toList.getD k 0=s[k]:=by
  rw[List.getD,List.getElem?_eq_getElem (by simpa using h)]
  rfl
 rw[this]
theorem byteAt_out (t:List UInt8)(k:Nat)(h:t.length≤k):byteAt t k=0:=by
 unfold byteAt
 rw[List.getD,List.getElem?_eq_none h]
 rfl
theorem at_any (s:ByteArray)(i:Int)(w:World)(_hs:s.size≤maxLen)(h0:0≤i)(h1:i≤1000000) :
  Calls Tryz.prog 170 #[.string s,.int .i64 i] w fun e w'=>e=.returned (.int .i64 (byteAt s.data.toList i.toNat:Nat))∧w'=w:=by
 unfold maxLen at _hs
 obtain⟨k,rfl⟩:=Int.eq_ofNat_of_zero_le h0
 rw[Int.toNat_natCast];by_cases h:k<s.size
 ·have hb:=byteAt_in s k h
  have H:Hid (byteAt s.data.toList k=s[k].toNat):=hb
  have hb256:=s[k].toNat_lt
  clear hb;go_enter Tryz.func170,Tryz.ntmps170
  go_wp2_with fail;go_ret;exact⟨ret_int (by rw[H.out]),rfl⟩
 ·have H:Hid (byteAt s.data.toList k=0):=byteAt_out _ _ (by simpa using h)
  go_enter Tryz.func170,Tryz.ntmps170
  go_wp2_with fail;go_ret;exact⟨ret_int (by rw[H.out];rfl),rfl⟩
theorem num_any (s:ByteArray)(i:Int)(w:World)(hs:s.size≤maxLen)(h0:0≤i)(h1:i≤100000) :
  Calls Tryz.prog 171 #[.string s,.int .i64 i] w fun e w'=>e=.returned (.int .i64 (numAt s.data.toList i.toNat))∧w'=w:=by
 go_enter Tryz.func171,Tryz.ntmps171
 go_wp2_with fail;refine (at_any s i _ hs h0 (by omega)).mono ?_
 rintro e w1 ⟨rfl,rfl⟩;go_wp2_with fail;refine (at_any s _ _ hs (by omega) (by omega)).mono ?_
 rintro e w1 ⟨rfl,rfl⟩;have b1:=byteAt_lt s.data.toList i.toNat
 have b2:=byteAt_lt s.data.toList (i+1).toNat
 go_wp2_with fail;go_ret;refine⟨ret_int ?_,rfl⟩
 unfold numAt
 rw[show (i+1).toNat=i.toNat+1 by omega]
theorem bs_take (L:List UInt8)(n:Nat):(bs L).extract 0 n=bs (L.take n):=by
 apply ByteArray.ext
 apply Array.toList_inj.1
 simp[bs]
theorem bs_drop (L:List UInt8)(n:Nat):(bs L).extract n L.length=bs (L.drop n):=by
 apply ByteArray.ext
 apply Array.toList_inj.1
 simp[bs]
 exact List.take_of_length_le (by simp)
theorem toList_bs (l:List UInt8):(bs l).toList=l:=by
 rw[ByteArray.toList_eq,bs_list]
theorem eq_bs (l m:List UInt8):((bs l).toList == (bs m).toList)=decide (l=m):=by
 rw[toList_bs,toList_bs];by_cases h:l=m<;>simp[h]
theorem boxed_later {w W w':World}{cs:Array Value}(hb:Below W.heap.size W w')(hs:W.heap.size=w.heap.size+1)(q:∀ j,W.cell? ⟨w.heap.size,j,none⟩=cs[j]?)(fz:∀ j,W.frozen? ⟨w.heap.size,j,none⟩=false) :
  (∀ j,w'.cell? ⟨w.heap.size,j,none⟩=cs[j]?)∧(∀ j,w'.frozen? ⟨w.heap.size,j,none⟩=false) :=
 ⟨fun j=>(hb.cell (p:=⟨w.heap.size,j,none⟩) (by show w.heap.size<_;omega)).trans (q j),fun j=>(hb.frozen (p:=⟨w.heap.size,j,none⟩) (by show w.heap.size<_;omega)).trans (fz j)⟩
theorem refDecode_a (L:List UInt8)(w:World)(h:L.length<21) :
  Calls Tryz.prog 139 #[.string (bs L)] w fun e w'=>Below w.heap.size w w'∧e=.returned (.tuple #[.agg #[.int .i64 0,.int .i64 0,.int .i64 0,.int .i64 0,.int .i64 0,.int .i64 0,.int .i64 0,.int .i64 0,.slice none 0 0,.slice none 0 0],.int .i64 1]):=by
 have hs:=bs_size L
 go_enter Tryz.func139,Tryz.ntmps139
 go_wp2_with fail;exact bodyPost_ret (v:=.tuple #[.agg #[.int .i64 0,.int .i64 0,.int .i64 0,.int .i64 0,.int .i64 0,.int .i64 0,.int .i64 0,.int .i64 0,.slice none 0 0,.slice none 0 0],.int .i64 1]) (by simp[results,Tryz.results139,go_sem]) rfl ⟨(Below.refl _ _).alloc (Nat.le_refl _) _,rfl⟩
theorem refDecode_b (L T:List UInt8)(w:World)(h:21≤L.length)(hm:L.length≤140737488355328)(hT:T=L.take (L.length-4))(hno:T++sumOf T≠L) :
  Calls Tryz.prog 139 #[.string (bs L)] w fun e w'=>Below w.heap.size w w'∧e=.returned (.tuple #[.agg #[.int .i64 0,.int .i64 0,.int .i64 0,.int .i64 0,.int .i64 0,.int .i64 0,.int .i64 0,.int .i64 0,.slice none 0 0,.slice none 0 0],.int .i64 2]):=by
 have hs:=bs_size L
 have hx:(bs L).extract 0 (L.length-4)=bs T:=by rw[bs_take,hT]
 have hTl:T.length≤140737488355328:=by rw[hT,List.length_take];omega
 clear hT;obtain⟨W,hW,hb0,hsz,q,fz⟩:=boxed w #[.int .i64 0,.int .i64 0,.int .i64 0,.int .i64 0,.int .i64 0,.int .i64 0,.int .i64 0,.int .i64 0,.slice none 0 0,.slice none 0 0] 134
 have hcl:=crc_lt T
 have b1:=add_bs T (oneB (crc T)) (by rw[oneB_length];omega)
 have b2:=add_bs (T++oneB (crc T)) (oneB (crc T / 256)) (by simp only [List.length_append,oneB_length];omega)
 have b3:=add_bs (T++(oneB (crc T)++oneB (crc T / 256))) (oneB (crc T / 65536)) (by simp only [List.length_append,oneB_length];omega)
 have b4:=add_bs (T++(oneB (crc T)++(oneB (crc T / 256)++oneB (crc T / 65536)))) (oneB (crc T / 16777216)) (by simp only [List.length_append,oneB_length];omega)
 simp only [List.append_assoc] at b1 b2 b3 b4
 go_enter Tryz.func139,Tryz.ntmps139
 go_wp2_with fail;refine (Sum_any _ _ (by rw[bs_size];unfold maxLen;omega)).mono ?_
 rintro e w5 ⟨rfl,rfl⟩;clear hW;rw[bs_list];go_wp2_with fail;refine (one_any _ _ (by omega)).mono ?_
 rintro e w6 ⟨rfl,hb6⟩;rw[show ((crc T:Nat):Int).toNat=crc T by omega]
 go_wp2_with fail;refine (one_any _ _ (by omega)).mono ?_
 rintro e w7 ⟨rfl,hb7⟩;rw[show (((crc T:Nat):Int) / 256).toNat=crc T / 256 by omega]
 go_wp2_with fail;refine (one_any _ _ (by omega)).mono ?_
 rintro e w8 ⟨rfl,hb8⟩;rw[show (((crc T:Nat):Int) / 65536).toNat=crc T / 65536 by omega]
 go_wp2_with fail;refine (one_any _ _ (by omega)).mono ?_
 rintro e w9 ⟨rfl,hb9⟩;rw[show (((crc T:Nat):Int) / 16777216).toNat=crc T / 16777216 by omega]
 have hb09:=hb6.trans ((hb7.trans ((hb8.trans (hb9.mono hb8.size)).mono hb7.size)).mono hb6.size)
 obtain⟨q',fz'⟩:=boxed_later hb09 hsz q fz
 have hbw:=hb0.trans (hb09.mono hb0.size)
 have hne:((bs (T++(oneB (crc T)++(oneB (crc T / 256)++(oneB (crc T / 65536)++oneB (crc T / 16777216)))))).toList == (bs L).toList)=false:=by
  rw[eq_bs];exact decide_eq_false hno
 clear b1 b2 b3 q fz hsz;go_wp2_with fail;refine bodyPost_ret (v:=.tuple #[.agg #[.int .i64 0,.int .i64 0,.int .i64 0,.int .i64 0,.int .i64 0,.int .i64 0,.int .i64 0,.int .i64 0,.slice none 0 0,.slice none 0 0],.int .i64 2]) (by simp[results,Tryz.results139,go_sem,q']) rfl ⟨?_,rfl⟩
 iterate 10 refine Below.setCell ?_ (by exact Nat.le_refl _) _
 exact hbw
end Go.Proofs.YtgieeeeeiggoeaaGreat
