import Derived.Test.YtgieeeeeiggoeaaGreatC13
import Derived.Test.YtgieeeeeiggoeaaGreatC28
import Derived.Test.YtgieeeeeiggoeaaGreatC21
import Derived.Test.YtgieeeeeiggoeaaGreatC23
import Derived.Lib.MinMax
import Derived.Deep.OwnRows
set_option maxRecDepth 100000
set_option maxHeartbeats 1000000
namespace Go.Proofs.YtgieeeeeiggoeaaGreat
open Go.RowKit Go.Shelf
theorem hasBytes_short (k f t ep ba vo po va:Int)(am al:Option Addr)(lm cm ll cl:Nat)(w:World)(hno:¬ (1≤k∧k≤16∧lm≤5∧ll≤24)) :
  Calls Tryz.prog 122 #[.agg #[.int .i64 k,.int .i64 f,.int .i64 t,.int .i64 ep,.int .i64 ba,.int .i64 vo,.int .i64 po,.int .i64 va,.slice am lm cm,.slice al ll cl]] w fun e w'=>e=.returned (.bool false)∧Below w.heap.size w w':=by
 have hb:∀ o o',Below w.heap.size w ((w.alloc o).alloc o'):=fun o o'=>((Below.refl _ _).alloc (Nat.le_refl _) _).alloc (by simp) _
 by_cases hk:1≤k∧k≤16
 ·have hk':Hid (kindOk k=true):=hideA (by unfold kindOk;simp[hk.1,hk.2])
  by_cases h3:5<lm
  ·clear hno hk
   go_enter Tryz.func122,Tryz.ntmps122
   go_wp2_with fail;refine (isKind_any _ _).mono ?_
   rintro e W' ⟨rfl,rfl⟩;rw[hk'.out];go_wp2_with fail;exact bodyPost_ret (v:=.bool false) (by simp[results,Tryz.results122,go_sem]) rfl ⟨rfl,hb _ _⟩
  ·have h4:24<ll:=by omega
   clear hno hk;go_enter Tryz.func122,Tryz.ntmps122
   go_wp2_with fail;refine (isKind_any _ _).mono ?_
   rintro e W' ⟨rfl,rfl⟩;rw[hk'.out];go_wp2_with fail;exact bodyPost_ret (v:=.bool false) (by simp[results,Tryz.results122,go_sem]) rfl ⟨rfl,hb _ _⟩
 ·have hk':Hid (kindOk k=false):=hideA (by
   unfold kindOk
   by_cases h1:1≤k<;>by_cases h2:k≤16<;>simp_all)
  clear hno hk;go_enter Tryz.func122,Tryz.ntmps122
  go_wp2_with fail;refine (isKind_any _ _).mono ?_
  rintro e W' ⟨rfl,rfl⟩;rw[hk'.out];go_wp2_with fail;exact bodyPost_ret (v:=.bool false) (by simp[results,Tryz.results122,go_sem]) rfl ⟨rfl,hb _ _⟩
theorem wireEncode_slices (k f t ep ba vo po va:Int)(am al:Option Addr)(cm cl:Nat)(ms:List Int)(es:List Ent)(base:Nat)(w:World)(hmem:IntsAt w (.slice am ms.length cm) ms)
  (hlog:w.ownsRow base 42 5 (.slice al es.length cl) es.length (ints (entsNums es))) :
  Calls Tryz.prog 67 #[.agg #[.int .i64 k,.int .i64 f,.int .i64 t,.int .i64 ep,.int .i64 ba,.int .i64 vo,.int .i64 po,.int .i64 va,.slice am ms.length cm,.slice al es.length cl]] w fun e w'=>Below w.heap.size w w'∧e=.returned (.tuple #[.string (bs (encOf k [f,t,ep,ba,vo,po,va] ms es).1),.int .i64 (encOf k [f,t,ep,ba,vo,po,va] ms es).2]):=by
 obtain⟨W,hW,hbW,hsW,q, -⟩:=boxed w #[.int .i64 k,.int .i64 f,.int .i64 t,.int .i64 ep,.int .i64 ba,.int .i64 vo,.int .i64 po,.int .i64 va,.slice am ms.length cm,.slice al es.length cl] 134
 have hmemW:=hmem.below hbW
 have hlogW:=okp hlog fun k _ hk=>hbW.block k hk
 have q0:=q 0
 have q1:=q 1
 have q2:=q 2
 have q3:=q 3
 have q4:=q 4
 have q5:=q 5
 have q6:=q 6
 have q7:=q 7
 have q8:=q 8
 have q9:=q 9
 have hws:w.heap.size<W.heap.size:=by omega
 clear q hsW;by_cases hlong:1≤k∧k≤16∧ms.length≤5∧es.length≤24
 ·obtain⟨h1,h2,h3,h4⟩:=hlong
  go_enter Tryz.func67,Tryz.ntmps67
  go_wp2_with fail;clear hW;refine (callsIn_wide.1 (hasBytes_in 3 (hideA (by omega)) k f t ep ba vo po va _ _ ms es base W hmemW hlogW h1 h2 h3 h4)).mono ?_
  rintro e W2 ⟨rfl,hb2⟩;have hbw2:=hbW.trans (hb2.mono hbW.size)
  cases hok:msgOk k [f,t,ep,ba,vo,po,va] ms es with
  | false =>
   have hE:Hid (encOf k [f,t,ep,ba,vo,po,va] ms es=([],1)):=encOf_no hok
   clear hok q0 q1 q2 q3 q4 q5 q6 q7 q8 q9;go_wp2_with fail;go_ret2
   exact⟨hbw2,ret_no hE rfl⟩
  | true =>
   have hE:Hid (encOf k [f,t,ep,ba,vo,po,va] ms es=(body k [f,t,ep,ba,vo,po,va] ms es++sumOf (body k [f,t,ep,ba,vo,po,va] ms es),0)):=encOf_yes hok
   have r0:=cell_later hb2 q0
   have r1:=cell_later hb2 q1
   have r2:=cell_later hb2 q2
   have r3:=cell_later hb2 q3
   have r4:=cell_later hb2 q4
   have r5:=cell_later hb2 q5
   have r6:=cell_later hb2 q6
   have r7:=cell_later hb2 q7
   have r8:=cell_later hb2 q8
   have r9:=cell_later hb2 q9
   have Hok:=hideA hok;clear hok q0 q1 q2 q3 q4 q5 q6 q7 q8 q9;go_wp2_with fail;refine (callsIn_wide.1 (writeBody_in 3 (hideA (by omega)) k f t ep ba vo po va am al cm cl ms es base _ (hmemW.below hb2) (okp hlogW fun k _ hk=>hb2.block k hk) Hok)).mono ?_
   rintro e W3 ⟨rfl,hb3⟩;have hbd:=body_length k [f,t,ep,ba,vo,po,va] ms es
   have hl1:(body k [f,t,ep,ba,vo,po,va] ms es).length≤1000:=by rw[hbd];simp only [List.length_cons,List.length_nil];omega
   clear hbd r0 r1 r2 r3 r4 r5 r6 r7 r8 r9;have hadd:=add_bs (body k [f,t,ep,ba,vo,po,va] ms es) (sumOf (body k [f,t,ep,ba,vo,po,va] ms es)) (by rw[sumOf_length];omega)
   generalize body k [f,t,ep,ba,vo,po,va] ms es=BD at *
   go_wp2_with fail;refine (sumBytes_any (bs BD) _ (by rw[bs_size];unfold maxLen;omega)).mono ?_
   rintro e W4 ⟨rfl,hb4⟩;rw[bs_list];go_wp2_with fail;go_ret2
   refine⟨hbw2.trans ((hb3.trans (hb4.mono hb3.size)).mono hbw2.size), ?_⟩
   rw[hE.out];rfl
 ·have hE:Hid (encOf k [f,t,ep,ba,vo,po,va] ms es=([],1)):=encOf_no (msgOk_false fun h=>hlong h.1)
  go_enter Tryz.func67,Tryz.ntmps67
  go_wp2_with fail;clear hW;refine (hasBytes_short k f t ep ba vo po va am al ms.length cm es.length cl W hlong).mono ?_
  rintro e W2 ⟨rfl,hb2⟩;clear q0 q1 q2 q3 q4 q5 q6 q7 q8 q9;go_wp2_with fail;go_ret2
  exact⟨hbW.trans (hb2.mono hbW.size),ret_no hE rfl⟩
theorem wireEncode_any (k f t ep ba vo po va:Int)(mem log:Value)(ms:List Int)(es:List Ent)(base:Nat)(w:World)(hmem:IntsAt w mem ms)(hlog:w.ownsRow base 42 5 log es.length (ints (entsNums es))) :
  Calls Tryz.prog 67 #[.agg #[.int .i64 k,.int .i64 f,.int .i64 t,.int .i64 ep,.int .i64 ba,.int .i64 vo,.int .i64 po,.int .i64 va,mem,log]] w fun e w'=>Below w.heap.size w w'∧e=.returned (.tuple #[.string (bs (encOf k [f,t,ep,ba,vo,po,va] ms es).1),.int .i64 (encOf k [f,t,ep,ba,vo,po,va] ms es).2]):=by
 have hmem1:=hmem
 obtain⟨am,cm,rfl, -⟩:=hmem1;obtain⟨al,cl,rfl⟩:=osh hlog
 exact wireEncode_slices k f t ep ba vo po va am al cm cl ms es base w hmem hlog
theorem append_rowG {t e:TypeId}{z:Value}{size bytes:Nat}(hinfo:(Tryz.prog.info? e).map (fun i=>(i.zero,i.size,i.bytes))=some (some z,size,bytes))(hu:Tryz.prog.underlying t=some (.slice e))(hzs:z.cells.size=size)(hsz:0<size)
  (W:World) (base:Nat) (v:Value) (n:Nat) (xs news:List Value) (g:Nat) (hown:W.ownsRow base e size v n xs) (hg:W.heap[g]?=some (.cells news.toArray e)) (hnl:news.length=size) (h1:∀ u∈news,u.oneCell'=true) (hl:n≤3000000000000) (hbb:(n+1)*bytes≤140737488355328) (hb:base≤W.heap.size) :
  ∃ g' cap W',(∀ ty,(Builtin.append_ #[t,t] ty #[v,.slice (some ⟨g,0,none⟩) 1 1]).run Tryz.prog W=.ok (.slice (some ⟨g',0,none⟩) (n+1) cap) W') ∧
   W'.ownsRow base e size (.slice (some ⟨g',0,none⟩) (n+1) cap) (n+1) (xs++news)∧W.grownBy W' v.ownBlock∧(v.ownBlock=some g'∨g'=W.heap.size):=by
 obtain⟨i0,hi,hz0,hz1,hz2⟩:=info_parts hinfo
 have hA:∀ ty,∃ g' cap W',(Builtin.append_ #[t,t] ty #[v,.slice (some ⟨g,0,none⟩) 1 1]).run Tryz.prog W=.ok (.slice (some ⟨g',0,none⟩) (n+1) cap) W' ∧
   W'.ownsRow base e size (.slice (some ⟨g',0,none⟩) (n+1) cap) (n+1) (xs++news)∧W.grownBy W' v.ownBlock∧(v.ownBlock=some g'∨g'=W.heap.size):=fun ty=>by
  obtain⟨g',cap,W',hr,h2,h3,h4, -⟩:=run_append_lies (P:=Tryz.prog) W t ty base e i0 _ size bytes hu hi hz0 hz1 hz2 hzs hsz v n xs hown ⟨g,0,none⟩ 1 1 news (by rw[hnl,Nat.one_mul])
   (fun j u hj=>World.news_of_block hg j u (by simpa using hj)) h1 (by omega) (by unfold maxLen;omega) hbb hb _ rfl
  exact⟨g',cap,W',hr,h2,h3,h4⟩
 obtain⟨g',cap,W',hr,h2,h3⟩:=hA 0
 refine⟨g',cap,W',fun ty => ?_,h2,h3⟩
 rw[← hr];rfl
theorem append_row {t e:TypeId}{z:Value}{size bytes:Nat}(hinfo:(Tryz.prog.info? e).map (fun i=>(i.zero,i.size,i.bytes))=some (some z,size,bytes))(hu:Tryz.prog.underlying t=some (.slice e))(hzs:z.cells.size=size)(hsz:0<size)
  (W:World) (base:Nat) (v:Value) (n:Nat) (xs news:List Value) (g:Nat) (hown:W.ownsRow base e size v n xs) (hg:W.heap[g]?=some (.cells news.toArray e)) (hnl:news.length=size) (h1:∀ u∈news,u.oneCell'=true) (hl:n≤1000000000000) (hby:bytes≤100) (hb:base≤W.heap.size) :
  ∃ g' cap W',(∀ ty,(Builtin.append_ #[t,t] ty #[v,.slice (some ⟨g,0,none⟩) 1 1]).run Tryz.prog W=.ok (.slice (some ⟨g',0,none⟩) (n+1) cap) W') ∧
   W'.ownsRow base e size (.slice (some ⟨g',0,none⟩) (n+1) cap) (n+1) (xs++news)∧W.grownBy W' v.ownBlock∧(v.ownBlock=some g'∨g'=W.heap.size) :=
 append_rowG hinfo hu hzs hsz W base v n xs news g hown hg hnl h1 (by omega) (Nat.le_trans (Nat.mul_le_mul (by omega:n+1≤1000000000001) hby) (by decide)) hb
theorem append_row3 {t e:TypeId}{z:Value}{size bytes:Nat}(hinfo:(Tryz.prog.info? e).map (fun i=>(i.zero,i.size,i.bytes))=some (some z,size,bytes))(hu:Tryz.prog.underlying t=some (.slice e))(hzs:z.cells.size=size)(hsz:0<size)
  (W:World) (base:Nat) (v:Value) (n:Nat) (xs news:List Value) (g:Nat) (hown:W.ownsRow base e size v n xs) (hg:W.heap[g]?=some (.cells news.toArray e)) (hnl:news.length=size) (h1:∀ u∈news,u.oneCell'=true) (hl:n≤3000000000000) (hby:bytes≤40) (hb:base≤W.heap.size) :
  ∃ g' cap W',(∀ ty,(Builtin.append_ #[t,t] ty #[v,.slice (some ⟨g,0,none⟩) 1 1]).run Tryz.prog W=.ok (.slice (some ⟨g',0,none⟩) (n+1) cap) W') ∧
   W'.ownsRow base e size (.slice (some ⟨g',0,none⟩) (n+1) cap) (n+1) (xs++news)∧W.grownBy W' v.ownBlock∧(v.ownBlock=some g'∨g'=W.heap.size) :=
 append_rowG hinfo hu hzs hsz W base v n xs news g hown hg hnl h1 hl (Nat.le_trans (Nat.mul_le_mul (by omega:n+1≤3000000000001) hby) (by decide)) hb
def bagV (l:List (List UInt8 × Bool)):List Value:=l.map (fun f=>Value.string (bs f.1))
def bagF (l:List (List UInt8 × Bool)):List Value:=l.flatMap (fun f=>[Value.string (bs f.1),.bool f.2])
theorem bagF_at (l:List (List UInt8 × Bool))(i:Nat)(f:List UInt8 × Bool)(hf:l[i]?=some f):(bagF l)[i*2]?=some (.string (bs f.1))∧(bagF l)[i*2+1]?=some (.bool f.2):=by
 induction l generalizing i with
 | nil=>simp at hf
 | cons a t ih =>
  have e:bagF (a :: t)=[Value.string (bs a.1),.bool a.2]++bagF t:=by simp[bagF]
  rw[e];cases i with
  | zero =>
   simp at hf
   subst hf;exact⟨rfl,rfl⟩
  | succ i =>
   rw[List.getElem?_append_right (by simp;omega),List.getElem?_append_right (by simp;omega),show (i+1)*2 - [Value.string (bs a.1),Value.bool a.2].length=i*2 by simp;omega,show (i+1)*2+1 - [Value.string (bs a.1),Value.bool a.2].length=i*2+1 by simp;omega]
   exact ih i (by simpa using hf)
structure BagIn (w:World)(x:Nat)(vs vr va vm vb vt:Value)(l:List (List UInt8 × Bool)):Prop where
 blk:w.heap[x]?=some (.cells #[vs,vr,va,vm,vb,vt] 93)
 row:w.ownsRow 0 138 2 vb l.length (bagF l)
def BagS (x:Nat)(vb:Value)(k:Nat):Prop:=k=x∨vb.ownBlock=some k
def BagTo (w w':World)(x:Nat)(vs vr va vm vb vt:Value)(l':List (List UInt8 × Bool)):Prop:=∃ vb',BagIn w' x vs vr va vm vb' vt l'∧Moved w w' (BagS x vb)∧Grows w vb vb'
theorem BagIn.below {w w':World}{x:Nat}{vs vr va vm vb vt:Value}{l:List (List UInt8 × Bool)}(h:BagIn w x vs vr va vm vb vt l)(hb:Below w.heap.size w w'):BagIn w' x vs vr va vm vb vt l :=
 ⟨(hb.block x (Array.getElem?_eq_some_iff.1 h.blk).1).trans h.blk,okp h.row fun k _ hk=>hb.block k hk⟩
theorem BagTo.trans {w w1 w2:World}{x:Nat}{vs vr va vm vb vb1 vt:Value}{l':List (List UInt8 × Bool)}(hm:Moved w w1 (BagS x vb))(hg:Grows w vb vb1)(h':BagTo w1 w2 x vs vr va vm vb1 vt l'):BagTo w w2 x vs vr va vm vb vt l':=by
 obtain⟨vb2,h1,h2,h3⟩:=h';refine⟨vb2,h1,hm.trans h2 (fun k hk hS => ?_),hg.trans h3 hm.size⟩
 rcases hS with e|e
 ·exact .inl e
 ·rcases hg k e with h4|h4
  ·exact .inr h4
  ·omega
theorem set6_4 {W:World}{g:Nat}{T:TypeId}{a0 a1 a2 a3 a4 a5:Value}(v:Value)(h:W.heap[g]?=some (.cells #[a0,a1,a2,a3,a4,a5] T)):(W.setCell ⟨g,4,none⟩ v).heap[g]?=some (.cells #[a0,a1,a2,a3,v,a5] T):=heap_setCell_same _ _ _ _ _ _ h
theorem set6_5 {W:World}{g:Nat}{T:TypeId}{a0 a1 a2 a3 a4 a5:Value}(v:Value)(h:W.heap[g]?=some (.cells #[a0,a1,a2,a3,a4,a5] T)):(W.setCell ⟨g,5,none⟩ v).heap[g]?=some (.cells #[a0,a1,a2,a3,a4,v] T):=heap_setCell_same _ _ _ _ _ _ h
theorem set6_0 {W:World}{g:Nat}{T:TypeId}{a0 a1 a2 a3 a4 a5:Value}(v:Value)(h:W.heap[g]?=some (.cells #[a0,a1,a2,a3,a4,a5] T)):(W.setCell ⟨g,0,none⟩ v).heap[g]?=some (.cells #[v,a1,a2,a3,a4,a5] T):=heap_setCell_same _ _ _ _ _ _ h
theorem set6_1 {W:World}{g:Nat}{T:TypeId}{a0 a1 a2 a3 a4 a5:Value}(v:Value)(h:W.heap[g]?=some (.cells #[a0,a1,a2,a3,a4,a5] T)):(W.setCell ⟨g,1,none⟩ v).heap[g]?=some (.cells #[a0,v,a2,a3,a4,a5] T):=heap_setCell_same _ _ _ _ _ _ h
theorem set6_2 {W:World}{g:Nat}{T:TypeId}{a0 a1 a2 a3 a4 a5:Value}(v:Value)(h:W.heap[g]?=some (.cells #[a0,a1,a2,a3,a4,a5] T)):(W.setCell ⟨g,2,none⟩ v).heap[g]?=some (.cells #[a0,a1,v,a3,a4,a5] T):=heap_setCell_same _ _ _ _ _ _ h
theorem set6_3 {W:World}{g:Nat}{T:TypeId}{a0 a1 a2 a3 a4 a5:Value}(v:Value)(h:W.heap[g]?=some (.cells #[a0,a1,a2,a3,a4,a5] T)):(W.setCell ⟨g,3,none⟩ v).heap[g]?=some (.cells #[a0,a1,a2,v,a4,a5] T):=heap_setCell_same _ _ _ _ _ _ h
def putOne (l:List (List UInt8 × Bool))(f:List UInt8 × Bool):List (List UInt8 × Bool):=if l.length<200 then l++[f] else l
theorem bagF_length (l:List (List UInt8 × Bool)):(bagF l).length=l.length*2:=by
 induction l with
 | nil=>rfl
 | cons a t ih =>
  have e:bagF (a :: t)=[Value.string (bs a.1),.bool a.2]++bagF t:=by simp[bagF]
  rw[e,List.length_append,ih,List.length_cons];simp
  omega
theorem bagF_one (l:List (List UInt8 × Bool)):∀ u∈bagF l,u.oneCell'=true:=by
 intro u hu;unfold bagF at hu
 rw[List.mem_flatMap] at hu
 obtain⟨f,_,hf⟩:=hu;simp at hf
 rcases hf with rfl|rfl<;>rfl
theorem bagF_append (l m:List (List UInt8 × Bool)):bagF (l++m)=bagF l++bagF m:=by unfold bagF;rw[List.flatMap_append]
theorem append_frames (W:World)(vb:Value)(l:List (List UInt8 × Bool))(f:List UInt8 × Bool)(g m:Nat)(hown:W.ownsRow 0 138 2 vb l.length (bagF l))(hg:W.heap[g]?=some (.cells #[.string (bs f.1),.bool f.2] 138))(hl:l.length≤200)(hm:m≤1) :
  ∃ v' W',(∀ ty,(Builtin.append_ #[88,88] ty #[vb,.slice (some ⟨g,0,none⟩) m 1]).run Tryz.prog W=.ok v' W') ∧
   W'.ownsRow 0 138 2 v' (l.length+m) (bagF (l++[f].take m))∧W.grownBy W' vb.ownBlock∧(v'.ownBlock=vb.ownBlock∨v'.ownBlock=some W.heap.size):=by
 obtain⟨i0,hi,hz0,hz1,hz2⟩:=info_parts infoFrame
 have hA:∀ ty,∃ v' W',(Builtin.append_ #[88,88] ty #[vb,.slice (some ⟨g,0,none⟩) m 1]).run Tryz.prog W=.ok v' W' ∧
   W'.ownsRow 0 138 2 v' (l.length+m) (bagF (l++[f].take m))∧W.grownBy W' vb.ownBlock∧(v'.ownBlock=vb.ownBlock∨v'.ownBlock=some W.heap.size):=fun ty=>by
  obtain⟨v',W',hr,h2,h3,_,h5⟩:=run_append_own_at (P:=Tryz.prog) W 0 88 ty 138 i0 _ 2 24 Tryz.underlying88 hi hz0 hz1 hz2 rfl (by decide) vb l.length (bagF l) hown ⟨g,0,none⟩ m 1 (bagF ([f].take m))
   (by rw[bagF_length,List.length_take];simp;omega)
   (fun j u hj=>World.news_of_block hg j u (by
    have:m=0∨m=1:=by omega
    rcases this with rfl|rfl
    ·simp[bagF] at hj
    ·simpa [bagF] using hj))
   (bagF_one _) (by unfold maxLen;omega) (by omega) (Nat.zero_le _)
  rw[← bagF_append] at h2
  exact⟨v',W',hr,h2,h3,h5⟩
 obtain⟨v',W',hr,h2⟩:=hA 0
 refine⟨v',W',fun ty => ?_,h2⟩
 rw[← hr];rfl
theorem bagPut_any (x:Nat)(vs vr va vm vb vt:Value)(l:List (List UInt8 × Bool))(f:List UInt8 × Bool)(g:Nat)(w:World)(h:BagIn w x vs vr va vm vb vt l)(hl:l.length≤200)(hg:w.heap[g]?=some (.cells #[.string (bs f.1),.bool f.2] 138)) :
  Calls Tryz.prog 68 #[.pointer (some ⟨x,4,none⟩),.slice (some ⟨g,0,none⟩) 1 1] w fun e w'=>(∃ v,e=.returned v)∧BagTo w w' x vs vr va vm vb vt (putOne l f):=by
 have HI:=hideA h;obtain⟨ab,cb,rfl⟩:=osh h.row
 have c4:=coh h.blk 4
 obtain⟨m,hm⟩:∃ m:Nat,m=if l.length<200 then 1 else 0:=⟨_,rfl⟩
 have hm1:m≤1:=by rw[hm];split<;>omega
 have hput:putOne l f=l++[f].take m:=by
  unfold putOne
  rw[hm];split<;>simp
 have hmin:min (1:Int) (200-(l.length:Int))=(m:Int):=by
  rw[hm];split<;>omega
 have hwr:IntKind.i64.wrap (200-(l.length:Int))=200-(l.length:Int):=by rw[IntKind.wrap_i64];omega
 obtain⟨v',W',hrun,ho1,hg1,hwh⟩:=append_frames w.drew (.slice ab l.length cb) l f g m h.row hg hl hm1
 obtain⟨a9,c9,rfl⟩:=osh ho1
 have nb:(Value.slice ab l.length cb).ownBlock≠some x:=bty HI.out.blk HI.out.row (by decide)
 have hxl:x<w.heap.size:=(Array.getElem?_eq_some_iff.1 h.blk).1
 have hxW:W'.heap[x]?=some (.cells #[vs,vr,va,vm,.slice ab l.length cb,vt] 93):=(hg1.block x hxl (fun e=>nb e.symm)).trans h.blk
 have d4:=coh hxW 4
 have e4:=foh hxW 4
 have M1:Moved w W' (BagS x (.slice ab l.length cb)):=((Moved.refl w _).below (Below.refl _ w).drew).grown hg1 (fun k _ e=>.inr e)
 have HF:Hid (BagTo w (W'.setCell ⟨x,4,none⟩ (.slice a9 (l.length+m) c9)) x vs vr va vm (.slice ab l.length cb) vt (putOne l f)):=hideA (by
  refine⟨_,⟨set6_4 _ hxW, ?_⟩,M1.setCell ⟨x,4,none⟩ (.inl rfl) _, ?_⟩
  ·have hr:=ownsRow_setCell_other (a:=⟨x,4,none⟩) ho1 (bty hxW ho1 (by decide)) (.slice a9 (l.length+m) c9)
   rw[hput,List.length_append];have:([f].take m).length=m:=by rw[List.length_take];simp;omega
   rw[this];exact hr
  ·intro k hk
   rcases hwh with h5|h5
   ·exact .inl (h5 ▸ hk)
   ·rw[h5] at hk
    cases hk
    exact .inr (Nat.le_refl _))
 have HR:=hideA hrun;have hm0:(0:Int)≤(m:Int):=by omega
 have hm2:(m:Int)≤1:=by omega
 clear h hrun ho1 hg1 hwh M1 hm hput hg hxW;have mixed:Tryz.prog.follows Departure.mixedOrders=true:=by kernel_rfl
 go_enter Tryz.func68,Tryz.ntmps68
 go_upto_region 1 with fail
 go_region_law (first|(refine op_append rfl (.tmp 15) (.tmp 21) 88 rfl _ _ _ _ (by simp[Act.eval,Act.put]) (by simp[Act.eval,Act.put]) HR.out ?_))
 all_goals (
  go_wp2_with fail;go_end0
  exact⟨⟨_,rfl⟩,HF.out⟩)
theorem MsgsOwn.beside {w wr:World}{base x:Nat}{v:Value}{ms:List Msg}{vs vr va vm vb vt:Value}{l:List (List UInt8 × Bool)}(h:MsgsOwn w base v ms)(hB:BagIn w x vs vr va vm vb vt l)(hM:Moved w wr (BagS x vb)):MsgsOwn wr base v ms:=by
 have hrow:∀ {base size n:Nat} {e:TypeId} {v:Value} {xs:List Value},w.ownsRow base e size v n xs→e≠138→e≠93→wr.ownsRow base e size v n xs:=by
  intro base size n e v xs hv h1 h2;refine hM.owns hv fun k hk hS => ?_
  rcases hS with e1|e1
  ·exact bty hB.blk hv h2 (e1 ▸ hk)
  ·exact otw hv hB.row h1 k hk e1
 obtain⟨ws,h1,h2,h3⟩:=h;exact⟨ws,h1,hrow h2 (by decide) (by decide),fun t ht=>⟨hrow (h3 t ht).1 (by decide) (by decide),hrow (h3 t ht).2 (by decide) (by decide)⟩⟩
theorem MsgsOwn.at {w:World}{base:Nat}{v:Value}{ms:List Msg}(h:MsgsOwn w base v ms)(k:Nat)(hk:k<ms.length) :
  ∃ g cap m a1 d1 a2 d2,v=.slice (some ⟨g,0,none⟩) ms.length cap∧ms[k]?=some m∧IntOwn w (.slice a1 m.mems.length d1) m.mems∧LogOwn w (.slice a2 m.log.length d2) m.log∧∀ t,t<10→w.cell? ⟨g,k*10+t,none⟩=(mcells (m,.slice a1 m.mems.length d1,.slice a2 m.log.length d2))[t]?:=by
 obtain⟨ws,h1,h2,h3⟩:=h;have hwl:ws.length=ms.length:=by rw[← h1,List.length_map]
 obtain⟨g,cap,hv, -, -⟩:=h2.form (by omega)
 obtain⟨t,ht⟩:∃ t,ws[k]?=some t:=⟨_,List.getElem?_eq_getElem (by omega)⟩
 have hmem:t∈ws:=List.mem_of_getElem? ht
 obtain⟨m,xm,xl⟩:=t;obtain⟨i1,i2⟩:=h3 _ hmem
 obtain⟨a1,d1,e1⟩:=osh i1
 obtain⟨a2,d2,e2⟩:=osh i2
 simp only at e1 e2 i1 i2
 subst e1;subst e2;have hml:ms[k]?=some m:=by rw[← h1,List.getElem?_map,ht];rfl
 have flat:∀ (ws:List MsgV) (k:Nat) (u:MsgV),ws[k]?=some u→∀ t,t<10→(ws.flatMap mcells)[k*10+t]?=(mcells u)[t]?:=by
  intro ws;induction ws with
  | nil=>intro k u hu;simp at hu
  | cons a r ih =>
   intro k u hu t ht;have hl:(mcells a).length=10:=rfl
   rw[List.flatMap_cons];cases k with
   | zero =>
    simp at hu
    subst hu;rw[Nat.zero_mul,Nat.zero_add,List.getElem?_append_left (by omega)]
   | succ k =>
    rw[List.getElem?_append_right (by omega),hl,show (k+1)*10+t-10=k*10+t by omega]
    exact ih k u (by simpa using hu) t ht
 subst hv;refine⟨g,cap,m,a1,d1,a2,d2,rfl,hml,i1,i2,fun t ht2 => ?_⟩
 rw[World.ownsRow.cellAt h2 (k*10+t) (by omega)]
 exact flat ws k _ ht t ht2
def puts (l:List (List UInt8 × Bool))(ms:List Msg):List (List UInt8 × Bool):=(l++ms.map (fun m=>(m.frame,false))).take 200
theorem puts_len (l:List (List UInt8 × Bool))(ms:List Msg):(puts l ms).length≤200:=by unfold puts;rw[List.length_take];omega
theorem puts_snoc (l:List (List UInt8 × Bool))(ms:List Msg)(m:Msg):putOne (puts l ms) (m.frame,false)=puts l (ms++[m]):=by
 unfold putOne puts
 rw[List.map_append, ← List.append_assoc,List.length_take];generalize l++ms.map (fun m=>(m.frame,false))=A
 split
 ·rw[List.take_of_length_le (by omega:A.length≤200),List.take_of_length_le (by simp;omega)]
  rfl
 ·rw[List.take_append_of_le_length (by omega)]
theorem puts_nil (l:List (List UInt8 × Bool))(h:l.length≤200):puts l []=l:=by
 unfold puts
 rw[List.map_nil,List.append_nil,List.take_of_length_le h]
theorem msgs_snoc (ms:List Msg)(k:Nat)(m:Msg)(h:ms[k]?=some m):ms.take (k+1)=ms.take k++[m]:=by
 have hk:=(List.getElem?_eq_some_iff.1 h).1
 rw[List.take_succ_eq_append_getElem hk];congr 2
 exact (List.getElem?_eq_some_iff.1 h).2
theorem bagSend_any (x:Nat)(vs vr va vm vb vt:Value)(l:List (List UInt8 × Bool))(base:Nat)(v:Value)(ms:List Msg)(w:World)(h:BagIn w x vs vr va vm vb vt l)(hl:l.length≤200)(hv:MsgsOwn w base v ms)(hok:∀ m∈ms,m.ok=true)(hmn:ms.length≤100000) :
  Calls Tryz.prog 36 #[.pointer (some ⟨x,4,none⟩),v] w fun e w'=>(∃ v,e=.returned v)∧BagTo w w' x vs vr va vm vb vt (puts l ms):=by
 obtain⟨am,cm,rfl⟩:=hv.shape;have HI:=hideA h;have HM:=hideA hv;have HP:Hid (∀ W vb1 l1 f g,BagIn W x vs vr va vm vb1 vt l1→l1.length≤200→W.heap[g]?=some (.cells #[.string (bs f),.bool false] 138)→Calls Tryz.prog 68 #[.pointer (some ⟨x,4,none⟩),.slice (some ⟨g,0,none⟩) 1 1] W fun e w'=>(∃ v,e=.returned v)∧BagTo W w' x vs vr va vm vb1 vt (putOne l1 (f,false))):=hideA fun W vb1 l1 f g h1 h2 h3=>bagPut_any x vs vr va vm vb1 vt l1 (f,false) g W h1 h2 h3
 have HOk:=hideA hok;clear h hv hok;go_enter Tryz.func36,Tryz.ntmps36
 go_wp2_with fail;go_loopw [10] (fun i wr=>∃ k:Nat,k≤ms.length∧i=.int .i64 k∧∃ vb1,BagIn wr x vs vr va vm vb1 vt (puts l (ms.take k))∧Moved w wr (BagS x vb)∧Grows w vb vb1) (fun i _=>ms.length-(intOf i).toNat)
 case atStart=>exact⟨0,Nat.zero_le _,rfl,vb,by rw[List.take_zero,puts_nil l hl];exact HI.out,Moved.refl _ _,Grows.refl _ _⟩
 case round =>
  obtain⟨k,hk,rfl,vb1,hB,hMv,hGr⟩:=hrel;have HB:=hideA (And.intro hB (And.intro hMv hGr))
  clear hB hMv hGr;by_cases hlt:k<ms.length
  ·have hk1:(k:Int)<(ms.length:Int):=by omega
   obtain⟨g,cap,m,a1,d1,a2,d2,hsl,hmk,i1,i2,hcell⟩:=(HM.out.beside HI.out HB.out.2.1).at k hlt
   cases hsl
   have HT:=hideA (And.intro (msgs_snoc ms k m hmk) (HOk.out m (List.mem_of_getElem? hmk)))
   have HEn:Hid (∀ W,Below wr.heap.size wr W→Calls Tryz.prog 67 #[.agg #[.int .i64 m.kind,.int .i64 m.src,.int .i64 m.dst,.int .i64 m.epoch,.int .i64 m.ballot,.int .i64 m.vote,.int .i64 m.pos,.int .i64 m.value,.slice a1 m.mems.length d1,.slice a2 m.log.length d2]] W fun e w'=>Below W.heap.size W w'∧e=.returned (.tuple #[.string (bs m.frame),.int .i64 0])):=hideA fun W hb=>by
    have:=wireEncode_any m.kind m.src m.dst m.epoch m.ballot m.vote m.pos m.value (.slice a1 m.mems.length d1) (.slice a2 m.log.length d2) m.mems m.log 0 W (IntsAt.of_owns (okp i1 fun k _ hk=>hb.block k hk)) (okp i2 fun k _ hk=>hb.block k hk)
    rw[show encOf m.kind [m.src,m.dst,m.epoch,m.ballot,m.vote,m.pos,m.value] m.mems m.log=(m.frame,0) from encOf_yes HT.out.2] at this
    exact this
   have q0:=hcell 0 (by omega)
   have q1:=hcell 1 (by omega)
   have q2:=hcell 2 (by omega)
   have q3:=hcell 3 (by omega)
   have q4:=hcell 4 (by omega)
   have q5:=hcell 5 (by omega)
   have q6:=hcell 6 (by omega)
   have q7:=hcell 7 (by omega)
   have q8:=hcell 8 (by omega)
   have q9:=hcell 9 (by omega)
   simp only [mcells,List.getElem?_cons_zero,List.getElem?_cons_succ,Nat.add_zero] at q0 q1 q2 q3 q4 q5 q6 q7 q8 q9
   clear hcell i1 i2 hmk;go_upto_region 3 with fail
   obtain⟨X,hX,hbX,hM⟩:=msg_box wr m (.slice a1 m.mems.length d1) (.slice a2 m.log.length d2)
   rw[hX];clear hX q0 q1 q2 q3 q4 q5 q6 q7 q8 q9;have gM:=fun j=>coh hM j
   clear hM;go_wp2_with fail;refine (HEn.out X hbX).mono ?_
   rintro e Y ⟨hbY,rfl⟩;have hbW:=hbX.trans (hbY.mono hbX.size)
   clear gM;have hbN:∀ b,Below Y.heap.size Y (Y.alloc b):=fun b=>(Below.refl _ Y).alloc (Nat.le_refl _) b
   go_wp2_with fail;refine (HP.out _ vb1 _ m.frame Y.heap.size (HB.out.1.below (hbW.trans ((hbN _).mono hbW.size))) (puts_len _ _) (hnw _ _)).mono ?_
   rintro e Z ⟨⟨v9,rfl⟩,hto⟩;have HTo:=hideA hto;clear hto;go_wp2_with fail;go_roundw
   case rel =>
    refine⟨k+1,by omega,by go_num, ?_⟩
    rw[HT.out.1, ← puts_snoc];exact BagTo.trans (HB.out.2.1.below (hbW.trans ((hbN _).mono hbW.size))) HB.out.2.2 HTo.out
   case measure=>simp[intOf];omega
  ·obtain rfl:k=ms.length:=by omega
   go_wp2_with fail;go_end0
   refine⟨⟨_,rfl⟩,vb1, ?_,HB.out.2.1,HB.out.2.2⟩
   have:=HB.out.1
   rw[List.take_length] at this
   exact this
theorem bagHas_any (x:Nat)(vs vr va vm vb vt:Value)(l:List (List UInt8 × Bool))(i:Int)(w:World)(h:BagIn w x vs vr va vm vb vt l) :
  Calls Tryz.prog 62 #[.pointer (some ⟨x,4,none⟩),.int .i64 i] w fun e w'=>e=.returned (.bool (decide (0≤i∧i<(l.length:Int))))∧w'=w:=by
 obtain⟨ab,cb,rfl⟩:=osh h.row
 have c4:=coh h.blk 4
 clear h;by_cases h0:0≤i
 ·have H:Hid (decide (0≤i∧i<(l.length:Int))=decide (i<(l.length:Int))):=hideA (by simp[h0])
  generalize decide (0≤i∧i<(l.length:Int))=dd at *
  go_enter Tryz.func62,Tryz.ntmps62
  go_wp2_with fail;go_ret;exact⟨by rw[H.out];first|rfl|simp,rfl⟩
 ·have H:Hid (decide (0≤i∧i<(l.length:Int))=false):=hideA (by simp[h0])
  generalize decide (0≤i∧i<(l.length:Int))=dd at *
  go_enter Tryz.func62,Tryz.ntmps62
  go_wp2_with fail;go_ret;exact⟨by rw[H.out];first|rfl|simp,rfl⟩
theorem bagF_take (l:List (List UInt8 × Bool))(i:Nat):bagF (l.take i)=(bagF l).take (i*2):=by
 induction l generalizing i with
 | nil=>simp[bagF]
 | cons a t ih =>
  have e:bagF (a :: t)=[Value.string (bs a.1),.bool a.2]++bagF t:=by simp[bagF]
  cases i with
  | zero=>simp[bagF]
  | succ i =>
   have e2:bagF ((a :: t).take (i+1))=[Value.string (bs a.1),.bool a.2]++bagF (t.take i):=by simp[bagF]
   rw[e,e2,ih,show (i+1)*2=i*2+1+1 by omega]
   rfl
theorem bagF_drop (l:List (List UInt8 × Bool))(i:Nat):bagF (l.drop i)=(bagF l).drop (i*2):=by
 have h1:bagF l=bagF (l.take i)++bagF (l.drop i):=by rw[← bagF_append,List.take_append_drop]
 have h2:=List.take_append_drop (i*2) (bagF l)
 rw[bagF_take] at h1
 rw[← h2] at h1
 exact (List.append_cancel_left (by rw[List.take_append_drop] at h1;rw[h2];exact h1)).symm
theorem bagF_erase (l:List (List UInt8 × Bool))(i:Nat):dropTwo (bagF l) i=bagF (l.eraseIdx i):=by
 rw[eraseIdx_parts,bagF_append,bagF_take,bagF_drop];rfl
theorem bagTake_any (x:Nat)(vs vr va vm vb vt:Value)(l:List (List UInt8 × Bool))(k:Nat)(w:World)(h:BagIn w x vs vr va vm vb vt l)(hk:k<l.length)(hl:l.length≤200) :
  Calls Tryz.prog 64 #[.pointer (some ⟨x,4,none⟩),.int .i64 (k:Int)] w fun e w'=>e=.returned (.agg #[.string (bs (l.getD k ([],false)).1),.bool (l.getD k ([],false)).2])∧BagTo w w' x vs vr va vm vb vt (l.eraseIdx k):=by
 have HI:=hideA h;obtain⟨g,cb,hv, -, -⟩:=h.row.form (by omega)
 subst hv;have c4:=coh h.blk 4
 have hf:l[k]?=some (l.getD k ([],false)):=by rw[List.getD_eq_getElem?_getD,List.getElem?_eq_getElem hk];rfl
 have ck0:=World.ownsRow.cellAt h.row (k*2) (by omega)
 have ck1:=World.ownsRow.cellAt h.row (k*2+1) (by omega)
 rw[(bagF_at l k _ hf).1] at ck0
 rw[(bagF_at l k _ hf).2] at ck1
 have HD:Hid (∀ W,Below w.heap.size w W→Calls Tryz.prog 119 #[.slice (some ⟨g,0,none⟩) l.length cb,.int .i64 (k:Int),.int .i64 ((k:Int)+1)] W fun e w'=>e=.returned (.slice (some ⟨g,0,none⟩) (l.length-1) cb)∧w'.ownsRow 0 138 2 (.slice (some ⟨g,0,none⟩) (l.length-1) cb) (l.length-1) (dropTwo (bagF l) k)∧OneTurned W w' g):=hideA fun W hb=>delete_frames 0 g l.length cb k (bagF l) W (HI.out.below hb).row (bagF_one l) hk
 have hwr:IntKind.i64.wrap ((k:Int)+1)=(k:Int)+1:=by rw[IntKind.wrap_i64];omega
 have hgx:x≠g:=fun e=>bty h.blk h.row (by decide) (by rw[e];rfl)
 have hk0:(0:Int)≤(k:Int):=by omega
 have hk1:(k:Int)<(l.length:Int):=by omega
 have HE:Hid (l.length-1=(l.eraseIdx k).length):=hideA (by rw[List.length_eraseIdx,if_pos hk])
 clear h hf;generalize l.getD k ([],false)=fr at *
 obtain⟨A0,hA0,hbA0,hMA0⟩:=bm1 w #[.string ⟨#[]⟩,.bool false] 138
 have hs0:A0.heap.size=w.heap.size+1:=by rw[← hA0];simp
 obtain⟨A1,hA1,hbA1,hMA1⟩:=bm1 A0 #[.string (bs fr.1),.bool fr.2] 138
 have hbW:=hbA0.trans (hbA1.mono hbA0.size)
 have p4:=cell_later hbA0 c4
 have pk0:=cell_later hbA0 ck0
 have pk1:=cell_later hbA0 ck1
 have r4:=cell_later hbW c4
 have HM:=hideA (And.intro ((hbA1.block _ (by omega)).trans hMA0) hMA1)
 have HIW:=hideA (HI.out.below hbW)
 have hgl:g<w.heap.size:=(Array.getElem?_eq_some_iff.1 (obc HI.out.row (by rfl)).choose_spec.1).1
 have hxl:x<w.heap.size:=(Array.getElem?_eq_some_iff.1 HI.out.blk).1
 clear hMA0 hMA1;go_enter Tryz.func64,Tryz.ntmps64
 go_wp2_with fail;refine (HD.out A1 hbW).mono ?_
 rintro e Y ⟨rfl,hrow,hT⟩;have hYx:=(hT.block x hgx).trans HIW.out.blk
 have d4:=coh hYx 4
 have e4:=foh hYx 4
 have hY0:=(hT.block w.heap.size (by omega)).trans HM.out.1
 have hY1:=(hT.block A0.heap.size (by omega)).trans HM.out.2
 rw[hs0] at hY1
 have u0:=coh hY0 0
 have u1:=coh hY0 1
 have f0:=foh hY0 0
 have f1:=foh hY0 1
 have t0:Y.cell? ⟨w.heap.size+1,0,none⟩=some (.string (bs fr.1)):=coh hY1 0
 have t1:Y.cell? ⟨w.heap.size+1,1,none⟩=some (.bool fr.2):=coh hY1 1
 have hx1:¬ x=w.heap.size:=by omega
 have hx2:¬ w.heap.size=x:=by omega
 have hx3:¬ x=w.heap.size+1:=by omega
 have hx4:¬ w.heap.size+1=x:=by omega
 have HY:=hideA (And.intro hYx (And.intro hrow hT))
 clear hYx hrow hT c4 ck0 ck1 p4 pk0 pk1 r4 hY0 hY1;go_wp2_with fail;refine bodyPost_ret (v:=.agg #[.string (bs fr.1),.bool fr.2]) (by simp[results,Tryz.results64,go_sem,u0,u1]) rfl ?_
 have hM:Moved w Y (BagS x (.slice (some ⟨g,0,none⟩) l.length cb)):=by
  have M1:=(Moved.refl w (BagS x (.slice (some ⟨g,0,none⟩) l.length cb))).below hbW
  exact M1.trans (⟨HY.out.2.2.os,HY.out.2.2.tape,HY.out.2.2.output,by rw[HY.out.2.2.size];exact Nat.le_refl _,fun k _ hS=>HY.out.2.2.block k (fun e=>hS e)⟩:Moved A1 Y (fun k=>k=g)) (fun k _ e=>.inr (by rw[e];rfl))
 have hr0:=HY.out.2.1
 rw[bagF_erase,HE.out] at hr0
 have hset:∀ (U:World) (j:Nat) (v:Value),Moved w U (BagS x (.slice (some ⟨g,0,none⟩) l.length cb))→Moved w (U.setCell ⟨w.heap.size,j,none⟩ v) (BagS x (.slice (some ⟨g,0,none⟩) l.length cb)):=fun U j v hU=>hU.trans ((Moved.refl U (fun k=>w.heap.size≤k)).setCell ⟨w.heap.size,j,none⟩ (Nat.le_refl _) v) (fun k hk e=>by omega)
 have hgn:(Value.slice (some ⟨g,0,none⟩) (l.eraseIdx k).length cb).ownBlock≠some w.heap.size:=fun e=>by
  have:g=w.heap.size:=by simpa [Value.ownBlock] using e
  omega
 refine⟨rfl,.slice (some ⟨g,0,none⟩) (l.eraseIdx k).length cb,⟨?_, ?_⟩, ?_,fun k e=>.inl e⟩
 ·rw[Below.heap_setCell _ _ _ _ hx1,Below.heap_setCell _ _ _ _ hx1,HE.out]
  exact set6_4 _ HY.out.1
 ·rw[HE.out]
  exact ownsRow_setCell_other (ownsRow_setCell_other (ownsRow_setCell_other hr0 (bty HY.out.1 hr0 (by decide)) _) hgn _) hgn _
 ·exact hset _ _ _ (hset _ _ _ (hM.setCell ⟨x,4,none⟩ (.inl rfl) _))
theorem bagDouble_any (x:Nat)(vs vr va vm vb vt:Value)(l:List (List UInt8 × Bool))(k:Nat)(w:World)(h:BagIn w x vs vr va vm vb vt l)(hk:k<l.length)(hl:l.length≤200) :
  Calls Tryz.prog 129 #[.pointer (some ⟨x,4,none⟩),.int .i64 (k:Int)] w fun e w'=>(∃ v,e=.returned v)∧BagTo w w' x vs vr va vm vb vt (putOne l (l.getD k ([],false))):=by
 have HI:=hideA h;obtain⟨g,cb,hv, -, -⟩:=h.row.form (by omega)
 subst hv;have c4:=coh h.blk 4
 have hf:l[k]?=some (l.getD k ([],false)):=by rw[List.getD_eq_getElem?_getD,List.getElem?_eq_getElem hk];rfl
 have ck0:=World.ownsRow.cellAt h.row (k*2) (by omega)
 have ck1:=World.ownsRow.cellAt h.row (k*2+1) (by omega)
 rw[(bagF_at l k _ hf).1] at ck0
 rw[(bagF_at l k _ hf).2] at ck1
 have hk0:(0:Int)≤(k:Int):=by omega
 have hk1:(k:Int)<(l.length:Int):=by omega
 clear h hf;generalize l.getD k ([],false)=fr at *
 have HP:Hid (∀ W g2,Below w.heap.size w W→W.heap[g2]?=some (.cells #[.string (bs fr.1),.bool fr.2] 138)→Calls Tryz.prog 68 #[.pointer (some ⟨x,4,none⟩),.slice (some ⟨g2,0,none⟩) 1 1] W fun e w'=>(∃ v,e=.returned v)∧BagTo W w' x vs vr va vm (.slice (some ⟨g,0,none⟩) l.length cb) vt (putOne l fr)):=hideA fun W g2 hb h3=>bagPut_any x vs vr va vm _ vt l fr g2 W (HI.out.below hb) hl h3
 have hbN:∀ b,Below w.heap.size w (w.alloc b):=fun b=>(Below.refl _ w).alloc (Nat.le_refl _) b
 go_enter Tryz.func129,Tryz.ntmps129
 go_wp2_with fail;refine (HP.out _ w.heap.size (hbN _) (hnw _ _)).mono ?_
 rintro e Y ⟨⟨v,rfl⟩,hto⟩;have HTo:=hideA hto;clear hto c4 ck0 ck1;go_wp2_with fail;go_end0
 exact⟨⟨_,rfl⟩,BagTo.trans ((Moved.refl w _).below (hbN _)) (Grows.refl _ _) HTo.out⟩
def midTxt (l:List (List UInt8 × Bool))(k:Nat):List Value:=bagV (l.take k)++List.replicate (l.length-k) (.string ⟨#[]⟩)
theorem bagV_length (l:List (List UInt8 × Bool)):(bagV l).length=l.length:=List.length_map _
theorem midTxt_at (l:List (List UInt8 × Bool))(k:Nat)(hk:k<l.length):(midTxt l k)[k]?=some (.string ⟨#[]⟩):=by
 unfold midTxt
 have hlk:(bagV (l.take k)).length=k:=by rw[bagV_length,List.length_take];omega
 rw[List.getElem?_append_right (by omega),hlk,Nat.sub_self,List.getElem?_replicate,if_pos (by omega)]
theorem midTxt_set (l:List (List UInt8 × Bool))(k:Nat)(hk:k<l.length):(midTxt l k).set k (.string (bs l[k].1))=midTxt l (k+1):=by
 unfold midTxt
 have hlk:(bagV (l.take k)).length=k:=by rw[bagV_length,List.length_take];omega
 rw[List.set_append_right _ _ (by omega),hlk,Nat.sub_self]
 obtain⟨d,hd⟩:∃ d,l.length-k=d+1:=⟨l.length-k-1,by omega⟩
 rw[hd,List.replicate_succ,List.set_cons_zero,show l.length-(k+1)=d by omega,List.take_succ_eq_append_getElem hk]
 unfold bagV
 rw[List.map_append];simp
theorem bagList_any (x:Nat)(vs vr va vm vb vt:Value)(l:List (List UInt8 × Bool))(w:World)(h:BagIn w x vs vr va vm vb vt l)(hl:l.length≤200) :
  Calls Tryz.prog 116 #[.pointer (some ⟨x,4,none⟩)] w fun e w'=>∃ v,e=.returned v∧w'.ownsRow w.heap.size 9 1 v l.length (bagV l)∧Below w.heap.size w w':=by
 have hmk:=run_make_row' (P:=Tryz.prog) 111 9 (.string ⟨#[]⟩) 16 Tryz.underlying111 infoStr rfl .i64 .i64 l.length (by omega) (by omega)
 obtain⟨ab,cb,rfl⟩:=osh h.row
 have c4:=coh h.blk 4
 have hxl:x<w.heap.size:=(Array.getElem?_eq_some_iff.1 h.blk).1
 have HB:=hideA h;clear h;go_enter Tryz.func116,Tryz.ntmps116
 go_wp2_with fail;go_loopw [17] (fun i wr=>∃ k:Nat,k≤l.length∧i=.int .i64 k∧(∃ cs:Array Value,wr.heap[w.heap.size]?=some (.cells cs 9)∧cs.toList=midTxt l k)∧Below w.heap.size w wr) (fun i _=>l.length-(intOf i).toNat)
 case atStart =>
  refine⟨0,Nat.zero_le _,rfl,⟨_,hnw _ _, ?_⟩,(Below.refl _ w).alloc (Nat.le_refl _) _⟩
  apply List.ext_getElem?
  intro i;unfold midTxt madeCells
  simp only [Array.toList_map,Array.toList_range,List.getElem?_map,bagV,List.take_zero,List.map_nil,List.nil_append,Nat.sub_zero,List.getElem?_replicate]
  by_cases hi:i<l.length
  ·rw[List.getElem?_range hi,if_pos hi]
   simp[Nat.mod_one]
  ·rw[List.getElem?_eq_none (by simpa using hi),if_neg hi]
   rfl
 case round =>
  obtain⟨k,hk,rfl,⟨cs,hcs,hcl⟩,hb⟩:=hrel;by_cases hlt:k<l.length
  ·have hk1:(k:Int)<(l.length:Int):=by omega
   have hk0:(0:Int)≤(k:Int):=by omega
   obtain⟨g,cap,hv, -, -⟩:=HB.out.row.form (by omega)
   cases hv
   have hf:l[k]?=some l[k]:=List.getElem?_eq_getElem hlt
   have f0:=World.ownsRow.cellAt HB.out.row (k*2) (by omega)
   have f1:=World.ownsRow.cellAt HB.out.row (k*2+1) (by omega)
   rw[(bagF_at l k _ hf).1] at f0
   rw[(bagF_at l k _ hf).2] at f1
   have g0:=cell_later hb f0
   have g1:=cell_later hb f1
   have hset:=midTxt_set l k hlt
   generalize l[k]=f at *
   have hwl:w.heap.size<wr.heap.size:=(Array.getElem?_eq_some_iff.1 hcs).1
   have hn1:¬ w.heap.size=wr.heap.size:=by omega
   have hn2:¬ wr.heap.size=w.heap.size:=by omega
   obtain⟨X,hX,hbX,hM⟩:=bm1 wr #[.string (bs f.1),.bool f.2] 138
   have hcsX:=(hbX.block _ hwl).trans hcs
   have ck:X.cell? ⟨w.heap.size,k,none⟩=some (.string ⟨#[]⟩):=(coh hcsX k).trans (by rw[← Array.getElem?_toList,hcl,midTxt_at l k hlt])
   have fk:=foh hcsX k
   have x0:X.cell? ⟨wr.heap.size,0,none⟩=some (.string (bs f.1)):=coh hM 0
   have hbX2:=hb.trans (hbX.mono hb.size)
   have HC:=hideA (And.intro hcsX (And.intro hcl hset))
   clear hcs hcsX hcl f0 f1 hset hM;go_wp2_with fail;go_roundw
   case rel=>exact⟨k+1,by omega,by go_num,⟨_,heap_setCell_same _ _ _ _ _ _ HC.out.1,by rw[Array.toList_setIfInBounds,HC.out.2.1,HC.out.2.2]⟩,hbX2.setCell (by exact Nat.le_refl _) _⟩
   case measure=>simp[intOf];omega
  ·obtain rfl:k=l.length:=by omega
   have HC:=hideA (And.intro hcs hcl)
   clear hcs hcl;go_wp2_with fail;go_ret;have hcl:cs.toList=bagV l:=by rw[HC.out.2];unfold midTxt;simp
   have hsz:cs.size=l.length:=by rw[← Array.length_toList,hcl,bagV_length]
   refine⟨_,rfl,⟨by rw[bagV_length,Nat.mul_one],.inr ⟨w.heap.size,l.length,cs,rfl,Nat.le_refl _,HC.out.1,Nat.le_refl _,by unfold maxLen;omega,by omega, ?_⟩⟩,hb⟩
   rw[hcl];exact List.take_of_length_le (by rw[bagV_length];omega)
end Go.Proofs.YtgieeeeeiggoeaaGreat
