import Derived.Test.YtgieeeeeiggoeaaGreatC16
set_option maxRecDepth 100000
set_option maxHeartbeats 8000000
namespace Go.Proofs.YtgieeeeeiggoeaaGreat
open Go.RowKit Go.Shelf
structure SentI (w:World)(B2:Nat)(ps:List (Nat × TypeId × Value))(ms:List Msg)(W:World)(v:Value)(ws:List MsgV):Prop where
 sent:W.heap[B2]?=some (.cells #[v] 97)
 row:W.ownsRow w.heap.size 134 10 v ms.length (ws.flatMap mcells)
 msgs:ws.map Prod.fst=ms
 lists:ListsOwn W ws
 boxes:∀ q∈ps,W.heap[q.1]?=some (.cells #[q.2.2] q.2.1)
 be:Below w.heap.size w W
theorem owns_cells {A B:World}(hc:∀ (k:Nat) (cs:Array Value) (T:TypeId) (fz:Nat × Nat),A.heap[k]?=some (Obj.cells cs T fz)→B.heap[k]?=some (Obj.cells cs T fz)){base size n:Nat}{e:TypeId}{v:Value}{xs:List Value}(h:A.ownsRow base e size v n xs):B.ownsRow base e size v n xs:=by
 refine⟨h.1, ?_⟩
 rcases h.2 with h0|⟨g,cap,cur,rfl,hb,hg,rest⟩
 ·exact .inl h0
 ·exact .inr ⟨g,cap,cur,rfl,hb,hc g cur e _ hg,rest⟩
theorem SentI.keep {w:World}{B2:Nat}{ps:List (Nat × TypeId × Value)}{ms:List Msg}{A B:World}{v:Value}{ws:List MsgV}(h:SentI w B2 ps ms A v ws)
  (hc:∀ (k:Nat) (cs:Array Value) (T:TypeId) (fz:Nat × Nat),A.heap[k]?=some (Obj.cells cs T fz)→B.heap[k]?=some (Obj.cells cs T fz)) (hb:Below w.heap.size w B):SentI w B2 ps ms B v ws where
 sent:=hc _ _ _ _ h.sent
 row:=owns_cells hc h.row
 msgs:=h.msgs
 lists:=fun t ht=>⟨owns_cells hc (h.lists t ht).1,owns_cells hc (h.lists t ht).2⟩
 boxes:=fun q hq=>hc _ _ _ _ (h.boxes q hq)
 be:=hb
theorem cells_grown {A B:World}{row:Option Nat}(hg:A.grownBy B row)(hr:∀ r,row=some r→∃ o:Obj,A.heap[r]?=some o∧o.isCells=false):∀ (k:Nat) (cs:Array Value) (T:TypeId) (fz:Nat × Nat),A.heap[k]?=some (Obj.cells cs T fz)→B.heap[k]?=some (Obj.cells cs T fz):=by
 intro k cs T fz h;refine (hg.block k (Array.getElem?_eq_some_iff.1 h).1 (fun e => ?_)).trans h
 obtain⟨o,ho,hc⟩:=hr k e.symm
 rw[h] at ho
 injection ho with ho
 subst ho;cases hc
theorem SentI.own {w:World}{B2:Nat}{ps:List (Nat × TypeId × Value)}{α : Type}(f:List α → List Msg){B0:Nat}(hB:w.heap.size≤B0):OwnFrom B0 (fun pre W=>∃ v ws,SentI w B2 ps (f pre) W v ws):=by
 rintro pre A B row ⟨v,ws,h⟩ hg hr;refine⟨v,ws,h.keep (cells_grown hg (fun r e=>(hr r e).2)) ?_⟩
 exact h.be.grown hg h.be.size (fun k hk=>Nat.le_trans hB (hr k hk).1)
theorem obc {w:World}{base size n:Nat}{e:TypeId}{v:Value}{xs:List Value}(h:w.ownsRow base e size v n xs){k:Nat}(hk:v.ownBlock=some k):∃ cs,w.heap[k]?=some (.cells cs e)∧base≤k:=by
 rcases h.2 with ⟨rfl,_⟩|⟨g,_,cur,rfl,hb,hg,_⟩
 ·cases hk
 ·have:g=k:=by simpa [Value.ownBlock] using hk
  subst this;exact⟨cur,hg,hb⟩
theorem SentI.step {w:World}{B2:Nat}{ps:List (Nat × TypeId × Value)}{ms:List Msg}{W W5 W7:World}{v v':Value}{ws:List MsgV}(t:MsgV)(h:SentI w B2 ps ms W v ws)
  (hb5:Below W.heap.size W W5) (hI:IntOwn W5 t.2.1 t.1.mems) (hL:LogOwn W5 t.2.2 t.1.log)
  (hg:(W5.alloc (.cells (mcells t).toArray 134)).grownBy W7 v.ownBlock) (ho:W7.ownsRow w.heap.size 134 10 v' (ms.length+1) ((ws++[t]).flatMap mcells))
  (hps:∀ q∈ps,q.1≠B2∧q.2.1≠134) (hB2:w.heap.size≤B2) :
  W7.cell? ⟨B2,0,none⟩=some v∧W7.frozen? ⟨B2,0,none⟩=false∧SentI w B2 ps (ms++[t.1]) (W7.setCell ⟨B2,0,none⟩ v') v' (ws++[t])∧KeepsOthers W (W7.setCell ⟨B2,0,none⟩ v') ∧
   KeepS entT W (W7.setCell ⟨B2,0,none⟩ v'):=by
 have hrow5:∀ k,v.ownBlock=some k→∃ cs,W.heap[k]?=some (.cells cs 134)∧w.heap.size≤k:=fun k hk=>obc h.row hk
 have h7:∀ k,k<W.heap.size→v.ownBlock≠some k→W7.heap[k]?=W.heap[k]?:=fun k hk hne=>by
  rw[hg.block k (by rw[World.size_alloc];have:=hb5.size;omega) (fun e=>hne e.symm),Below.heap_alloc _ _ k (by have:=hb5.size;omega)]
  exact hb5.block k hk
 have h57:∀ k,k<W5.heap.size→v.ownBlock≠some k→W7.heap[k]?=W5.heap[k]?:=fun k hk hne=>by
  rw[hg.block k (by rw[World.size_alloc];omega) (fun e=>hne e.symm),Below.heap_alloc _ _ k hk]
 have nrow:∀ (k:Nat) (cs:Array Value) (T:TypeId),W.heap[k]?=some (Obj.cells cs T)→T≠134→v.ownBlock≠some k:=fun k cs T hk hT e=>by
  obtain⟨cs',h',_⟩:=hrow5 k e
  rw[hk] at h'
  injection h' with h'
  injection h' with _ h'
  exact hT h'
 have hB2lt:B2<W.heap.size:=(Array.getElem?_eq_some_iff.1 h.sent).1
 have hsent7:W7.heap[B2]?=some (.cells #[v] 97):=(h7 B2 hB2lt (nrow B2 _ _ h.sent (by decide))).trans h.sent
 have hne':v'.ownBlock≠some B2:=fun e=>by
  obtain⟨cs',h',_⟩:=obc ho e
  rw[hsent7] at h'
  injection h' with h'
  injection h' with _ h'
  exact absurd h' (by decide)
 have other:∀ k,k≠B2→(W7.setCell ⟨B2,0,none⟩ v').heap[k]?=W7.heap[k]?:=fun k hk=>Below.heap_setCell _ _ _ k hk
 have rows:∀ {T:TypeId} {size n:Nat} {u:Value} {xs:List Value},T≠134→T≠97→W5.ownsRow 0 T size u n xs→(W7.setCell ⟨B2,0,none⟩ v').ownsRow 0 T size u n xs:=by
  intro T size n u xs hT1 hT2 ho5;refine⟨ho5.1, ?_⟩
  rcases ho5.2 with h0|⟨g,cap,cur,rfl,hb,hgg,rest⟩
  ·exact .inl h0
  ·refine .inr ⟨g,cap,cur,rfl,hb, ?_,rest⟩
   have hg5:g<W5.heap.size:=(Array.getElem?_eq_some_iff.1 hgg).1
   have n1:v.ownBlock≠some g:=fun e=>by
    obtain⟨cs',h',_⟩:=hrow5 g e
    rw[← hb5.block g (Array.getElem?_eq_some_iff.1 h').1,hgg] at h'
    injection h' with h'
    injection h' with _ h'
    exact hT1 h'
   have n2:g≠B2:=fun e=>by
    subst e;rw[hb5.block g hB2lt,h.sent] at hgg
    injection hgg with h'
    injection h' with _ h'
    exact hT2 h'.symm
   rw[other g n2,h57 g hg5 n1];exact hgg
 have bigger:W.heap.size≤W7.heap.size:=by have:=hg.size;rw[World.size_alloc] at this;have:=hb5.size;omega
 refine⟨?_, ?_, ?_, ?_, ?_⟩
 ·rw[coh hsent7];rfl
 ·exact foh hsent7 0
 ·refine⟨?_, ?_, ?_, ?_, ?_, ?_⟩
  ·rw[heap_setCell_same W7 B2 0 _ _ _ hsent7];rfl
  ·rw[List.length_append]
   exact ownsRow_setCell_other ho hne' _
  ·rw[List.map_append,h.msgs]
   rfl
  ·intro t' ht'
   rw[List.mem_append] at ht'
   rcases ht' with ht'|ht'
   ·have hl:=h.lists t' ht'
    exact⟨rows (by decide) (by decide) (okp hl.1 fun k _ hk=>hb5.block k hk),rows (by decide) (by decide) (okp hl.2 fun k _ hk=>hb5.block k hk)⟩
   ·simp only [List.mem_cons,List.not_mem_nil,or_false] at ht'
    subst ht';exact⟨rows (by decide) (by decide) hI,rows (by decide) (by decide) hL⟩
  ·intro q hq
   have hq0:=h.boxes q hq
   rw[other q.1 (hps q hq).1,h7 q.1 (Array.getElem?_eq_some_iff.1 hq0).1 (nrow _ _ _ hq0 (hps q hq).2)]
   exact hq0
  ·refine Below.setCell ?_ (by show w.heap.size≤B2;exact hB2) _
   refine⟨hg.os.trans (hb5.os.trans h.be.os),hg.tape.trans (hb5.tape.trans h.be.tape),hg.output.trans (hb5.output.trans h.be.output),Nat.le_trans h.be.size bigger,fun k hk => ?_⟩
   rw[h7 k (Nat.lt_of_lt_of_le hk h.be.size) (fun e=>by obtain⟨_,_,h'⟩:=hrow5 k e;omega)]
   exact h.be.block k hk
 ·refine⟨by simpa using bigger,fun k o hk ho => ?_⟩
  have n1:v.ownBlock≠some k:=fun e=>by
   obtain⟨cs',h',_⟩:=hrow5 k e
   rw[hk] at h'
   injection h' with h'
   subst h';cases ho
  have n2:k≠B2:=fun e=>by
   subst e;rw[h.sent] at hk
   injection hk with hk
   subst hk;cases ho
  rw[other k n2,h7 k (Array.getElem?_eq_some_iff.1 hk).1 n1]
  exact hk
 ·intro k cs T fz hS hk
  have hT:T=42:=by simpa [entT] using hS
  subst hT;have n1:v.ownBlock≠some k:=fun e=>by
   obtain⟨cs',h',_⟩:=hrow5 k e
   rw[hk] at h'
   injection h' with h'
   injection h' with _ h'
   exact absurd h' (by decide)
  have n2:k≠B2:=fun e=>by
   subst e;rw[h.sent] at hk
   injection hk with hk
   injection hk with _ hk
   exact absurd hk (by decide)
  rw[other k n2,h7 k (Array.getElem?_eq_some_iff.1 hk).1 n1]
  exact hk
theorem from_places (p n:Nat)(f:Nat→Msg):(fromList n p).map (fun y=>f y.val)=(placesFrom p n).map f:=by
 unfold fromList placesFrom
 rw[List.map_drop,List.map_map];apply List.ext_getElem
 ·simp
 ·intro i h1 h2
  simp
theorem reply_any (b:Nat)(own:Int)(r:Rep)(vm vl:Value)(P:Nat)(w:World)(h:RepAt w b own r vm vl)(ok:RepOK r)(hP:P<r.log.length)(hcl:∀ x∈r.log,0≤x.client∧x.client≤3) :
  Calls Tryz.prog 291 #[.pointer (some ⟨b,0,none⟩),.int .i64 (P:Int)] w fun e w'=>e=.returned (mval (r.reply own P) (.slice none 0 0) (.slice none 0 0))∧Below w.heap.size w w':=by
 have hl24:=ok.l
 obtain⟨al,cl,rfl,hcap⟩:=own_cap h.hl
 have HB:=hideA h.blk
 obtain⟨g,cap,hv, -, -⟩:=h.hl.form (by omega)
 cases hv
 have hrow:=RowIs.of_owns h.hl
 have HR:=hideA hrow;obtain⟨cur,fz,hg,hc⟩:=hrow;obtain⟨e0,e1,e2,e3,e4⟩:=hc P hP
 have hx:=hcl (r.log.getD P Ent.zero) (by rw[List.getD,List.getElem?_eq_getElem hP];exact List.getElem_mem hP)
 have hb2:∀ o o2,Below w.heap.size w ((w.alloc o).alloc o2):=fun o o2=>((Below.refl _ w).alloc (Nat.le_refl _) o).alloc (by simp) o2
 have HC:Hid (∀ W o1 o2,W=((w.alloc (.cells o1 134)).alloc (.cells o2 42)).drew→Calls Tryz.prog 296 #[.slice (some ⟨g,0,none⟩) r.log.length cl,.int .i64 (P:Int)] W fun e w'=>e=.returned (.int .i64 (answerAt r.log P))∧Below w.heap.size w w'∧w'.cell? ⟨b,0,none⟩=some (.int .i64 own)∧w'.cell? ⟨b,4,none⟩=some (.slice (some ⟨g,0,none⟩) r.log.length cl)∧(∀ j,w'.cell? ⟨w.heap.size+1,j,none⟩=o2[j]?)∧w'.heap[w.heap.size]?=some (.cells o1 134)):=hideA fun W o1 o2 hW=>by
  have hb:Below w.heap.size w W:=by rw[hW];exact (hb2 _ _).drew
  have h1:W.heap[w.heap.size+1]?=some (.cells o2 42):=by rw[hW];exact heap_new2 _ _ _
  have h0:W.heap[w.heap.size]?=some (.cells o1 134):=by rw[hW];exact (Below.heap_alloc _ _ _ (by simp)).trans (hnw _ _)
  refine (callsIn_wide.1 (answer_in 6 (hideA (by omega)) g cl r.log P W (by omega) hP hcap (HR.out.keepS (KeepS.below hb)))).mono ?_
  rintro e w' ⟨rfl,hb'⟩;have hbb:=hb.trans (hb'.mono hb.size)
  refine⟨rfl,hbb,cell_later hbb (coh HB.out 0),cell_later hbb (coh HB.out 4),fun j => ?_,(hb'.block _ (Array.getElem?_eq_some_iff.1 h0).1).trans h0⟩
  exact coh ((hb'.block _ (Array.getElem?_eq_some_iff.1 h1).1).trans h1) j
 have HF:Hid (r.reply own P={ kind:=4,src:=own,dst:=300+(r.log.getD P Ent.zero).client,pos:=(r.log.getD P Ent.zero).seq,value:=answerAt r.log P }):=hideA rfl
 have c4:∀ o,(w.alloc o).cell? ⟨b,4,none⟩=some (.slice (some ⟨g,0,none⟩) r.log.length cl):=fun o=>cell_later ((Below.refl _ w).alloc (Nat.le_refl _) o) (coh h.blk 4)
 have d0:=fun o=>cell_later ((Below.refl _ w).alloc (Nat.le_refl _) o) e0
 have d1:=fun o=>cell_later ((Below.refl _ w).alloc (Nat.le_refl _) o) e1
 have d2:=fun o=>cell_later ((Below.refl _ w).alloc (Nat.le_refl _) o) e2
 have d3:=fun o=>cell_later ((Below.refl _ w).alloc (Nat.le_refl _) o) e3
 have d4:=fun o=>cell_later ((Below.refl _ w).alloc (Nat.le_refl _) o) e4
 have f0:∀ o o2,((w.alloc o).alloc o2).cell? ⟨b,0,none⟩=some (.int .i64 own):=fun o o2=>cell_later (hb2 o o2) (coh HB.out 0)
 have f4:∀ o o2,((w.alloc o).alloc o2).cell? ⟨b,4,none⟩=some (.slice (some ⟨g,0,none⟩) r.log.length cl):=fun o o2=>cell_later (hb2 o o2) (coh HB.out 4)
 have hbl:b<w.heap.size:=(Array.getElem?_eq_some_iff.1 HB.out).1
 have hne1:¬ b=w.heap.size:=by omega
 have hne2:¬ w.heap.size=b:=by omega
 have hwr:IntKind.i64.wrap (300+(r.log.getD P Ent.zero).client)=300+(r.log.getD P Ent.zero).client:=by rw[IntKind.wrap_i64];omega
 clear h ok hc e0 e1 e2 e3 e4 hg hcl;rw[HF.out];generalize r.log.getD P Ent.zero=x at *
 generalize answerAt r.log P=ans at *
 go_enter Tryz.func291,Tryz.ntmps291
 go_wp2_with fail;go_region_held3 (fun w'=>w'.cell? ⟨b,0,none⟩=some (.int .i64 own)∧w'.cell? ⟨b,4,none⟩=some (.slice (some ⟨g,0,none⟩) r.log.length cl)∧w'.cell? ⟨w.heap.size+1,0,none⟩=some (.int .i64 x.client)∧w'.cell? ⟨w.heap.size+1,1,none⟩=some (.int .i64 x.seq)) (first|(simp[go_sem];done)|(simp[go_sem, *];done)|go_keep) (first|(go_at_call 296;refine (HC.out _ _ _ rfl).mono ?_;rintro e w9 ⟨rfl,hb9,g0,g4,gE,gN⟩;have gE0:=gE 0;have gE1:=gE 1;have gM:=fun j=>coh gN j;have gF:=fun j=>foh gN j))
 all_goals
  go_wp2_with fail;refine bodyPost_ret (v:=mval { kind:=4,src:=own,dst:=300+x.client,pos:=x.seq,value:=ans } (.slice none 0 0) (.slice none 0 0)) (by simp[results,Tryz.results291,go_sem,mval,gM]) rfl ⟨rfl, ?_⟩
  iterate 10 refine Below.setCell ?_ (by simp) _
  exact hb9
theorem replyAgain_any (b:Nat)(own:Int)(r:Rep)(vm vl:Value)(P:Nat)(w:World)(h:RepAt w b own r vm vl)(ok:RepOK r)(hP:P<r.log.length)(hcl:∀ x∈r.log,0≤x.client∧x.client≤3) :
  Calls Tryz.prog 283 #[.pointer (some ⟨b,0,none⟩),.int .i64 (P:Int)] w fun e w'=>∃ v,e=.returned v∧MsgsOwn w' w.heap.size v (if P<r.commit then [r.reply own P] else [])∧Below w.heap.size w w':=by
 have hr:=reply_any b own r vm vl P w h ok hP hcl
 have c6:w.cell? ⟨b,6,none⟩=some (.int .i64 (r.commit:Int)):=coh h.blk 6
 have hm:Hid ((r.reply own P).mems=[]∧(r.reply own P).log=[]):=hideA ⟨rfl,rfl⟩
 clear h ok hcl;by_cases hc:P<r.commit
 ·have hc1:¬ (r.commit:Int)≤(P:Int):=by omega
  rw[if_pos hc];generalize r.reply own P=m at *
  unfold mval at hr
  go_enter Tryz.func283,Tryz.ntmps283
  go_wp2_with fail;refine hr.mono ?_
  rintro e w1 ⟨rfl,hb1⟩;go_wp2_with fail;go_ret;exact⟨_,rfl,MsgsOwn.one m (.slice none 0 0) (.slice none 0 0) (hnw _ _) hb1.size (by rw[hm.out.1];exact IntOwn.nil _) (by rw[hm.out.2];exact LogOwn.nil _),hb1.alloc hb1.size _⟩
 ·have hc1:(r.commit:Int)≤(P:Int):=by omega
  rw[if_neg hc];go_enter Tryz.func283,Tryz.ntmps283
  go_wp2_with fail;go_ret;exact⟨_,rfl,MsgsOwn.nil _ _,Below.refl _ _⟩
def RepS (b:Nat)(vm vl:Value)(k:Nat):Prop:=k=b∨vm.ownBlock=some k∨vl.ownBlock=some k
def Grows (w:World)(v v':Value):Prop:=∀ k,v'.ownBlock=some k→v.ownBlock=some k∨w.heap.size≤k
theorem Grows.refl (w:World)(v:Value):Grows w v v:=fun _ h=>.inl h
def RepTo (w w':World)(b:Nat)(own:Int)(vm vl:Value)(r':Rep):Prop:=∃ vm' vl',RepAt w' b own r' vm' vl'∧Moved w w' (RepS b vm vl)∧Grows w vm vm'∧Grows w vl vl'
theorem RepTo.still {w w':World}{b:Nat}{own:Int}{r:Rep}{vm vl:Value}(h:RepAt w b own r vm vl)(hb:Below w.heap.size w w'):RepTo w w' b own vm vl r :=
 ⟨vm,vl,h.below hb,(Moved.refl w _).below hb,Grows.refl _ _,Grows.refl _ _⟩
theorem Grows.trans {w w1:World}{v v1 v2:Value}(h:Grows w v v1)(h':Grows w1 v1 v2)(hs:w.heap.size≤w1.heap.size):Grows w v v2:=by
 intro k hk;rcases h' k hk with h1|h1
 ·exact h k h1
 ·exact .inr (Nat.le_trans hs h1)
theorem RepTo.then {w w1 w2:World}{b:Nat}{own:Int}{vm vl vm1 vl1:Value}{r2:Rep}(hm:Moved w w1 (RepS b vm vl))(g1:Grows w vm vm1)(g2:Grows w vl vl1)(h:RepTo w1 w2 b own vm1 vl1 r2):RepTo w w2 b own vm vl r2:=by
 obtain⟨vm2,vl2,h1,h2,h3,h4⟩:=h;refine⟨vm2,vl2,h1,hm.trans h2 ?_,g1.trans h3 hm.size,g2.trans h4 hm.size⟩
 intro k hk hS;rcases hS with rfl|hS|hS
 ·exact .inl rfl
 ·rcases g1 k hS with h|h
  ·exact .inr (.inl h)
  ·omega
 ·rcases g2 k hS with h|h
  ·exact .inr (.inr h)
  ·omega
theorem bty {w:World}{b:Nat}{cs:Array Value}{T:TypeId}{base size n:Nat}{e:TypeId}{v:Value}{xs:List Value}(hb:w.heap[b]?=some (.cells cs T))(hv:w.ownsRow base e size v n xs)(he:e≠T):v.ownBlock≠some b:=by
 intro e1;obtain⟨cs',h',_⟩:=obc hv e1
 rw[hb] at h'
 injection h' with h'
 injection h' with _ h'
 exact he h'.symm
theorem RepAt.set {w:World}{b:Nat}{own:Int}{r:Rep}{vm vl:Value}(h:RepAt w b own r vm vl)(j:Nat)(u:Value)(r':Rep)(vm' vl':Value)
  (hcs:(#[.int .i64 own,.int .i64 r.epoch,.int .i64 r.lock,vm,vl,.int .i64 (r.base:Int),.int .i64 (r.commit:Int)]:Array Value).setIfInBounds j u=#[.int .i64 own,.int .i64 r'.epoch,.int .i64 r'.lock,vm',vl',.int .i64 (r'.base:Int),.int .i64 (r'.commit:Int)])
  (h1:IntOwn w vm' r'.mems) (h2:LogOwn w vl' r'.log):RepAt (w.setCell ⟨b,j,none⟩ u) b own r' vm' vl':=by
 refine⟨?_, ?_, ?_⟩
 ·rw[heap_setCell_same w b j _ _ _ h.blk,hcs]
 ·exact ownsRow_setCell_other h1 (bty h.blk h1 (by decide)) _
 ·exact ownsRow_setCell_other h2 (bty h.blk h2 (by decide)) _
attribute [local go_sem] Oper.semAt_some
theorem commitAll_in (n:Nat)(hn:Hid (6≤n))(b:Nat)(own:Int)(r:Rep)(vm vl:Value)(w:World)(h:RepAt w b own r vm vl)(ok:RepOK r)(hcli:∀ x∈r.log,0≤x.client∧x.client≤3) :
  CallsIn Fence.wide n Tryz.prog 286 #[.pointer (some ⟨b,0,none⟩)] w fun e w'=>∃ v,e=.returned v∧RepTo w w' b own vm vl (r.commitAll own).1∧MsgsOwn w' w.heap.size v (r.commitAll own).2:=by
 have hl24:=ok.l
 have hcl:=ok.c
 have mixed:Tryz.prog.follows Departure.mixedOrders=true:=by kernel_rfl
 have hbl:b<w.heap.size:=(Array.getElem?_eq_some_iff.1 h.blk).1
 refine callsIn_of_wp_marks Tryz.func286 rfl trivial ?_ rfl
 simp only [Tryz.ntmps286,List.size_toArray,List.length_cons,List.length_nil,Nat.reduceAdd,Nat.reduceSub,Array.replicate_succ,Array.replicate_zero,List.push_toArray,List.append_toArray,List.nil_append,List.cons_append]
 gi_wp2_with fail;obtain⟨X4,hX4,hb4,hs4, -, -, -, -,hb4'⟩:=box_more (Below.refl _ w) (.pointer (some ⟨b,0,none⟩)) 129
 have H4:X4.heap[w.heap.size]?=some (.cells #[.pointer (some ⟨b,0,none⟩)] 129):=by rw[← hX4];exact hnw _ _
 rw[hX4];obtain⟨X5,hX5,hb5,hs5, -, -, -, -,hb5'⟩:=box_more hb4 (.slice none 0 0) 97
 have H5:X5.heap[w.heap.size+1]?=some (.cells #[.slice none 0 0] 97):=by rw[← hX5, ← hs4];exact hnw _ _
 rw[hX5];clear hX4 hX5;have H35:X5.heap[w.heap.size]?=some (.cells #[.pointer (some ⟨b,0,none⟩)] 129):=(hb5'.block _ (by omega)).trans H4
 have hR5:=h.below hb5
 obtain⟨al,cl,rfl,hcap⟩:=own_cap h.hl
 have d1:X5.cell? ⟨w.heap.size,0,none⟩=some (.pointer (some ⟨b,0,none⟩)):=coh H35 0
 have d4:X5.cell? ⟨b,4,none⟩=some (.slice al r.log.length cl):=coh hR5.blk 4
 have d6:X5.cell? ⟨b,6,none⟩=some (.int .i64 (r.commit:Int)):=coh hR5.blk 6
 have hlB:=LogB.of_owns h.hl
 have HC:Hid (∀ W,W=X5.drew→Calls Tryz.prog 272 #[.slice al r.log.length cl,.int .i64 (r.commit:Int)] W fun e w'=>e=.returned (.func (.func 281) #[] #[.pointer (some ⟨X5.heap.size+1,0,none⟩),.pointer (some ⟨X5.heap.size,0,none⟩)])∧Below X5.heap.size X5 w'∧w'.heap.size=X5.heap.size+2 ∧
   w'.heap[X5.heap.size]?=some (.cells #[.slice al r.log.length cl] 44)∧w'.heap[X5.heap.size+1]?=some (.cells #[.int .i64 (r.commit:Int)] 3)):=hideA fun W hW=>by
  refine (callsIn_wide.1 (from_any 0 _ _ al r.log.length cl rfl W)).mono ?_
  rintro e w' ⟨rfl,rfl⟩;subst hW;refine⟨rfl,(((Below.refl _ X5).drew).alloc (Nat.le_refl _) _).alloc (by simp) _,by simp, ?_,heap_new2 _ _ _⟩
  exact (Below.heap_alloc _ _ _ (by simp)).trans (hnw _ _)
 clear H4 hb4 hb4' hb5';refine wpIn_wide.2 ?_
 go_region_held3 (fun w'=>w'.cell? ⟨w.heap.size,0,none⟩=some (.pointer (some ⟨b,0,none⟩))∧w'.cell? ⟨b,4,none⟩=some (.slice al r.log.length cl)∧w'.cell? ⟨b,6,none⟩=some (.int .i64 (r.commit:Int))) (first|(simp[go_sem];done)|(simp[go_sem, *];done)|go_keep) (first|(go_at_call 272;refine (HC.out _ rfl).mono ?_;rintro e X6 ⟨rfl,hb6,hs6,H60,H61⟩;have t1:=cell_later hb6 d1;have t4:=cell_later hb6 d4;have t6:=cell_later hb6 d6))
 gi_wp2_with fail;have hX35:X5.heap.size=w.heap.size+1+1:=by omega
 rw[hX35] at H60 H61 hs6
 have hbw6:Below w.heap.size w X6:=hb5.trans (hb6.mono hb5.size)
 have HI0:SentI w (w.heap.size+1) [(w.heap.size,129,.pointer (some ⟨b,0,none⟩)),(w.heap.size+1+1,44,.slice al r.log.length cl)] [] X6 (.slice none 0 0) []:=by
  refine⟨(hb6.block _ (by omega)).trans H5,World.ownsRow_nil _ _ _ _,rfl,fun t ht=>(by cases ht), ?_,hbw6⟩
  intro q hq;simp only [List.mem_cons,List.not_mem_nil,or_false] at hq
  rcases hq with rfl|rfl
  ·exact (hb6.block _ (Array.getElem?_eq_some_iff.1 H35).1).trans H35
  ·exact H60
 refine wpIn_rangeFunc_ownF rfl (by have:=hn.out;omega) (gf:=281) (lb:=#[.pointer (some ⟨w.heap.size+1+1+1,0,none⟩),.pointer (some ⟨w.heap.size+1+1,0,none⟩)]) rfl trivial (enters_of Tryz.func281 (by kernel_rfl) rfl)
  (from_stops (n-1) (w.heap.size+1+1+1) (w.heap.size+1+1) (.slice al r.log.length cl) r.log r.commit X6 (by omega) hcl (coh H61 0) (fun q hq=>by simp only [List.mem_cons,List.not_mem_nil,or_false] at hq;subst hq;exact coh H60 0) (hlB.below hbw6))
  KeepF.trans (fun W l o o' _ hl hc _=>keepF_put _ W l o o' hl hc) (Below.refl _ _) (fun _=>rfl)
  (fun pre W=>∃ v ws,SentI w (w.heap.size+1) [(w.heap.size,129,.pointer (some ⟨b,0,none⟩)),(w.heap.size+1+1,44,.slice al r.log.length cl)] (pre.map (fun y:Fin r.log.length=>r.reply own y.val)) W v ws)
  (fun _ _ _=>False)
  (SentI.own (fun pre=>pre.map (fun y:Fin r.log.length=>r.reply own y.val)) (by have:=hbw6.size;omega))
  (fun c=>ownFrom_pure _ _)
  ⟨_,_,HI0⟩
  (fun x=>{ tmps:=#[.pointer (some ⟨b,0,none⟩),.pointer (some ⟨w.heap.size,0,none⟩),.slice none 0 0,.pointer (some ⟨w.heap.size+1,0,none⟩),.int .i64 (x.val:Int),.pointer (some ⟨b,0,none⟩),.pointer (some ⟨b,0,none⟩),.pointer (some ⟨b,4,none⟩),.slice al r.log.length cl,.pointer (some ⟨b,0,none⟩),.pointer (some ⟨b,0,none⟩),.pointer (some ⟨b,6,none⟩),.int .i64 (r.commit:Int),
   .func (.func 281) #[] #[.pointer (some ⟨w.heap.size+1+1+1,0,none⟩),.pointer (some ⟨w.heap.size+1+1,0,none⟩)],.int .i64 (x.val:Int),entV (r.log.getD x.val Ent.zero),undef,undef,undef,undef,undef,undef,undef,undef,undef,undef,undef,undef,undef,undef,undef,undef,undef,undef],defers:=[] }) ?assign ?body ?done ?stop
 case assign =>
  intro l x W K hK;unfold placeV
  generalize entV (r.log.getD x.val Ent.zero)=u at *
  gi_wp2
  exact hK
 case body =>
  rintro l pre x W ⟨v,ws,I⟩ hpl;have hln:=fromList_length r.log.length r.commit
  have c5:W.cell? ⟨w.heap.size+1,0,none⟩=some v:=coh I.sent 0
  have f5:W.frozen? ⟨w.heap.size+1,0,none⟩=false:=foh I.sent 0
  have c0:W.cell? ⟨w.heap.size,0,none⟩=some (.pointer (some ⟨b,0,none⟩)):=coh (I.boxes _ List.mem_cons_self) 0
  have HR:=hideA (h.below I.be)
  have HI:=hideA I;have Hn:Hid ((pre.map (fun y:Fin r.log.length=>r.reply own y.val)).length≤24):=hideA (by rw[List.length_map];omega)
  have HC:Hid (∀ W',W'=W.drew→CallsIn (Fence.wide.inRound l) (n-1-1-1) Tryz.prog 291 #[.pointer (some ⟨b,0,none⟩),.int .i64 (x.val:Int)] W' fun e W5=>e=.returned (mval (r.reply own x.val) (.slice none 0 0) (.slice none 0 0))∧Below W.heap.size W W5):=hideA fun W' hW'=>by
   subst hW';refine (CallsIn.inRound l (callsIn_wide.2 (reply_any b own r vm _ x.val W.drew (HR.out.below (Below.refl _ _).drew) ok x.isLt hcli))).mono ?_
   rintro e W5 ⟨rfl,h2⟩;exact⟨rfl,((Below.refl _ _).drew).trans h2⟩
  clear I;generalize entV (r.log.getD x.val Ent.zero)=u at *
  have Hm:Hid ((pre++[x]).map (fun y:Fin r.log.length=>r.reply own y.val)=pre.map (fun y:Fin r.log.length=>r.reply own y.val)++[r.reply own x.val]):=hideA (by simp)
  have Hmm:Hid ((r.reply own x.val).mems=[]∧(r.reply own x.val).log=[]):=hideA ⟨rfl,rfl⟩
  generalize r.reply own x.val=m at *
  have HW:Hid (∀ W5,Below W.heap.size W W5→∃ g' cap' W7,(∀ ty,(Builtin.append_ #[97,97] ty #[v,.slice (some ⟨W5.heap.size,0,none⟩) 1 1]).run Tryz.prog (W5.alloc (.cells #[.int .i64 m.kind,.int .i64 m.src,.int .i64 m.dst,.int .i64 m.epoch,.int .i64 m.ballot,.int .i64 m.vote,.int .i64 m.pos,.int .i64 m.value,.slice none 0 0,.slice none 0 0] 134))=.ok (.slice (some ⟨g',0,none⟩) (pre.length+1) cap') W7) ∧
    W7.cell? ⟨w.heap.size+1,0,none⟩=some v∧W7.frozen? ⟨w.heap.size+1,0,none⟩=false∧W5.cell? ⟨w.heap.size+1,0,none⟩=some v∧(∀ o,(W5.alloc o).cell? ⟨w.heap.size+1,0,none⟩=some v) ∧
    (KeepsOthers W (W7.setCell ⟨w.heap.size+1,0,none⟩ (.slice (some ⟨g',0,none⟩) (pre.length+1) cap'))∧KeepF [(⟨w.heap.size+1+1,0,none⟩,.slice al r.log.length cl)] W (W7.setCell ⟨w.heap.size+1,0,none⟩ (.slice (some ⟨g',0,none⟩) (pre.length+1) cap')) ∧
     ∃ v ws,SentI w (w.heap.size+1) [(w.heap.size,129,.pointer (some ⟨b,0,none⟩)),(w.heap.size+1+1,44,.slice al r.log.length cl)] ((pre++[x]).map (fun y:Fin r.log.length=>r.reply own y.val)) (W7.setCell ⟨w.heap.size+1,0,none⟩ (.slice (some ⟨g',0,none⟩) (pre.length+1) cap')) v ws)):=hideA (by
   intro W5 hb5';have I:=HI.out
   have hrow:=I.row
   rw[List.length_map] at hrow
   have hbig:=hb5'.size
   have hwW:=I.be.size
   obtain⟨g',cap',W7,hrun,ho7,hg7⟩:=append_msg (W5.alloc (.cells #[.int .i64 m.kind,.int .i64 m.src,.int .i64 m.dst,.int .i64 m.epoch,.int .i64 m.ballot,.int .i64 m.vote,.int .i64 m.pos,.int .i64 m.value,.slice none 0 0,.slice none 0 0] 134)) w.heap.size v pre.length ws (m,.slice none 0 0,.slice none 0 0) W5.heap.size
    ((okp hrow fun k _ hk=>hb5'.block k hk).alloc _) (hnw _ _) (by have:=Hn.out;rw[List.length_map] at this;omega) (by simp;omega) ⟨_,_,_,rfl⟩ ⟨_,_,_,rfl⟩
   have hstep:=I.step (m,.slice none 0 0,.slice none 0 0) hb5' (by show IntOwn W5 _ m.mems;rw[Hmm.out.1];exact IntOwn.nil _) (by show LogOwn W5 _ m.log;rw[Hmm.out.2];exact LogOwn.nil _) hg7 (by rw[List.length_map];exact ho7) (by
    intro q hq;simp only [List.mem_cons,List.not_mem_nil,or_false] at hq
    rcases hq with rfl|rfl
    ·exact⟨by show w.heap.size≠w.heap.size+1;omega,by show (129:TypeId)≠134;decide⟩
    ·exact⟨by show w.heap.size+1+1≠w.heap.size+1;omega,by show (44:TypeId)≠134;decide⟩) (by omega)
   refine⟨g',cap',W7,hrun,hstep.1,hstep.2.1,cell_later hb5' c5,fun o=>cell_later ((Below.refl _ W5).alloc (Nat.le_refl _) o) (cell_later hb5' c5),hstep.2.2.2.1,⟨hstep.2.2.2.2,fun _ q hq => ?_⟩,_,_,by rw[Hm.out];exact hstep.2.2.1⟩
   simp only [List.mem_cons,List.not_mem_nil,or_false] at hq
   subst hq;exact coh (hstep.2.2.1.boxes _ (List.mem_cons_of_mem _ List.mem_cons_self)) 0)
  clear HI Hmm Hm Hn;unfold mval at HC
  gi_wp2_with fail;refine wpIn_region_any mixed ?_
  change wpAnyIn _ _ _ _ _ _ _ _ _ (World.drew _)
  refine wpAnyIn_ready (rs:=[0,1,2]) (by kernel_rfl) (by simp) (.cons (i:=0) rfl (fun K hK => ?_) (.cons (i:=1) rfl (fun K hK => ?_) (.cons (i:=2) rfl (fun K hK => ?_) .nil)))
  go_simp;refine hK _ _ ?_;clear hK
  refine wpAnyIn_ready (rs:=[1,2]) (by kernel_rfl) (by simp) (.cons (i:=1) rfl (fun K hK => ?_) (.cons (i:=2) rfl (fun K hK => ?_) .nil))
  go_simp;refine hK _ _ ?_;clear hK
  refine rdy1 2 (by kernel_rfl) rfl fun K hK => ?_
  go_simp;refine hK _ _ ?_;clear hK
  rotate_left
  go_simp;refine hK _ _ ?_;clear hK
  refine rdy1 1 (by kernel_rfl) rfl fun K hK => ?_
  go_simp;refine hK _ _ ?_;clear hK
  rotate_left
  go_simp;refine hK _ _ ?_;clear hK
  refine wpAnyIn_ready (rs:=[0,2]) (by kernel_rfl) (by simp) (.cons (i:=0) rfl (fun K hK => ?_) (.cons (i:=2) rfl (fun K hK => ?_) .nil))
  go_simp;refine hK _ _ ?_;clear hK
  refine rdy1 2 (by kernel_rfl) rfl fun K hK => ?_
  go_simp;refine hK _ _ ?_;clear hK
  rotate_left
  go_simp;refine hK _ _ ?_;clear hK
  refine wpAnyIn_ready (rs:=[0,3]) (by kernel_rfl) (by simp) (.cons (i:=0) rfl (fun K hK => ?_) (.cons (i:=3) rfl (fun K hK => ?_) .nil))
  go_simp;refine hK _ _ ?_;clear hK
  rotate_left
  go_simp;refine⟨trivial,by simp[Fence.wide],(HC.out _ rfl).mono ?_⟩
  rintro e W5 ⟨rfl,hb5'⟩;obtain⟨g',cap',W7,hrun,r1,r2,r3,r4,hfin⟩:=HW.out W5 hb5'
  have Hfin:=hideA hfin;clear hfin;refine hK _ _ ?_
  clear hK;refine wpAnyIn_ready (rs:=[0,4]) (by kernel_rfl) (by simp) (.cons (i:=0) rfl (fun K hK => ?_) (.cons (i:=4) rfl (fun K hK => ?_) .nil))
  go_simp;refine hK _ _ ?_;clear hK
  refine rdy1 4 (by kernel_rfl) rfl fun K hK => ?_
  go_simp;refine hK _ _ ?_;clear hK
  rotate_left
  go_simp;refine hK _ _ ?_;clear hK
  refine rdy1 0 (by kernel_rfl) rfl fun K hK => ?_
  go_simp;refine hK _ _ ?_;clear hK
  rotate_left
  go_simp;refine hK _ _ ?_;clear hK
  refine wpAnyIn_ready (rs:=[0,1]) (by kernel_rfl) (by simp) (.cons (i:=0) rfl (fun K hK => ?_) (.cons (i:=1) rfl (fun K hK => ?_) .nil))
  go_simp;refine hK _ _ ?_;clear hK
  refine rdy1 1 (by kernel_rfl) rfl fun K hK => ?_
  go_simp;refine hK _ _ ?_;clear hK
  rotate_left
  go_simp;refine hK _ _ ?_;clear hK
  refine wpAnyIn_ready (rs:=[0,3]) (by kernel_rfl) (by simp) (.cons (i:=0) rfl (fun K hK => ?_) (.cons (i:=3) rfl (fun K hK => ?_) .nil))
  go_simp;refine hK _ _ ?_;clear hK
  rotate_left
  go_simp;refine⟨trivial,by simp[Fence.wide],(HC.out _ rfl).mono ?_⟩
  rintro e W5 ⟨rfl,hb5'⟩;obtain⟨g',cap',W7,hrun,r1,r2,r3,r4,hfin⟩:=HW.out W5 hb5'
  have Hfin:=hideA hfin;clear hfin;refine hK _ _ ?_
  clear hK;refine wpAnyIn_ready (rs:=[0,4]) (by kernel_rfl) (by simp) (.cons (i:=0) rfl (fun K hK => ?_) (.cons (i:=4) rfl (fun K hK => ?_) .nil))
  go_simp;refine hK _ _ ?_;clear hK
  refine rdy1 4 (by kernel_rfl) rfl fun K hK => ?_
  go_simp;refine hK _ _ ?_;clear hK
  rotate_left
  go_simp;refine hK _ _ ?_;clear hK
  refine rdy1 0 (by kernel_rfl) rfl fun K hK => ?_
  go_simp;refine hK _ _ ?_;clear hK
  rotate_left
  any_goals (
   refine rdy1 3 (by kernel_rfl) rfl fun K hK => ?_
   go_simp;refine⟨trivial,by simp[Fence.wide],(HC.out _ rfl).mono ?_⟩
   rintro e W5 ⟨rfl,hb5'⟩;obtain⟨g',cap',W7,hrun,r1,r2,r3,r4,hfin⟩:=HW.out W5 hb5'
   have Hfin:=hideA hfin;clear hfin;refine hK _ _ ?_
   clear hK;refine rdy1 4 (by kernel_rfl) rfl fun K hK => ?_
   go_simp;refine hK _ _ ?_;clear hK)
  all_goals (
   refine rdy1 5 (by kernel_rfl) rfl fun K hK=>oia rfl (.tmp 16) (.tmp 20) 97 rfl _ _ _ _ (by simp[Act.eval]) (by simp[Act.eval]) hrun (hK _ _ ?_)
   refine rdy1 6 (by kernel_rfl) rfl fun K hK => ?_
   go_simp;refine hK _ _ ?_;clear hK
   refine (wpAnyIn_done (by kernel_rfl) ?_) _
   exact Hfin.out)
 case done =>
  rintro D ys W hD rfl ⟨v,ws,I⟩ hK;have c3:W.cell? ⟨w.heap.size+1,0,none⟩=some v:=coh I.sent 0
  have c1:W.cell? ⟨w.heap.size,0,none⟩=some (.pointer (some ⟨b,0,none⟩)):=coh (I.boxes _ List.mem_cons_self) 0
  have HR:=hideA (h.below I.be)
  have c4:W.cell? ⟨b,4,none⟩=some (.slice al r.log.length cl):=coh HR.out.blk 4
  have c6:W.cell? ⟨b,6,none⟩=some (.int .i64 (r.commit:Int)):=coh HR.out.blk 6
  have f6:W.frozen? ⟨b,6,none⟩=false:=foh HR.out.blk 6
  have HI:=hideA I;clear I;gi_wp2_with fail;refine wpIn_wide.2 ?_
  go_region_held3 (fun w'=>w'.cell? ⟨w.heap.size,0,none⟩=some (.pointer (some ⟨b,0,none⟩))∧w'.cell? ⟨b,4,none⟩=some (.slice al r.log.length cl)) (first|(simp[go_sem];done)|(simp[go_sem, *];done)|go_keep) (fail)
  gi_wp2_with fail;obtain⟨W1,hW1⟩:∃ W1,W1=(W.setCell ⟨b,6,none⟩ (.int .i64 (r.log.length:Int))).drew:=⟨_,rfl⟩
  rw[← hW1];have hs1:W1.heap.size=W.heap.size:=by rw[hW1];simp
  have o1:∀ k,k≠b→W1.heap[k]?=W.heap[k]?:=fun k hk=>by rw[hW1];exact Below.heap_setCell _ _ _ k hk
  have R1:Hid (RepAt W1 b own { r with commit:=r.log.length } vm (.slice al r.log.length cl)):=hideA (by
   rw[hW1];have:=HR.out.set 6 (.int .i64 (r.log.length:Int)) { r with commit:=r.log.length } vm _ rfl HR.out.hm HR.out.hl
   exact⟨this.blk,this.hm,this.hl⟩)
  have hwW:=HI.out.be.size
  have e1:W1.cell? ⟨w.heap.size,0,none⟩=some (.pointer (some ⟨b,0,none⟩)):=by rw[cell_same (o1 _ (by omega))];exact c1
  have e3:W1.cell? ⟨w.heap.size+1,0,none⟩=some v:=by rw[cell_same (o1 _ (by omega))];exact c3
  have hK1:W1.heap[D]?=some (.deferred (some [])):=by
   rw[o1 D (by have:=hbw6.size;omega)]
   exact hK
  have m1:Moved w W1 (RepS b vm (.slice al r.log.length cl)):=by
   rw[hW1];exact (((Moved.refl w _).below HI.out.be).setCell ⟨b,6,none⟩ (.inl rfl) _).drew
  have t1:∀ {T:TypeId} {size m:Nat} {u:Value} {xs:List Value} {bs:Nat},T≠219→W.ownsRow bs T size u m xs→W1.ownsRow bs T size u m xs:=fun hT ho=>by
   rw[hW1];exact ownsRow_setCell_other ho (bty HR.out.blk ho hT) _
  have HC2:Hid (∀ W',W'=W1.drew→Calls Tryz.prog 271 #[.pointer (some ⟨b,0,none⟩)] W' fun e W2=>∃ v2,e=.returned v2∧MsgsOwn W2 W1.heap.size v2 (Rep.acks { r with commit:=r.log.length } own)∧Below W1.heap.size W1 W2):=hideA fun W' hW'=>by
   subst hW';refine (ackAhead_any b own { r with commit:=r.log.length } vm _ W1.drew (R1.out.below (Below.refl _ _).drew) ⟨ok.m,ok.l,Nat.le_refl _⟩).mono ?_
   rintro e W2 ⟨v2,rfl,h1,h2⟩;exact⟨v2,rfl,h1,((Below.refl _ _).drew).trans h2⟩
  have HA2:Hid (∀ W2 v2,MsgsOwn W2 W1.heap.size v2 (Rep.acks { r with commit:=r.log.length } own)→Below W1.heap.size W1 W2→∃ v3 W3,(∀ ty,(Builtin.append_ #[97,97] ty #[v,v2]).run Tryz.prog W2=.ok v3 W3)∧W2.cell? ⟨w.heap.size+1,0,none⟩=some v ∧
    ((∃ a c,v3=.slice a ((fromList r.log.length r.commit).map (fun y:Fin r.log.length=>r.reply own y.val)++Rep.acks { r with commit:=r.log.length } own).length c)∧W3.heap[D]?=some (.deferred (some []))∧RepTo w (W3.putObj D (.deferred none)) b own vm (.slice al r.log.length cl) (r.commitAll own).1∧MsgsOwn (W3.putObj D (.deferred none)) w.heap.size v3 (r.commitAll own).2)):=hideA (by
   intro W2 v2 hmv hb2;obtain⟨ws2,hms2,hrow2,hls2⟩:=hmv;have I:=HI.out
   have hrowv:W2.ownsRow w.heap.size 134 10 v _ (ws.flatMap mcells):=okp (t1 (by decide) I.row) fun k _ hk=>hb2.block k hk
   have hn1:((fromList r.log.length r.commit).map (fun y:Fin r.log.length=>r.reply own y.val)).length≤24:=by rw[List.length_map,fromList_length];omega
   have hn2:(Rep.acks { r with commit:=r.log.length } own).length≤1:=by unfold Rep.acks;split<;>simp
   have hbig:=hb2.size
   obtain⟨v3,W3,hrun,ho3,hg3,hsh⟩:=append_msgs W2 w.heap.size W1.heap.size v v2 _ _ ws ws2 hrowv hrow2 hls2 (by omega) (by omega)
   have hD3:W3.heap[D]?=some (.deferred (some [])):=by
    have hDl:D<W1.heap.size:=(Array.getElem?_eq_some_iff.1 hK1).1
    rw[hg3.block D (by omega) (fun e => ?_),hb2.block D hDl]
    ·exact hK1
    ·obtain⟨cs',h',_⟩:=obc hrowv e.symm
     rw[hb2.block D hDl,hK1] at h'
     cases h'
   have o3:∀ (k:Nat) (cs:Array Value) (T:TypeId),T≠134→W2.heap[k]?=some (.cells cs T)→(W3.putObj D (.deferred none)).heap[k]?=some (.cells cs T):=fun k cs T hT hk=>by
    have n1:v.ownBlock≠some k:=fun e=>by
     obtain⟨cs',h',_⟩:=obc hrowv e
     rw[hk] at h'
     injection h' with h'
     injection h' with _ h'
     exact hT h'
    have n2:k≠D:=fun e=>by
     subst e;rw[hb2.block k (Array.getElem?_eq_some_iff.1 hK1).1,hK1] at hk
     cases hk
    rw[World.putObj_heap_other n2,hg3.block k (Array.getElem?_eq_some_iff.1 hk).1 (fun e=>n1 e.symm)]
    exact hk
   have rows3:∀ {T:TypeId} {size m:Nat} {u:Value} {xs:List Value} {bs:Nat},T≠134→W2.ownsRow bs T size u m xs→(W3.putObj D (.deferred none)).ownsRow bs T size u m xs:=by
    intro T size m u xs bs hT ho;refine⟨ho.1, ?_⟩
    rcases ho.2 with h0|⟨g,cap,cur,rfl,hb,hgg,rest⟩
    ·exact .inl h0
    ·exact .inr ⟨g,cap,cur,rfl,hb,o3 g cur T hT hgg,rest⟩
   have R2:=R1.out.below hb2
   have hms:ws.map Prod.fst=(fromList r.log.length r.commit).map (fun y:Fin r.log.length=>r.reply own y.val):=I.msgs
   have hfin3:(W3.putObj D (.deferred none)).ownsRow w.heap.size 134 10 v3 (((fromList r.log.length r.commit).map (fun y:Fin r.log.length=>r.reply own y.val)).length+(Rep.acks { r with commit:=r.log.length } own).length) ((ws++ws2).flatMap mcells):=by
    refine⟨ho3.1, ?_⟩
    rcases ho3.2 with h0|⟨g,cap,cur,rfl,hb,hgg,rest⟩
    ·exact .inl h0
    ·refine .inr ⟨g,cap,cur,rfl,hb, ?_,rest⟩
     rw[World.putObj_heap_other (fun e=>by subst e;rw[hD3] at hgg;cases hgg)]
     exact hgg
   refine⟨v3,W3,hrun,cell_later hb2 e3, ?_,hD3, ?_, ?_⟩
   ·rw[List.length_append];exact hsh
   ·refine⟨vm,.slice al r.log.length cl,⟨o3 _ _ _ (by decide) R2.blk,rows3 (by decide) R2.hm,rows3 (by decide) R2.hl⟩, ?_,Grows.refl _ _,Grows.refl _ _⟩
    refine⟨?_, ?_, ?_, ?_,fun k hk hS => ?_⟩
    ·exact hg3.os.trans (hb2.os.trans m1.os)
    ·exact hg3.tape.trans (hb2.tape.trans m1.tape)
    ·exact hg3.output.trans (hb2.output.trans m1.output)
    ·have:=hg3.size;simp;omega
    ·have hDw:w.heap.size≤D:=by have:=hbw6.size;omega
     rw[World.putObj_heap_other (by omega),hg3.block k (by omega) (fun e=>by obtain⟨_,_,h'⟩:=obc hrowv e.symm;omega),hb2.block k (by omega)]
     exact m1.block k hk hS
   ·refine⟨ws++ws2, ?_, ?_, ?_⟩
    ·rw[List.map_append,hms,hms2,from_places];rfl
    ·show World.ownsRow _ _ _ _ v3 ((placesFrom r.commit r.log.length).map (r.reply own)++Rep.acks { r with commit:=r.log.length } own).length _
     rw[List.length_append, ← from_places];exact hfin3
    ·intro t ht
     rw[List.mem_append] at ht
     rcases ht with ht|ht
     ·have hl:=I.lists t ht
      exact⟨rows3 (by decide) (okp (t1 (by decide) hl.1) fun k _ hk=>hb2.block k hk),rows3 (by decide) (okp (t1 (by decide) hl.2) fun k _ hk=>hb2.block k hk)⟩
     ·have hl:=hls2 t ht
      exact⟨rows3 (by decide) hl.1,rows3 (by decide) hl.2⟩)
  clear HI HR R1 m1 o1 hK hK1 hW1 t1;refine wpIn_wide.2 ?_
  refine wp_region_any mixed ?_
  change wpAny _ _ _ _ _ _ _ (World.drew _)
  refine wpAny_ready (rs:=[0,1]) (by kernel_rfl) (by simp) ?_
  refine AllReady.cons (i:=0) rfl (fun K hK => ?_) ?_
  ·go_simp;refine hK _ _ ?_;clear hK
   refine wpAny_ready (rs:=[1]) (by kernel_rfl) (by simp) ?_
   refine AllReady.cons (i:=1) rfl (fun K hK => ?_) ?_
   ·go_simp;refine hK _ _ ?_;clear hK
    refine wpAny_ready (rs:=[2]) (by kernel_rfl) (by simp) ?_
    refine AllReady.cons (i:=2) rfl (fun K hK => ?_) ?_
    ·go_simp
     refine (HC2.out _ rfl).mono ?_
     rintro e W2 ⟨v2,rfl,hmv,hb2⟩;obtain⟨v3,W3,hrun,r3,hfin⟩:=HA2.out W2 v2 hmv hb2
     have Hfin:=hideA hfin;clear hfin;refine hK _ _ ?_
     clear hK;refine wpAny_ready (rs:=[3]) (by kernel_rfl) (by simp) ?_
     refine AllReady.cons (i:=3) rfl (fun K hK=>op_append rfl (.tmp 30) (.tmp 32) 97 rfl _ _ _ _ (by simp[Act.eval]) (by simp[Act.eval]) hrun (hK _ _ ?_)) ?_
     ·refine wpAny_ready (rs:=[4]) (by kernel_rfl) (by simp) ?_
      refine AllReady.cons (i:=4) rfl (fun K hK => ?_) ?_
      ·go_simp;refine hK _ _ ?_;clear hK
       refine (wpAny_done (by kernel_rfl) ?_) _
       obtain⟨a3,c3,rfl⟩:=Hfin.out.1;gi_wp2_with fail;refine⟨by simp,.inl ⟨_,_,rfl,run_takeDeferred Hfin.out.2.1, ?_⟩⟩
       refine⟨_,results_tmp rfl _ _ _,_,rfl, ?_⟩
       exact Hfin.out.2.2
      exact AllReady.nil
     exact AllReady.nil
    exact AllReady.nil
   exact AllReady.nil
  refine AllReady.cons (i:=1) rfl (fun K hK => ?_) ?_
  ·go_simp;refine hK _ _ ?_;clear hK
   refine wpAny_ready (rs:=[0,2]) (by kernel_rfl) (by simp) ?_
   refine AllReady.cons (i:=0) rfl (fun K hK => ?_) ?_
   ·go_simp;refine hK _ _ ?_;clear hK
    refine wpAny_ready (rs:=[2]) (by kernel_rfl) (by simp) ?_
    refine AllReady.cons (i:=2) rfl (fun K hK => ?_) ?_
    ·go_simp
     refine (HC2.out _ rfl).mono ?_
     rintro e W2 ⟨v2,rfl,hmv,hb2⟩;obtain⟨v3,W3,hrun,r3,hfin⟩:=HA2.out W2 v2 hmv hb2
     have Hfin:=hideA hfin;clear hfin;refine hK _ _ ?_
     clear hK;refine wpAny_ready (rs:=[3]) (by kernel_rfl) (by simp) ?_
     refine AllReady.cons (i:=3) rfl (fun K hK=>op_append rfl (.tmp 30) (.tmp 32) 97 rfl _ _ _ _ (by simp[Act.eval]) (by simp[Act.eval]) hrun (hK _ _ ?_)) ?_
     ·refine wpAny_ready (rs:=[4]) (by kernel_rfl) (by simp) ?_
      refine AllReady.cons (i:=4) rfl (fun K hK => ?_) ?_
      ·go_simp;refine hK _ _ ?_;clear hK
       refine (wpAny_done (by kernel_rfl) ?_) _
       obtain⟨a3,c3,rfl⟩:=Hfin.out.1;gi_wp2_with fail;refine⟨by simp,.inl ⟨_,_,rfl,run_takeDeferred Hfin.out.2.1, ?_⟩⟩
       refine⟨_,results_tmp rfl _ _ _,_,rfl, ?_⟩
       exact Hfin.out.2.2
      exact AllReady.nil
     exact AllReady.nil
    exact AllReady.nil
   refine AllReady.cons (i:=2) rfl (fun K hK => ?_) ?_
   ·go_simp
    refine (HC2.out _ rfl).mono ?_
    rintro e W2 ⟨v2,rfl,hmv,hb2⟩;obtain⟨v3,W3,hrun,r3,hfin⟩:=HA2.out W2 v2 hmv hb2
    have Hfin:=hideA hfin;clear hfin;refine hK _ _ ?_
    clear hK;refine wpAny_ready (rs:=[0]) (by kernel_rfl) (by simp) ?_
    refine AllReady.cons (i:=0) rfl (fun K hK => ?_) ?_
    ·go_simp;refine hK _ _ ?_;clear hK
     refine wpAny_ready (rs:=[3]) (by kernel_rfl) (by simp) ?_
     refine AllReady.cons (i:=3) rfl (fun K hK=>op_append rfl (.tmp 30) (.tmp 32) 97 rfl _ _ _ _ (by simp[Act.eval]) (by simp[Act.eval]) hrun (hK _ _ ?_)) ?_
     ·refine wpAny_ready (rs:=[4]) (by kernel_rfl) (by simp) ?_
      refine AllReady.cons (i:=4) rfl (fun K hK => ?_) ?_
      ·go_simp;refine hK _ _ ?_;clear hK
       refine (wpAny_done (by kernel_rfl) ?_) _
       obtain⟨a3,c3,rfl⟩:=Hfin.out.1;gi_wp2_with fail;refine⟨by simp,.inl ⟨_,_,rfl,run_takeDeferred Hfin.out.2.1, ?_⟩⟩
       refine⟨_,results_tmp rfl _ _ _,_,rfl, ?_⟩
       exact Hfin.out.2.2
      exact AllReady.nil
     exact AllReady.nil
    exact AllReady.nil
   exact AllReady.nil
  exact AllReady.nil
 case stop =>
  rintro D c' pre W hD hpre hF hK;exact hF.elim
end Go.Proofs.YtgieeeeeiggoeaaGreat
