import Derived.Test.YtgieeeeeiggoeaaGreatC10
import Derived.Shelf.RegionOpenPlain
import Derived.Deep.RegionLaw
import Derived.Lib.SliceRun
import Derived.Test.YtgieeeeeiggoeaaGreatC13
import Derived.Deep.AppendLies
import Derived.Test.YtgieeeeeiggoeaaGreatC09
import Derived.Test.YtgieeeeeiggoeaaGreatC02
import Derived.Test.YtgieeeeeiggoeaaGreatC22
set_option maxRecDepth 1000000
set_option maxHeartbeats 4000000
namespace Go.Proofs.YtgieeeeeiggoeaaGreat
open Go.RowKit Go.Shelf
theorem heap_setCells (g:Nat)(T:TypeId):∀ (vs:List Value) (o:Nat) (w:World) (cs:Array Value),w.heap[g]?=some (.cells cs T)→o+vs.length≤cs.size →
  ∃ cs',(w.setCells g o vs).heap[g]?=some (.cells cs' T)∧cs'.toList=cs.toList.take o++vs++cs.toList.drop (o+vs.length)
 | [],o,w,cs,h,_=>⟨cs,h,by simp⟩
 | v :: r,o,w,cs,h,hl=>by
  simp only [List.length_cons] at hl
  have h1:=heap_setCell_same w g o cs T v h
  obtain⟨cs',h2,h3⟩:=heap_setCells g T r (o+1) _ _ h1 (by simp;omega)
  refine⟨cs',h2, ?_⟩
  rw[h3];have e:(cs.setIfInBounds o v).toList=cs.toList.set o v:=by simp
  rw[e,List.take_set,List.drop_set];have ho:o<cs.toList.length:=by simp;omega
  rw[if_pos (by omega)]
  rw[List.take_succ_eq_append_getElem ho,List.set_append_right _ _ (by simp;omega)]
  simp
  rw[show min o cs.size=o by simp at ho;omega,Nat.sub_self]
  simp
  congr 1
  omega
theorem moved_setCells (g:Nat):∀ (vs:List Value) (o:Nat) (w:World),(w.setCells g o vs).os=w.os∧(w.setCells g o vs).tape=w.tape∧(w.setCells g o vs).output=w.output∧(w.setCells g o vs).heap.size=w.heap.size∧∀ k,k≠g→(w.setCells g o vs).heap[k]?=w.heap[k]?
 | [],_,_=>⟨rfl,rfl,rfl,rfl,fun _ _=>rfl⟩
 | v :: r,o,w=>by
  obtain⟨a,b,c,d,e⟩:=moved_setCells g r (o+1) (w.setCell ⟨g,o,none⟩ v)
  exact⟨a,b,c,by rw[World.setCells,d];simp,fun k hk=>(e k hk).trans (Below.heap_setCell _ _ _ k hk)⟩
structure OneTurned (w w':World)(g:Nat):Prop where
 os:w'.os=w.os
 tape:w'.tape=w.tape
 output:w'.output=w.output
 size:w'.heap.size=w.heap.size
 block:∀ k,k≠g→w'.heap[k]?=w.heap[k]?
theorem eraseIdx_parts {α : Type}(l:List α)(i:Nat):l.eraseIdx i=l.take i++l.drop (i+1):=List.eraseIdx_eq_take_drop_succ l i
theorem delete_ints (base g n cap i:Nat)(xs:List Value)(w:World)(hown:w.ownsRow base 3 1 (.slice (some ⟨g,0,none⟩) n cap) n xs)(h1:∀ u∈xs,u.oneCell'=true)(hin:i<n) :
  Calls Tryz.prog 242 #[.slice (some ⟨g,0,none⟩) n cap,.int .i64 (i:Int),.int .i64 ((i:Int)+1)] w fun e w'=>e=.returned (.slice (some ⟨g,0,none⟩) (n-1) cap) ∧
   w'.ownsRow base 3 1 (.slice (some ⟨g,0,none⟩) (n-1) cap) (n-1) (xs.eraseIdx i)∧OneTurned w w' g:=by
 obtain⟨hxl,hrow⟩:=hown;rcases hrow with ⟨h0,_⟩|⟨g',cap',cur,hv,hb,hg,hnc,hcm,hcs,htk⟩
 ·cases h0
 cases hv
 rw[Nat.mul_one] at hxl hcs htk
 have hcell:∀ j,j<cap→w.cell? ⟨g,j,none⟩=cur[j]?:=fun j _=>coh hg j
 have hfro:∀ j,w.frozen? ⟨g,j,none⟩=false:=fun j=>foh hg j
 have hgl:∀ j,j<n→cur[j]?=xs[j]?:=by
  intro j hj;rw[← htk,List.getElem?_take_of_lt hj,Array.getElem?_toList]
 obtain⟨i0,hi0,hz0,hz1,hz2⟩:=info_parts infoInt
 obtain⟨news,hnews⟩:∃ news,news=xs.drop (i+1):=⟨_,rfl⟩
 have hlen:news.length=n-(i+1):=by rw[hnews];simp;omega
 obtain⟨A,hA,hsrc⟩:∃ A:Addr,(if cap=i+1 then some (⟨g,0,none⟩:Addr) else some ⟨g,i+1,none⟩)=some A∧Hid (∀ t u,news[t]?=some u→w.drew.cell? (A.add t)=some u):=by
  by_cases h:cap=i+1
  ·refine⟨⟨g,0,none⟩,by simp[h],fun t u hu => ?_⟩
   have h0:news.length=0:=by rw[hlen];omega
   rw[List.length_eq_zero_iff.1 h0] at hu
   simp at hu
  ·refine⟨⟨g,i+1,none⟩,by simp[h],fun t u hu => ?_⟩
   have ht:t<n-(i+1):=by
    have:=(List.getElem?_eq_some_iff.1 hu).1
    rwa [hlen] at this
   rw[Addr.add_lit];show w.cell? _=_
   rw[hcell _ (by omega),hgl _ (by omega)]
   rw[hnews,List.getElem?_drop] at hu
   exact hu
 have s1:Hid (news.length=(n-(i+1))*1):=by rw[Nat.mul_one];exact hlen
 have s2:Hid (∀ u∈news,u.oneCell'=true):=by
  intro u hu;rw[hnews] at hu
  exact h1 u (List.mem_of_mem_drop hu)
 have s3:Hid (∀ t,t<news.length→(w.drew.cell? ⟨g,0+i*1+t,none⟩).isSome=true∧w.drew.frozen? ⟨g,0+i*1+t,none⟩=false):=by
  intro t ht;rw[hlen] at ht
  refine⟨?_,hfro _⟩
  show (w.cell? _).isSome=true
  rw[hcell _ (by omega),Array.getElem?_eq_getElem (by omega)]
  rfl
 obtain⟨W1,hW1⟩:∃ W1,W1=w.drew.setCells g (0+i*1) news:=⟨_,rfl⟩
 have hgd:w.drew.heap[g]?=some (.cells cur 3):=hg
 obtain⟨cs1,hc1,hl1⟩:=heap_setCells g 3 news (0+i*1) w.drew cur hgd (by omega)
 rw[← hW1] at hc1
 have hs1:cs1.size=cap:=by
  rw[← Array.length_toList,hl1];simp only [List.length_append,List.length_take,List.length_drop,Array.length_toList]
  omega
 have hcl:∀ ty,(Builtin.clear_ #[29] ty #[.slice (some ⟨g,i+(n-(i+1)),none⟩) (n-(i+(n-(i+1)))) (cap-(i+(n-(i+1))))]).run Tryz.prog W1=.ok (.tuple #[]) (W1.setCells g (i+(n-(i+1))) (List.replicate (n-(i+(n-(i+1)))) (.int .i64 0))) :=
  fun ty=>Lib.run_clear_slice W1 _ _ ty _ Tryz.underlying29 (fun _=>by kernel_rfl) rfl rfl g _ _ _ (by omega) (fun t ht=>by rw[coh hc1,Array.getElem?_eq_getElem (by omega)];rfl) (fun t ht=>foh hc1 _)
 obtain⟨cs2,hc2,hl2⟩:=heap_setCells g 3 (List.replicate (n-(i+(n-(i+1)))) ((.int .i64 0):Value)) (i+(n-(i+1))) W1 cs1 hc1 (by simp;omega)
 have HF:Hid ((W1.setCells g (i+(n-(i+1))) (List.replicate (n-(i+(n-(i+1)))) (.int .i64 0))).ownsRow base 3 1 (.slice (some ⟨g,0,none⟩) (n-1) cap) (n-1) (xs.eraseIdx i)∧OneTurned w (W1.setCells g (i+(n-(i+1))) (List.replicate (n-(i+(n-(i+1)))) (.int .i64 0))) g):=hideA (by
  refine⟨⟨?_,.inr ⟨g,cap,cs2,rfl,hb,hc2,by omega,hcm, ?_, ?_⟩⟩, ?_⟩
  ·rw[List.length_eraseIdx];split<;>omega
  ·rw[← Array.length_toList,hl2]
   simp only [List.length_append,List.length_take,List.length_drop,Array.length_toList,List.length_replicate]
   omega
  ·rw[hl2,Nat.mul_one,List.append_assoc,List.take_append_of_le_length (by simp;omega),List.take_take,Nat.min_eq_left (by omega),hl1,List.append_assoc,eraseIdx_parts xs i, ← hnews]
   rw[List.take_append,List.take_take,List.take_append_of_le_length (by simp;omega)]
   rw[List.take_of_length_le (l:=news) (by simp;omega)]
   congr 1
   rw[← htk,List.take_take];congr 1
   simp
   omega
  ·obtain⟨a,b,c,d,e⟩:=moved_setCells g news (0+i*1) w.drew
   obtain⟨a2,b2,c2,d2,e2⟩:=moved_setCells g (List.replicate (n-(i+(n-(i+1)))) ((.int .i64 0):Value)) (i+(n-(i+1))) W1
   rw[← hW1] at a b c d e
   exact⟨a2.trans a,b2.trans b,c2.trans c,d2.trans d,fun k hk=>(e2 k hk).trans (e k hk)⟩)
 have hW:Hid (W1=w.drew.setCells g (0+i*1) news):=hW1
 have hic:i≤cap:=by omega
 have hjc:i+1≤cap:=by omega
 have mixed:Tryz.prog.follows Departure.mixedOrders=true:=by kernel_rfl
 have hle1:(0:Int)≤(i:Int)+1:=by omega
 have hle2:(i:Int)+1≤(n:Int):=by omega
 have hij:((i:Int) == (i:Int)+1)=false:=by simp;omega
 clear hW1 hc1 hl1 hs1 hc2 hl2 hcell hgl hnews hg hgd htk hcs hxl h1;go_enter Tryz.func242,Tryz.ntmps242
 go_wp2_with fail;go_region_law_o (refine step_append_room rfl (.tmp 22) (.tmp 25) 29 rfl 3 i0 1 Tryz.underlying29 hi0 hz1 g 0 i cap (by simp[Act.eval,Act.put]) A (n-(i+1)) (cap-(i+1)) news (by simp[Act.eval,Act.put]) s1.out hsrc.out s2.out (by omega) s3.out ?_;rw[← hW.out])
 go_wp2
 go_ret;refine⟨?_,HF.out⟩
 rw[show n-1=i+(n-(i+1)) by omega]
 rfl
theorem infoFrame : (Tryz.prog.info? 138).map (fun i=>(i.zero,i.size,i.bytes))=some (some (.agg #[.string ⟨#[]⟩,.bool false]),2,24):=by kernel_rfl
theorem run_clear_one {P:Program}(w:World)(t e ty:TypeId)(z:Value)(vs:List Value)(ht:P.underlying t=some (.slice e))(hv:∀ w,(zeroValue e).run P w=.ok z w)(hz:(Builtin.zeroCells z.cells 1).toList=vs)(h1:∀ u∈vs,u.oneCell'=true)(b o c:Nat)
  (hc:∀ j,j<vs.length→(w.cell? ⟨b,o+j,none⟩).isSome=true) (hf:∀ j,j<vs.length→w.frozen? ⟨b,o+j,none⟩=false) :
  (Builtin.clear_ #[t] ty #[.slice (some ⟨b,o,none⟩) 1 c]).run P w=.ok (.tuple #[]) (w.setCells b o vs):=by
 have hst:=run_storeCells_cells (P:=P) b o vs 0 w (by simpa using hc) (by simpa using hf) h1
 simp only [Nat.add_zero] at hst
 simp[Builtin.clear_,run_underlying ht,hv,hz,hst]
def dropTwo (xs:List Value)(i:Nat):List Value:=xs.take (i*2)++xs.drop ((i+1)*2)
theorem delete_frames (base g n cap i:Nat)(xs:List Value)(w:World)(hown:w.ownsRow base 138 2 (.slice (some ⟨g,0,none⟩) n cap) n xs)(h1:∀ u∈xs,u.oneCell'=true)(hin:i<n) :
  Calls Tryz.prog 119 #[.slice (some ⟨g,0,none⟩) n cap,.int .i64 (i:Int),.int .i64 ((i:Int)+1)] w fun e w'=>e=.returned (.slice (some ⟨g,0,none⟩) (n-1) cap) ∧
   w'.ownsRow base 138 2 (.slice (some ⟨g,0,none⟩) (n-1) cap) (n-1) (dropTwo xs i)∧OneTurned w w' g:=by
 obtain⟨hxl,hrow⟩:=hown;rcases hrow with ⟨h0,_⟩|⟨g',cap',cur,hv,hb,hg,hnc,hcm,hcs,htk⟩
 ·cases h0
 cases hv
 have hcell:∀ j,j<cap*2→w.cell? ⟨g,j,none⟩=cur[j]?:=fun j _=>coh hg j
 have hfro:∀ j,w.frozen? ⟨g,j,none⟩=false:=fun j=>foh hg j
 have hgl:∀ j,j<n*2→cur[j]?=xs[j]?:=by
  intro j hj;rw[← htk,List.getElem?_take_of_lt hj,Array.getElem?_toList]
 obtain⟨i0,hi0,hz0,hz1,hz2⟩:=info_parts infoFrame
 obtain⟨news,hnews⟩:∃ news,news=xs.drop ((i+1)*2):=⟨_,rfl⟩
 have hlen:news.length=(n-(i+1))*2:=by rw[hnews];simp;omega
 obtain⟨A,hA,hsrc⟩:∃ A:Addr,(if cap=i+1 then some (⟨g,0,none⟩:Addr) else some ⟨g,(i+1)*2,none⟩)=some A∧Hid (∀ t u,news[t]?=some u→w.drew.cell? (A.add t)=some u):=by
  by_cases h:cap=i+1
  ·refine⟨⟨g,0,none⟩,by simp[h],fun t u hu => ?_⟩
   have h0:news.length=0:=by rw[hlen];omega
   rw[List.length_eq_zero_iff.1 h0] at hu
   simp at hu
  ·refine⟨⟨g,(i+1)*2,none⟩,by simp[h],fun t u hu => ?_⟩
   have ht:t<(n-(i+1))*2:=by
    have:=(List.getElem?_eq_some_iff.1 hu).1
    rwa [hlen] at this
   rw[Addr.add_lit];show w.cell? _=_
   rw[hcell _ (by omega),hgl _ (by omega)]
   rw[hnews,List.getElem?_drop] at hu
   exact hu
 have s1:Hid (news.length=(n-(i+1))*2):=hlen
 have s2:Hid (∀ u∈news,u.oneCell'=true):=by
  intro u hu;rw[hnews] at hu
  exact h1 u (List.mem_of_mem_drop hu)
 have s3:Hid (∀ t,t<news.length→(w.drew.cell? ⟨g,0+i*2+t,none⟩).isSome=true∧w.drew.frozen? ⟨g,0+i*2+t,none⟩=false):=by
  intro t ht;rw[hlen] at ht
  refine⟨?_,hfro _⟩
  show (w.cell? _).isSome=true
  rw[hcell _ (by omega),Array.getElem?_eq_getElem (by omega)]
  rfl
 obtain⟨W1,hW1⟩:∃ W1,W1=w.drew.setCells g (0+i*2) news:=⟨_,rfl⟩
 have hgd:w.drew.heap[g]?=some (.cells cur 138):=hg
 obtain⟨cs1,hc1,hl1⟩:=heap_setCells g 138 news (0+i*2) w.drew cur hgd (by omega)
 rw[← hW1] at hc1
 have hs1:cs1.size=cap*2:=by
  rw[← Array.length_toList,hl1];simp only [List.length_append,List.length_take,List.length_drop,Array.length_toList]
  omega
 have hone:n-(i+(n-(i+1)))=1:=by omega
 have hcl:∀ ty,(Builtin.clear_ #[88] ty #[.slice (some ⟨g,(i+(n-(i+1)))*2,none⟩) (n-(i+(n-(i+1)))) (cap-(i+(n-(i+1))))]).run Tryz.prog W1=.ok (.tuple #[]) (W1.setCells g ((i+(n-(i+1)))*2) [.string ⟨#[]⟩,.bool false]):=by
  rw[hone];exact fun ty=>run_clear_one W1 _ _ ty (.agg #[.string ⟨#[]⟩,.bool false]) _ Tryz.underlying88 (fun _=>by kernel_rfl) (by first|kernel_rfl|(simp[Builtin.zeroCells,Value.cells];done)|decide) (by intro u hu;simp at hu;rcases hu with rfl|rfl<;>rfl) g _ _ (fun t ht=>by simp at ht;rw[coh hc1,Array.getElem?_eq_getElem (by omega)];rfl) (fun t ht=>foh hc1 _)
 obtain⟨cs2,hc2,hl2⟩:=heap_setCells g 138 [(.string ⟨#[]⟩:Value),.bool false] ((i+(n-(i+1)))*2) W1 cs1 hc1 (by simp;omega)
 have HF:Hid ((W1.setCells g ((i+(n-(i+1)))*2) [.string ⟨#[]⟩,.bool false]).ownsRow base 138 2 (.slice (some ⟨g,0,none⟩) (n-1) cap) (n-1) (dropTwo xs i)∧OneTurned w (W1.setCells g ((i+(n-(i+1)))*2) [.string ⟨#[]⟩,.bool false]) g):=hideA (by
  unfold dropTwo
  refine⟨⟨?_,.inr ⟨g,cap,cs2,rfl,hb,hc2,by omega,hcm, ?_, ?_⟩⟩, ?_⟩
  ·rw[List.length_append,List.length_take,List.length_drop];omega
  ·rw[← Array.length_toList,hl2]
   simp only [List.length_append,List.length_take,List.length_drop,Array.length_toList,List.length_cons,List.length_nil]
   omega
  ·rw[hl2,List.append_assoc,List.take_append_of_le_length (by simp;omega),List.take_take,Nat.min_eq_left (by omega),hl1,List.append_assoc, ← hnews]
   rw[List.take_append,List.take_take,List.take_append_of_le_length (by simp;omega)]
   rw[List.take_of_length_le (l:=news) (by simp;omega)]
   congr 1
   rw[← htk,List.take_take];congr 1
   simp
   omega
  ·obtain⟨a,b,c,d,e⟩:=moved_setCells g news (0+i*2) w.drew
   obtain⟨a2,b2,c2,d2,e2⟩:=moved_setCells g [(.string ⟨#[]⟩:Value),.bool false] ((i+(n-(i+1)))*2) W1
   rw[← hW1] at a b c d e
   exact⟨a2.trans a,b2.trans b,c2.trans c,d2.trans d,fun k hk=>(e2 k hk).trans (e k hk)⟩)
 have hW:Hid (W1=w.drew.setCells g (0+i*2) news):=hW1
 have hic:i≤cap:=by omega
 have hjc:i+1≤cap:=by omega
 have mixed:Tryz.prog.follows Departure.mixedOrders=true:=by kernel_rfl
 have hle1:(0:Int)≤(i:Int)+1:=by omega
 have hle2:(i:Int)+1≤(n:Int):=by omega
 have hij:((i:Int) == (i:Int)+1)=false:=by simp;omega
 clear hW1 hc1 hl1 hs1 hc2 hl2 hcell hgl hnews hg hgd htk hcs hxl h1 hone;go_enter Tryz.func119,Tryz.ntmps119
 go_wp2_with fail;go_region_law_o (refine step_append_room rfl (.tmp 22) (.tmp 25) 88 rfl 138 i0 2 Tryz.underlying88 hi0 hz1 g 0 i cap (by simp[Act.eval,Act.put]) A (n-(i+1)) (cap-(i+1)) news (by simp[Act.eval,Act.put]) s1.out hsrc.out s2.out (by omega) s3.out ?_;rw[← hW.out])
 go_wp2
 go_ret;refine⟨?_,HF.out⟩
 rw[show n-1=i+(n-(i+1)) by omega]
 rfl
theorem MasAt.below {w w':World}{F:Nat→Prop}{b:Nat}{own:Int}{p:PMas}(h:MasAt w F b own p)(hb:Below w.heap.size w w'):MasAt w' F b own p:=by
 obtain⟨vw,vo,vm,vl,h⟩:=h;exact⟨vw,vo,vm,vl,h.below hb⟩
theorem MasOut.still {w w':World}{F:Nat→Prop}{b:Nat}{own:Int}{p:PMas}(h:MasAt w F b own p)(hb:Below w.heap.size w w'):MasOut w w' F b own (.returned (.slice none 0 0)) (p,[]) :=
 ⟨_,F,rfl,h.below hb,(Moved.refl w F).below hb,fun _ h=>.inl h,MsgsOwn.nil _ _⟩
theorem MasOut.of_to {w w':World}{F:Nat→Prop}{b:Nat}{own:Int}{p:PMas}(h:MasTo w w' F b own p):MasOut w w' F b own (.returned (.slice none 0 0)) (p,[]):=by
 obtain⟨F',h1,h2,h3⟩:=h;exact⟨_,F',rfl,h1,h2,h3,MsgsOwn.nil _ _⟩
theorem below_out {w W w':World}{F:Nat→Prop}{b:Nat}{own:Int}{e:Ending}{q:PMas × List Msg}(hb:Below w.heap.size w W)(h:MasOut W w' F b own e q):MasOut w w' F b own e q :=
 MasOut.after ((Moved.refl w F).below hb) (fun _ hk=>.inl hk) h
theorem goOn_any (F:Nat→Prop)(b:Nat)(own:Int)(p:PMas)(w:World)(h:MasAt w F b own p)(ok:MasOK p own) :
  Calls Tryz.prog 245 #[.pointer (some ⟨b,0,none⟩)] w fun e w'=>MasOut w w' F b own e (p.goOn own):=by
 have HA:=hideA h;have HT:Hid (∀ W F' p' d va l,MasAt W F' b own p'→MasOK p' own→IntOwn W va l→l.length≤5→0≤d∧d≤6→Calls Tryz.prog 70 #[.pointer (some ⟨b,0,none⟩),.int .i64 d,va] W fun e w'=>MasOut W w' F' b own e (p'.turnTo own d l)):=hideA fun W F' p' d va l h1 h2 h3 h4 h5=>turnTo_any F' b own p' d va l W h1 h2 h3 h4 h5
 have HC:=fun W=>hideA (acceptors_any W)
 have HR:Hid (∀ W F' p',MasAt W F' b own p'→Calls Tryz.prog 240 #[.pointer (some ⟨b,0,none⟩)] W fun e w'=>(∃ v,e=.returned v)∧MasTo W w' F' b own p'.idle):=hideA fun W F' p' h=>rest_any F' b own p' W h
 have HK:=hideA ok;have HG:Hid (p.goOn own=if p.doing=1 then { p with old:=[] }.turnTo own 2 p.old else if p.doing=2 then p.turnTo own 3 [100,101,102] else if p.doing=3 then p.turnTo own 4 [100,101,102] else if p.doing=4 then p.turnTo own 5 p.mems else if p.doing=5 then p.turnTo own 6 [100,101,102] else (p.idle,[])):=hideA rfl
 have hd:=ok.d
 clear ok;obtain⟨vw,vo,vm,vl,h⟩:=h;obtain⟨ao,co,rfl⟩:=osh h.ho
 obtain⟨am,cm,rfl⟩:=osh h.hm
 have HI:=hideA h;have hbl:b<w.heap.size:=h.lt b h.fb
 have c2:=coh h.blk 2
 have c5:=coh h.blk 5
 have f5:=foh h.blk 5
 have c7:=coh h.blk 7
 clear h;generalize hdd:p.doing=d at *
 have HDD:=hideA hdd;clear hdd;rcases (by omega:d=0∨d=1∨d=2∨d=3∨d=4∨d=5∨d=6) with rfl|rfl|rfl|rfl|rfl|rfl|rfl
 ·have HQ:Hid (p.goOn own=(p.idle,[])):=hideA (by rw[HG.out];rfl)
  clear HG;go_enter Tryz.func245,Tryz.ntmps245
  go_wp2_with fail;refine (HR.out _ _ _ HA.out).mono ?_
  rintro e W ⟨⟨v,rfl⟩,hto⟩;clear c2 c5 f5 c7;go_wp2_with fail;go_ret;rw[HQ.out];exact MasOut.of_to hto
 ·have HQ:Hid (p.goOn own={ p with old:=[] }.turnTo own 2 p.old):=hideA (by rw[HG.out];rfl)
  clear HG;go_enter Tryz.func245,Tryz.ntmps245
  go_wp2_with fail;have M1:Moved w (w.setCell ⟨b,5,none⟩ (.slice none 0 0)) (fun k=>k=b):=(Moved.refl w (fun k=>k=b)).setCell ⟨b,5,none⟩ rfl _
  have B1:=set9_5 (.slice none 0 0) HI.out.blk
  generalize w.setCell ⟨b,5,none⟩ (.slice none 0 0)=W1 at *
  clear c2 c5 f5 c7;obtain⟨F1,h1,h2,h3⟩:=HI.out.next M1 { p with old:=[] } (.slice none 0 0) (.slice am p.mems.length cm) vl rfl B1 (World.ownsRow_nil _ _ _ _) (HI.out.beside M1 HI.out.hm (by decide)) (HI.out.beside M1 HI.out.hl (by decide)) (fun k e=>absurd e no_row) (fun k e=>.inl e) (fun k e=>.inl e)
  have H1:=hideA (And.intro h1 (And.intro h2 h3))
  clear h1 h2 h3;refine (HT.out W1 F1 { p with old:=[] } 2 _ p.old H1.out.1 ⟨HK.out.w,by simp,HK.out.m,HK.out.l,HK.out.b,HK.out.d,HK.out.n⟩ (HI.out.beside M1 HI.out.ho (by decide)) HK.out.o (by omega)).mono ?_
  intro e Z hO;obtain⟨v,F',rfl,r1,r2,r3,r4⟩:=hO;obtain⟨a8,c8,rfl⟩:=r4.shape;have HR:=hideA (And.intro r1 (And.intro r2 (And.intro r3 r4)))
  clear r1 r2 r3 r4;generalize hpl:(({ p with old:=[] }:PMas).turnTo own 2 p.old).2.length=pl at *
  go_wp2_with fail;go_ret;rw[HQ.out];exact MasOut.after H1.out.2.1 H1.out.2.2 ⟨_,F',rfl,HR.out.1,HR.out.2.1,HR.out.2.2.1,HR.out.2.2.2⟩
 ·have HQ:Hid (p.goOn own=p.turnTo own 3 [100,101,102]):=hideA (by rw[HG.out];rfl)
  clear HG;go_enter Tryz.func245,Tryz.ntmps245
  go_wp2_with fail;refine ((HC w).out).mono ?_
  rintro e A ⟨x2,c2',rfl,o4,hbA⟩;have O4:=hideA (And.intro o4 hbA)
  clear o4 hbA c2 c5 f5 c7;go_wp2_with fail;refine (HT.out A F p 3 _ [100,101,102] (HA.out.below O4.out.2) HK.out (obs O4.out.1 (Nat.zero_le _)) (by simp) (by omega)).mono ?_
  intro e Z hO;obtain⟨v,F',rfl,r1,r2,r3,r4⟩:=hO;obtain⟨a8,c8,rfl⟩:=r4.shape;have HR:=hideA (And.intro r1 (And.intro r2 (And.intro r3 r4)))
  clear r1 r2 r3 r4;generalize hpl:(p.turnTo own 3 [100,101,102]).2.length=pl at *
  go_wp2_with fail;go_ret;rw[HQ.out];exact below_out O4.out.2 ⟨_,F',rfl,HR.out.1,HR.out.2.1,HR.out.2.2.1,HR.out.2.2.2⟩
 ·have HQ:Hid (p.goOn own=p.turnTo own 4 [100,101,102]):=hideA (by rw[HG.out];rfl)
  clear HG;go_enter Tryz.func245,Tryz.ntmps245
  go_wp2_with fail;refine ((HC w).out).mono ?_
  rintro e A ⟨x2,c2',rfl,o4,hbA⟩;have O4:=hideA (And.intro o4 hbA)
  clear o4 hbA c2 c5 f5 c7;go_wp2_with fail;refine (HT.out A F p 4 _ [100,101,102] (HA.out.below O4.out.2) HK.out (obs O4.out.1 (Nat.zero_le _)) (by simp) (by omega)).mono ?_
  intro e Z hO;obtain⟨v,F',rfl,r1,r2,r3,r4⟩:=hO;obtain⟨a8,c8,rfl⟩:=r4.shape;have HR:=hideA (And.intro r1 (And.intro r2 (And.intro r3 r4)))
  clear r1 r2 r3 r4;generalize hpl:(p.turnTo own 4 [100,101,102]).2.length=pl at *
  go_wp2_with fail;go_ret;rw[HQ.out];exact below_out O4.out.2 ⟨_,F',rfl,HR.out.1,HR.out.2.1,HR.out.2.2.1,HR.out.2.2.2⟩
 ·have HQ:Hid (p.goOn own=p.turnTo own 5 p.mems):=hideA (by rw[HG.out];rfl)
  clear HG;go_enter Tryz.func245,Tryz.ntmps245
  go_wp2_with fail;refine (HT.out w F p 5 _ p.mems HA.out HK.out HI.out.hm HK.out.m (by omega)).mono ?_
  intro e Z hO;obtain⟨v,F',rfl,r1,r2,r3,r4⟩:=hO;obtain⟨a8,c8,rfl⟩:=r4.shape;have HR:=hideA (And.intro r1 (And.intro r2 (And.intro r3 r4)))
  clear r1 r2 r3 r4 c2 c5 f5 c7;generalize hpl:(p.turnTo own 5 p.mems).2.length=pl at *
  go_wp2_with fail;go_ret;rw[HQ.out];exact⟨_,F',rfl,HR.out.1,HR.out.2.1,HR.out.2.2.1,HR.out.2.2.2⟩
 ·have HQ:Hid (p.goOn own=p.turnTo own 6 [100,101,102]):=hideA (by rw[HG.out];rfl)
  clear HG;go_enter Tryz.func245,Tryz.ntmps245
  go_wp2_with fail;refine ((HC w).out).mono ?_
  rintro e A ⟨x2,c2',rfl,o4,hbA⟩;have O4:=hideA (And.intro o4 hbA)
  clear o4 hbA c2 c5 f5 c7;go_wp2_with fail;refine (HT.out A F p 6 _ [100,101,102] (HA.out.below O4.out.2) HK.out (obs O4.out.1 (Nat.zero_le _)) (by simp) (by omega)).mono ?_
  intro e Z hO;obtain⟨v,F',rfl,r1,r2,r3,r4⟩:=hO;obtain⟨a8,c8,rfl⟩:=r4.shape;have HR:=hideA (And.intro r1 (And.intro r2 (And.intro r3 r4)))
  clear r1 r2 r3 r4;generalize hpl:(p.turnTo own 6 [100,101,102]).2.length=pl at *
  go_wp2_with fail;go_ret;rw[HQ.out];exact below_out O4.out.2 ⟨_,F',rfl,HR.out.1,HR.out.2.1,HR.out.2.2.1,HR.out.2.2.2⟩
 ·have HQ:Hid (p.goOn own=(p.idle,[])):=hideA (by rw[HG.out];rfl)
  clear HG;go_enter Tryz.func245,Tryz.ntmps245
  go_wp2_with fail;refine (HR.out _ _ _ HA.out).mono ?_
  rintro e W ⟨⟨v,rfl⟩,hto⟩;clear c2 c5 f5 c7;go_wp2_with fail;go_ret;rw[HQ.out];exact MasOut.of_to hto
theorem ints_erase (l:List Int)(i:Nat):(ints l).eraseIdx i=ints (l.eraseIdx i):=by
 rw[eraseIdx_parts,eraseIdx_parts];unfold ints
 simp[List.map_take,List.map_drop]
theorem learn_ok {p:PMas}{own:Int}{m:Msg}(h:MasOK p own)(hm:m.mems.length≤5)(hl:m.log.length≤24)(hx:(p.waits.eraseIdx (p.waits.idxOf m.src)).length≤5):MasOK ((p.less m.src).learn m) own:=by
 unfold PMas.learn PMas.learnRegister PMas.learnVote
 split
 ·split
  ·exact⟨hx,hm,h.m,h.l,h.b,h.d,h.n⟩
  ·exact⟨hx,h.o,h.m,h.l,h.b,h.d,h.n⟩
 ·split
  ·exact⟨hx,h.o,h.m,hl,h.b,h.d,h.n⟩
  ·split
   ·split
    ·exact⟨hx,h.o,hm,hl,h.b,h.d,h.n⟩
    ·exact⟨hx,h.o,h.m,h.l,h.b,h.d,h.n⟩
   ·exact⟨hx,h.o,h.m,h.l,h.b,h.d,h.n⟩
theorem MasIn.lessen {w D Y:World}{F:Nat→Prop}{b:Nat}{own:Int}{p:PMas}{vo vm vl:Value}{g cap:Nat}(h:MasIn w F b own p (.slice (some ⟨g,0,none⟩) p.waits.length cap) vo vm vl)(hD:Below w.heap.size w D)(hT:OneTurned D Y g)(p':PMas)(v':Value)
  (hv:v'.ownBlock=some g) (hb:p'.begun=p.begun) (hd:p'.doing=p.doing) (he:p'.epoch=p.epoch) (ho:p'.old=p.old) (hvt:p'.vote=p.vote) (hm:p'.mems=p.mems) (hl:p'.log=p.log) (hr:IntOwn Y v' p'.waits) :
  MasIn (Y.setCell ⟨b,3,none⟩ v') (More F w (Y.setCell ⟨b,3,none⟩ v')) b own p' v' vo vm vl∧Moved w (Y.setCell ⟨b,3,none⟩ v') F:=by
 have hbl:b<w.heap.size:=h.lt b h.fb
 have hgF:F g:=h.fw g rfl
 have hgb:g≠b:=fun e=>bty h.blk h.hw (by decide) (by rw[← e];rfl)
 have hYb:Y.heap[b]?=some (.cells #[.int .i64 own,.int .i64 (p.begun:Int),.int .i64 p.doing,.slice (some ⟨g,0,none⟩) p.waits.length cap,.int .i64 p.epoch,vo,.int .i64 p.vote,vm,vl] 146):=(hT.block b (Ne.symm hgb)).trans ((hD.block b hbl).trans h.blk)
 have B3:=set9_3 v' hYb
 have hMY:Moved w Y F:=⟨hT.os.trans hD.os,hT.tape.trans hD.tape,hT.output.trans hD.output,by rw[hT.size];exact hD.size,fun k hk hF=>(hT.block k (fun e=>hF (e ▸ hgF))).trans (hD.block k hk)⟩
 have hM:Moved w (Y.setCell ⟨b,3,none⟩ v') F:=hMY.setCell ⟨b,3,none⟩ h.fb _
 have hrow:∀ {base size n:Nat} {e:TypeId} {v:Value} {xs:List Value},w.ownsRow base e size v n xs→e≠146→v.ownBlock≠some g→(Y.setCell ⟨b,3,none⟩ v').ownsRow base e size v n xs:=by
  intro base size n e v xs hv h1 h2;have hY:Y.ownsRow base e size v n xs:=oon hv fun k e=>(hT.block k (fun e2=>h2 (e2 ▸ e))).trans (hD.block k (Array.getElem?_eq_some_iff.1 (obc hv e).choose_spec.1).1)
  exact ownsRow_setCell_other hY (bty h.blk hv h1) _
 refine⟨h.turn p' v' vo vm vl ?_ hM.size ?_ ?_ ?_ ?_ (fun k e=>.inl (by rw[hv] at e;cases e;exact hgF)) (fun k e=>.inl (h.fo k e)) (fun k e=>.inl (h.fm k e)) (fun k e=>.inl (h.fl k e)) (fun k e=>by rw[hv] at e;cases e;exact h.ap g rfl),hM⟩
 ·rw[hb,hd,he,hvt]
  exact B3
 ·exact ownsRow_setCell_other hr (bty hYb hr (by decide)) _
 ·rw[ho];exact hrow h.ho (by decide) (h.ap g rfl).1
 ·rw[hm];exact hrow h.hm (by decide) (h.ap g rfl).2
 ·rw[hl];exact hrow h.hl (by decide) (fun e=>otw h.hw h.hl (by decide) g rfl e)
theorem masTake_any (F:Nat→Prop)(b:Nat)(own:Int)(p:PMas)(m:Msg)(mm ml:Value)(w:World)(h:MasAt w F b own p)(ok:MasOK p own)(hmm:IntOwn w mm m.mems)(hml:LogOwn w ml m.log)(hm5:m.mems.length≤5)(hl24:m.log.length≤24)(he:0≤m.epoch∧m.epoch≤100000)
  (hmF:∀ k,mm.ownBlock=some k→¬ F k) (hlF:∀ k,ml.ownBlock=some k→¬ F k) :
  Calls Tryz.prog 239 #[.pointer (some ⟨b,0,none⟩),mval m mm ml] w fun e w'=>MasOut w w' F b own e (p.take own m):=by
 have HA:=hideA h;have HQ:Hid (∀ W,Below w.heap.size w W→Calls Tryz.prog 241 #[.pointer (some ⟨b,0,none⟩),mval m mm ml] W fun e w'=>e=.returned (.bool (p.isAnswer own m))∧Below W.heap.size W w'):=hideA fun W hb=>isAnswer_any F b own p m mm ml W (h.below hb) ok
 have HL:Hid (∀ W F' p',MasAt W F' b own p'→IntOwn W mm m.mems→LogOwn W ml m.log→Calls Tryz.prog 243 #[.pointer (some ⟨b,0,none⟩),mval m mm ml] W fun e w'=>(∃ v,e=.returned v)∧MasTo W w' F' b own (p'.learn m)):=hideA fun W F' p' h1 h2 h3=>learn_any F' b own p' m mm ml W h1 h2 h3 hm5 hl24 he
 have HE:Hid (∀ W F' p',MasAt W F' b own p'→Calls Tryz.prog 244 #[.pointer (some ⟨b,0,none⟩)] W fun e w'=>e=.returned (.bool p'.enough)∧w'=W):=hideA fun W F' p' h1=>hasEnough_any F' b own p' W h1
 have HG:Hid (∀ W F' p',MasAt W F' b own p'→MasOK p' own→Calls Tryz.prog 245 #[.pointer (some ⟨b,0,none⟩)] W fun e w'=>MasOut W w' F' b own e (p'.goOn own)):=hideA fun W F' p' h1 h2=>goOn_any F' b own p' W h1 h2
 have HT:Hid (p.take own m=if m.src∈p.waits∧p.isAnswer own m=true then (if ((p.less m.src).learn m).enough=true then ((p.less m.src).learn m).goOn own else ((p.less m.src).learn m,[])) else (p,[])):=hideA rfl
 have HOK:=hideA ok;obtain⟨vw,vo,vm,vl,h⟩:=h;have hbl:b<w.heap.size:=h.lt b h.fb
 obtain⟨aw,cw,rfl⟩:=osh h.hw
 have HI:=hideA h;obtain⟨a1,d1,rfl⟩:=osh hmm
 obtain⟨a2,d2,rfl⟩:=osh hml
 have HX:Hid (∀ W,Below w.heap.size w W→Calls Tryz.prog 152 #[.slice aw p.waits.length cw,.int .i64 m.src] W fun e w'=>e=.returned (.int .i64 (idxI p.waits m.src))∧w'=W):=hideA fun W hb=>index_ints _ p.waits m.src W (IntsAt.of_owns (obs (h.below hb).hw (Nat.le_refl _))) (by have:=ok.w;omega)
 have HM0:=hideA (And.intro hmm hml)
 have hw5:=ok.w
 have hne:¬ b=w.heap.size:=by omega
 have hne':¬ w.heap.size=b:=by omega
 clear h ok hmm hml;unfold mval at *
 by_cases hin:m.src∈p.waits
 ·have hix:idxI p.waits m.src=((p.waits.idxOf m.src:Nat):Int):=by unfold idxI;rw[if_pos hin]
  rw[hix] at HX
  have hil:p.waits.idxOf m.src<p.waits.length:=List.idxOf_lt_length_of_mem hin
  obtain⟨g,cap,hsl, -, -⟩:=HI.out.hw.form (by omega)
  cases hsl
  have HLe:Hid (∀ W,Below w.heap.size w W→Calls Tryz.prog 242 #[.slice (some ⟨g,0,none⟩) p.waits.length cw,.int .i64 ((p.waits.idxOf m.src:Nat):Int),.int .i64 (((p.waits.idxOf m.src:Nat):Int)+1)] W fun e w'=>e=.returned (.slice (some ⟨g,0,none⟩) (p.waits.length-1) cw)∧w'.ownsRow 0 3 1 (.slice (some ⟨g,0,none⟩) (p.waits.length-1) cw) (p.waits.length-1) ((ints p.waits).eraseIdx (p.waits.idxOf m.src))∧OneTurned W w' g):=hideA fun W hb=>delete_ints 0 g p.waits.length cw (p.waits.idxOf m.src) (ints p.waits) W (HI.out.below hb).hw (ints_one _) hil
  have HLS:Hid (((ints p.waits).eraseIdx (p.waits.idxOf m.src))=ints (p.less m.src).waits∧p.waits.length-1=(p.less m.src).waits.length):=hideA ⟨ints_erase _ _,by unfold PMas.less;simp only;rw[List.length_eraseIdx,if_pos hil]⟩
  have HOK2:Hid (MasOK ((p.less m.src).learn m) own):=hideA (learn_ok HOK.out hm5 hl24 (by rw[List.length_eraseIdx];split<;>omega))
  have HIN:=hideA hin;clear hix hin;generalize hii:p.waits.idxOf m.src=i at *
  have hwr:IntKind.i64.wrap ((i:Int)+1)=(i:Int)+1:=by rw[IntKind.wrap_i64];omega
  have hi0:¬ (i:Int)<0:=by omega
  go_enter Tryz.func239,Tryz.ntmps239
  go_upto_region 1 with fail
  obtain⟨X,hX,hbX,hM⟩:=msg_box w m (.slice a1 m.mems.length d1) (.slice a2 m.log.length d2)
  rw[hX];clear hX;have IX:=hideA (HI.out.below hbX)
  have s3:=coh IX.out.blk 3
  have gM:=fun j=>coh hM j
  have HM:=hideA hM;clear hM;go_quiet ((go_at_call 152;refine (HX.out _ (below_drewN hbX _)).mono ?_;rintro e w9 ⟨rfl,rfl⟩;exact⟨rfl,_,rfl⟩))
  have hbD:=below_drewN hbX nq
  have HD2:Hid ((X.drewN nq).heap[w.heap.size]?=some (.cells #[.int .i64 m.kind,.int .i64 m.src,.int .i64 m.dst,.int .i64 m.epoch,.int .i64 m.ballot,.int .i64 m.vote,.int .i64 m.pos,.int .i64 m.value,.slice a1 m.mems.length d1,.slice a2 m.log.length d2] 134)):=HM
  generalize X.drewN nq=D at *
  clear gM s3 HM IX;have gD:=fun j=>coh HD2.out j
  go_wp2_with fail;refine (HQ.out D hbD).mono ?_
  rintro e Y ⟨rfl,hbY⟩;have hbWY:=hbD.trans (hbY.mono hbD.size)
  have HDY:Hid (Y.heap[w.heap.size]?=some (.cells #[.int .i64 m.kind,.int .i64 m.src,.int .i64 m.dst,.int .i64 m.epoch,.int .i64 m.ballot,.int .i64 m.vote,.int .i64 m.pos,.int .i64 m.value,.slice a1 m.mems.length d1,.slice a2 m.log.length d2] 134)):=hideA ((hbY.block _ (Array.getElem?_eq_some_iff.1 HD2.out).1).trans HD2.out)
  clear gD HD2;cases hans:p.isAnswer own m with
  | false =>
   have HV:Hid (p.take own m=(p,[])):=hideA (by rw[HT.out,if_neg (by rw[hans];simp)])
   go_wp2_with fail;go_ret;rw[HV.out];exact MasOut.still HA.out hbWY
  | true =>
   have HV:Hid (p.take own m=if ((p.less m.src).learn m).enough=true then ((p.less m.src).learn m).goOn own else ((p.less m.src).learn m,[])):=hideA (by rw[HT.out,if_pos ⟨HIN.out,hans⟩])
   have IY:=hideA (HI.out.below hbWY)
   have y3:=coh IY.out.blk 3
   go_wp2_with fail;refine (HLe.out Y hbWY).mono ?_
   rintro e Z ⟨rfl,hrow,hturn⟩;rw[HLS.out.1,HLS.out.2] at hrow
   have hgb:g≠b:=fun e=>bty HI.out.blk HI.out.hw (by decide) (by rw[← e];rfl)
   have HZb:=hideA ((hturn.block b (Ne.symm hgb)).trans IY.out.blk)
   have z3:=coh HZb.out 3
   have zf3:=foh HZb.out 3
   have HLen:=HI.out.lessen hbWY hturn (p.less m.src) (.slice (some ⟨g,0,none⟩) (p.less m.src).waits.length cw) rfl rfl rfl rfl rfl rfl rfl rfl hrow
   rw[HLS.out.2];have gZ:=fun j=>coh ((hturn.block _ (fun e=>by have:=HI.out.lt g (HI.out.fw g rfl);omega)).trans HDY.out) j
   have HRm:=hideA hrow;clear y3 hrow hturn IY HDY;go_wp2_with fail;obtain⟨HIn3,HMv3⟩:=HLen;generalize Z.setCell ⟨b,3,none⟩ (.slice (some ⟨g,0,none⟩) (p.less m.src).waits.length cw)=W3 at *
   clear z3 zf3;clear gZ;have HI3:=hideA (And.intro HIn3 HMv3)
   clear HIn3 HMv3;refine (HL.out W3 _ (p.less m.src) ⟨_,_,_,_,HI3.out.1⟩ (HI3.out.2.owns HM0.out.1 hmF) (HI3.out.2.owns HM0.out.2 hlF)).mono ?_
   rintro e V ⟨⟨v,rfl⟩,F1,t1,t2,t3⟩;have HTo:=hideA (And.intro t1 (And.intro t2 t3))
   clear t1 t2 t3;go_wp2_with fail;refine (HE.out V F1 _ HTo.out.1).mono ?_
   rintro e V' ⟨rfl,rfl⟩;have hAft:Moved w V' F∧∀ k,F1 k→F k∨w.heap.size≤k:=by
    have hs:=HI3.out.2.size
    refine⟨HI3.out.2.trans HTo.out.2.1 (fun k hk h5 => ?_),fun k hk => ?_⟩
    ·rcases h5 with h6|h6
     ·exact h6
     ·omega
    ·rcases HTo.out.2.2 k hk with h6|h6
     ·rcases h6 with h7|h7
      ·exact .inl h7
      ·exact .inr h7.1
     ·exact .inr (by omega)
   have HAft:=hideA hAft;clear hAft;generalize hq9:(p.less m.src).learn m=q9 at *
   cases hen:q9.enough with
   | false =>
    have HV2:Hid (p.take own m=(q9,[])):=hideA (by rw[HV.out,if_neg (by rw[hen];simp)])
    go_wp2_with fail;go_ret;rw[HV2.out];exact⟨_,F1,rfl,HTo.out.1,HAft.out.1,HAft.out.2,MsgsOwn.nil _ _⟩
   | true =>
    have HV2:Hid (p.take own m=q9.goOn own):=hideA (by rw[HV.out,if_pos hen])
    go_wp2_with fail;refine (HG.out V' F1 q9 HTo.out.1 HOK2.out).mono ?_
    intro e Z2 hO;obtain⟨v2,F2,rfl,r1,r2,r3,r4⟩:=hO;obtain⟨a8,c8,rfl⟩:=r4.shape;have HR:=hideA (And.intro r1 (And.intro r2 (And.intro r3 r4)))
    clear r1 r2 r3 r4;generalize hpl:(q9.goOn own).2.length=pl at *
    go_wp2_with fail;go_ret;rw[HV2.out];exact MasOut.after HAft.out.1 HAft.out.2 ⟨_,F2,rfl,HR.out.1,HR.out.2.1,HR.out.2.2.1,HR.out.2.2.2⟩
 ·have hix:idxI p.waits m.src = -1:=by unfold idxI;rw[if_neg hin]
  rw[hix] at HX
  have HV:Hid (p.take own m=(p,[])):=hideA (by rw[HT.out,if_neg (fun e=>hin e.1)])
  have HIN:=hideA hin;clear hin hix;go_enter Tryz.func239,Tryz.ntmps239
  go_upto_region 1 with fail
  obtain⟨X,hX,hbX,hM⟩:=msg_box w m (.slice a1 m.mems.length d1) (.slice a2 m.log.length d2)
  rw[hX];clear hX;have IX:=hideA (HI.out.below hbX)
  have s3:=coh IX.out.blk 3
  have gM:=fun j=>coh hM j
  clear hM;go_quiet ((go_at_call 152;refine (HX.out _ (below_drewN hbX _)).mono ?_;rintro e w9 ⟨rfl,rfl⟩;exact⟨rfl,_,rfl⟩))
  have hbD:=below_drewN hbX nq
  clear gM s3;go_wp2_with fail;go_ret;rw[HV.out];exact MasOut.still HA.out hbD
end Go.Proofs.YtgieeeeeiggoeaaGreat
