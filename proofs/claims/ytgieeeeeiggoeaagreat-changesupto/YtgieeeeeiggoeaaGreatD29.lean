import Derived.Test.YtgieeeeeiggoeaaGreatD28
set_option maxRecDepth 100000
set_option maxHeartbeats 4000000
namespace Go.Proofs.YtgieeeeeiggoeaaGreat
open Go.RowKit Go.Shelf
open Tryz
theorem Pm (F:Nat->Prop)(b:Nat)(own:Int)(p:bh)(m:aK)(mm ml:Value)(w:World)(h:fM w F b own p)(ok:l7 p own) :
  Calls prog 241 #[b,bL m mm ml] w fun e w'=>e=.returned (.bool (p.mV own m))/\ai w w':=by
 obtain⟨vw,vo,vm,vl,h⟩:=h;have hbl:b<w.heap.size:=h.lt b h.fb;have HI:=ae h;have hd:=ok.d;have HQ:Hid (∀ W,ai w W->Calls prog 183 #[b] W fun e w'=>e=.returned (.int .i64 (p.ak own))/\∃ q,w'=W.drewN q):=ae fun W hb=>C_ F b own p _ _ _ _ W (HI.out.below hb) ok.b ok.n;have HS:Hid (∀ W,ai w W->W.cell? (b,2)=some (.int .i64 p.doing)/\W.cell? (b,4)=some (.int .i64 p.ah)):=ae fun W hb=>⟨aj (HI.out.below hb).blk 2,aj (HI.out.below hb).blk 4⟩;clear h ok;generalize hqq:p.mV own m=qq;unfold bh.mV at hqq;generalize p.ak own=so at *;generalize p.doing=doing at *;generalize p.ah=ep at *;generalize V1:(m.ak == so)=ob at *;generalize hoe:(m.ah == ep)=oe at *;unfold bL;rcases (by omega:doing=0\/doing=1\/doing=2\/doing=3\/doing=4\/doing=5\/doing=6) with rfl|rfl|rfl|rfl|rfl|rfl|rfl
 all_goals simp only [Int.reduceEq,if_true,if_false] at hqq
 ·-- 0
  have lX:=ae hqq;clear hqq;go_enter func241,ntmps241;go_wp2_with fail;obtain⟨X,hX,hbX,hM⟩:=dk w m mm ml;rw[hX];clear hX;obtain⟨s2,s4⟩:=HS.out X hbX;have gM:=fun j=>aj hM j;go_quiet ((go_at_call 183;refine (HQ.out _ (aV hbX _)).mono ?_;rintro e w9 ⟨rfl,q,rfl⟩;exact⟨rfl,_,fi _ _ _⟩))
  go_wp2_with fail;go_quiet (fail);go_wp2_with fail;go_ret;refine⟨?_,by first|exact aV (aV hbX _) _|exact aV hbX _⟩
  rw[<- lX.out];rfl
 ·generalize hk:(m.kind == 6)=kk at *
  cases kk<;>cases oe
  all_goals (
   have lX:=ae hqq;clear hqq;go_enter func241,ntmps241;go_wp2_with fail;obtain⟨X,hX,hbX,hM⟩:=dk w m mm ml;rw[hX];clear hX;obtain⟨s2,s4⟩:=HS.out X hbX;have gM:=fun j=>aj hM j;go_quiet ((go_at_call 183;refine (HQ.out _ (aV hbX _)).mono ?_;rintro e w9 ⟨rfl,q,rfl⟩;exact⟨rfl,_,fi _ _ _⟩))
   go_wp2_with fail;go_quiet (fail);go_wp2_with fail;go_ret;refine⟨?_,by first|exact aV (aV hbX _) _|exact aV hbX _⟩
   rw[<- lX.out];rfl)
 ·generalize hk:(m.kind == 8)=kk at *
  cases kk<;>cases oe
  all_goals (
   have lX:=ae hqq;clear hqq;go_enter func241,ntmps241;go_wp2_with fail;obtain⟨X,hX,hbX,hM⟩:=dk w m mm ml;rw[hX];clear hX;obtain⟨s2,s4⟩:=HS.out X hbX;have gM:=fun j=>aj hM j;go_quiet ((go_at_call 183;refine (HQ.out _ (aV hbX _)).mono ?_;rintro e w9 ⟨rfl,q,rfl⟩;exact⟨rfl,_,fi _ _ _⟩))
   go_wp2_with fail;go_quiet (fail);go_wp2_with fail;go_ret;refine⟨?_,by first|exact aV (aV hbX _) _|exact aV hbX _⟩
   rw[<- lX.out];rfl)
 ·generalize hk:(m.kind == 10)=kk at *
  cases kk<;>cases oe
  all_goals (
   have lX:=ae hqq;clear hqq;go_enter func241,ntmps241;go_wp2_with fail;obtain⟨X,hX,hbX,hM⟩:=dk w m mm ml;rw[hX];clear hX;obtain⟨s2,s4⟩:=HS.out X hbX;have gM:=fun j=>aj hM j;go_quiet ((go_at_call 183;refine (HQ.out _ (aV hbX _)).mono ?_;rintro e w9 ⟨rfl,q,rfl⟩;exact⟨rfl,_,fi _ _ _⟩))
   go_wp2_with fail;go_quiet (fail);go_wp2_with fail;go_ret;refine⟨?_,by first|exact aV (aV hbX _) _|exact aV hbX _⟩
   rw[<- lX.out];rfl)
 ·generalize hk:(m.kind == 12)=kk at *
  cases kk<;>cases oe
  all_goals (
   have lX:=ae hqq;clear hqq;go_enter func241,ntmps241;go_wp2_with fail;obtain⟨X,hX,hbX,hM⟩:=dk w m mm ml;rw[hX];clear hX;obtain⟨s2,s4⟩:=HS.out X hbX;have gM:=fun j=>aj hM j;go_quiet ((go_at_call 183;refine (HQ.out _ (aV hbX _)).mono ?_;rintro e w9 ⟨rfl,q,rfl⟩;exact⟨rfl,_,fi _ _ _⟩))
   go_wp2_with fail;go_quiet (fail);go_wp2_with fail;go_ret;refine⟨?_,by first|exact aV (aV hbX _) _|exact aV hbX _⟩
   rw[<- lX.out];rfl)
 ·generalize hk:(m.kind == 14)=kk at *
  cases kk<;>cases oe
  all_goals (
   have lX:=ae hqq;clear hqq;go_enter func241,ntmps241;go_wp2_with fail;obtain⟨X,hX,hbX,hM⟩:=dk w m mm ml;rw[hX];clear hX;obtain⟨s2,s4⟩:=HS.out X hbX;have gM:=fun j=>aj hM j;go_quiet ((go_at_call 183;refine (HQ.out _ (aV hbX _)).mono ?_;rintro e w9 ⟨rfl,q,rfl⟩;exact⟨rfl,_,fi _ _ _⟩))
   go_wp2_with fail;go_quiet (fail);go_wp2_with fail;go_ret;refine⟨?_,by first|exact aV (aV hbX _) _|exact aV hbX _⟩
   rw[<- lX.out];rfl)
 ·generalize hk:(m.kind == 16)=kk at *
  cases kk<;>cases oe
  all_goals (
   have lX:=ae hqq;clear hqq;go_enter func241,ntmps241;go_wp2_with fail;obtain⟨X,hX,hbX,hM⟩:=dk w m mm ml;rw[hX];clear hX;obtain⟨s2,s4⟩:=HS.out X hbX;have gM:=fun j=>aj hM j;go_quiet ((go_at_call 183;refine (HQ.out _ (aV hbX _)).mono ?_;rintro e w9 ⟨rfl,q,rfl⟩;exact⟨rfl,_,fi _ _ _⟩))
   go_wp2_with fail;go_quiet (fail);go_wp2_with fail;go_ret;refine⟨?_,by first|exact aV (aV hbX _) _|exact aV hbX _⟩
   rw[<- lX.out];rfl)
end Go.Proofs.YtgieeeeeiggoeaaGreat
