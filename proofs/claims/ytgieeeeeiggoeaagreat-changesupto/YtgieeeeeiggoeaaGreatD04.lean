import Derived.Test.YtgieeeeeiggoeaaGreatD02
set_option maxRecDepth 100000
set_option maxHeartbeats 1000000
namespace Go.Proofs.YtgieeeeeiggoeaaGreat
open Go.RowKit
open Tryz
variable {l:List Int}
theorem pv {a:ByteArray}{p:List UInt8 × Int}(h:Hid (p=([],1)))(ha:a=bs []):Ending.returned (.tuple #[.string a,.int .i64 1])=.returned (.tuple #[.string (bs p.1),p.2]):=by rw[h.out,ha]
theorem SK (k f t ep ba vo po va:Int)(mem log:Value)(ms:List Int)(es:List aH)(w:World)(hmem:bJ w mem ms)(dy:eM w log es)
  (hno:¬ (1<=k/\k<=16/\ms.length<=5/\es.length<=24)):Calls prog 166 #[.agg #[.int .i64 k,.int .i64 f,.int .i64 t,.int .i64 ep,.int .i64 ba,.int .i64 vo,.int .i64 po,.int .i64 va,mem,log]] w fun e w'=>Below w.heap.size w w'/\e=.returned (.tuple #[.string (bs (eh k [f,t,ep,ba,vo,po,va] ms es).1),.int .i64 (eh k [f,t,ep,ba,vo,po,va] ms es).2]):=by
 obtain⟨am,cm,rfl, -⟩:=hmem;obtain⟨al,cl,rfl, -⟩:=dy;have hb0:=(Below.refl w.heap.size w).alloc (aG _) (.cells #[.int .i64 k,.int .i64 f,.int .i64 t,.int .i64 ep,.int .i64 ba,.int .i64 vo,.int .i64 po,.int .i64 va,.slice am ms.length cm,.slice al es.length cl] 134);have hE:Hid (eh k [f,t,ep,ba,vo,po,va] ms es=([],1)):=qM (qn fun h=>hno h.1);by_cases h1:k<1
 ·go_enter func166,ntmps166
  go_wp2_with fail;go_ret2;exact⟨hb0,pv hE rfl⟩
 by_cases h2:16<k
 ·go_enter func166,ntmps166
  go_wp2_with fail;go_ret2;exact⟨hb0,pv hE rfl⟩
 by_cases h3:5<ms.length
 ·go_enter func166,ntmps166
  go_wp2_with fail;go_ret2;exact⟨hb0,pv hE rfl⟩
 have h4:24<es.length:=by omega
 go_enter func166,ntmps166;go_wp2_with fail;go_ret2;exact⟨hb0,pv hE rfl⟩
theorem ji (l m:List UInt8)(h:l.length+m.length<=9223372036854775807):∀ w,(Op.stringOp .add (bs l) (bs m)).run prog w=.ok (.string (bs (l++m))) w:=by
 intro w;rw[run_string_add_sum w (bs l) (bs m) (by rw[iy,iy];omega),za]
theorem td (h:l.all db=true):np l=(bB l,true):=by unfold np;rw[if_pos h]
theorem Ca (h:l.all db=false):np l=([],false):=by unfold np;rw[h];rfl
theorem SJ (k f t ep ba vo po va:Int)(mem log:Value)(ms:List Int)(es:List aH)(w:World)(hmem:bJ w mem ms)(dy:eM w log es)
  (h1:1<=k) (h2:k<=16) (h3:ms.length<=5) (h4:es.length<=24):Calls prog 166 #[.agg #[.int .i64 k,.int .i64 f,.int .i64 t,.int .i64 ep,.int .i64 ba,.int .i64 vo,.int .i64 po,.int .i64 va,mem,log]] w fun e w'=>Below w.heap.size w w'/\e=.returned (.tuple #[.string (bs (eh k [f,t,ep,ba,vo,po,va] ms es).1),.int .i64 (eh k [f,t,ep,ba,vo,po,va] ms es).2]):=by
 have ru:=hmem;have Oj:=dy;obtain⟨am,cm,rfl, -⟩:=ru;obtain⟨al,cl,rfl, -⟩:=Oj;obtain⟨W,hW,hb0,hsz,q, -⟩:=fI w #[.int .i64 k,.int .i64 f,.int .i64 t,.int .i64 ep,.int .i64 ba,.int .i64 vo,.int .i64 po,.int .i64 va,.slice am ms.length cm,.slice al es.length cl] 134;have wQ:=dy.below hb0;have wS:=hmem.below hb0;have q0:W.cell? (w.heap.size,0)=some (.int .i64 k):=q 0;have q1:W.cell? (w.heap.size,1)=some (.int .i64 f):=q 1;have q2:W.cell? (w.heap.size,2)=some (.int .i64 t):=q 2;have q3:W.cell? (w.heap.size,3)=some (.int .i64 ep):=q 3;have q4:W.cell? (w.heap.size,4)=some (.int .i64 ba):=q 4;have q5:W.cell? (w.heap.size,5)=some (.int .i64 vo):=q 5;have q6:W.cell? (w.heap.size,6)=some (.int .i64 po):=q 6;have q7:W.cell? (w.heap.size,7)=some (.int .i64 va):=q 7;have q8:W.cell? (w.heap.size,8)=some (.slice am ms.length cm):=q 8;have q9:W.cell? (w.heap.size,9)=some (.slice al es.length cl):=q 9;have hsz':w.heap.size<W.heap.size:=by omega
 clear q hsz;go_enter func166,ntmps166;go_wp2_with fail;clear hW;refine (RC k f t ep ba vo po va _ _ es _ wQ h4).mono ?_
 rintro e w1 ⟨hb1,hd,lg,rfl,hhd,bR⟩;have ru:=wS.below hb1;go_wp2_with fail;refine (Cb hd _ _ hhd (by simp)).mono ?_
 rintro e w2 ⟨hb2,rfl⟩;go_wp2_with fail;refine (Cb _ _ _ (ru.below hb2) (by omega)).mono ?_
 rintro e w3 ⟨hb3,rfl⟩;have Oi:=(bR.below hb2).below hb3;go_wp2_with fail;refine (Cb _ _ _ Oi (by rw[kt];omega)).mono ?_
 rintro e w4 ⟨hb4,rfl⟩;have zV:Below W.heap.size W w4:=hb1.trans ((hb2.trans ((hb3.trans (hb4.mono hb3.size)).mono hb2.size)).mono hb1.size);have wN:Below w.heap.size w w4:=hb0.trans (zV.mono hb0.size);by_cases g1:(List.all [f,t,ep,ba,vo,po,va] db)=true
 ·by_cases g2:ms.all db=true
  ·by_cases g3:(bk es).all db=true
   ·rw[td g1,td g2,td g3]
    have r0:=cell_later zV q0;have r9:=cell_later zV q9;have t1:=kG [f,t,ep,ba,vo,po,va];have t2:=kG ms;have t3:=kG (bk es);have t4:=kt es;have t5:([f,t,ep,ba,vo,po,va]:List Int).length=7:=rfl;have t6:=eo k.toNat;have t7:=eo ms.length;have t8:=eo es.length;have a1:=ji (bp k.toNat) (bB [f,t,ep,ba,vo,po,va]) (by omega)
    have a2:=ji (bp k.toNat++bB [f,t,ep,ba,vo,po,va]) (bp ms.length) (by simp only [bG];omega)
    have a3:=ji (bp k.toNat++(bB [f,t,ep,ba,vo,po,va]++bp ms.length)) (bB ms) (by simp only [bG];omega)
    have a4:=ji (bp k.toNat++(bB [f,t,ep,ba,vo,po,va]++(bp ms.length++bB ms))) (bp es.length) (by simp only [bG];omega)
    have a5:=ji (bp k.toNat++(bB [f,t,ep,ba,vo,po,va]++(bp ms.length++(bB ms++bp es.length)))) (bB (bk es)) (by simp only [bG];omega)
    simp only [eH] at a1 a2 a3 a4 a5;clear t1 t2 t3 t4 t5 t6 t7 t8;clear q0 q1 q2 q3 q4 q5 q6 q7 q8 q9;go_wp2_with fail;go_region_held3 (fun w'=>w'.cell? (w.heap.size,0)=some (.int .i64 k)/\w'.cell? (w.heap.size,9)=some (.slice al es.length cl)/\Below w.heap.size w w')
     (first|exact⟨r0,r9,wN.drew⟩|(go_split_ands;exact⟨cell_later hbn (by assumption),cell_later hbn (by assumption),Below.trans (by assumption) (hbn.mono (Below.size (by assumption)))⟩))
     ((go_at_call 169;refine (lk _ _ ?_).mono ?_;(omega);rintro e wn ⟨rfl,hbn⟩))
    have hBl:=sr k [f,t,ep,ba,vo,po,va] ms es;have hyes:Hid (eh k [f,t,ep,ba,vo,po,va] ms es=(bX k [f,t,ep,ba,vo,po,va] ms es++h_ (bX k [f,t,ep,ba,vo,po,va] ms es),0)):=qN ((qp _ _ _ _).2 ⟨⟨h1,h2,h3,h4⟩,g1,g2,g3⟩);have hBd:bp k.toNat++(bB [f,t,ep,ba,vo,po,va]++(bp ms.length++(bB ms++(bp es.length++bB (bk es)))))=bX k [f,t,ep,ba,vo,po,va] ms es:=rfl;rw[hBd];clear hBd a1 a2 a3 a4 a5;generalize bX k [f,t,ep,ba,vo,po,va] ms es=B at *;have VK:B.length<=1000:=by rw[hBl];simp only [eu,fG];omega
    clear hBl;have hcl:=wk B;have b1:=ji B (bp (crc B)) (by rw[eo];omega)
    have b2:=ji (B++bp (crc B)) (bp (crc B / 256)) (by simp only [bG,eo];omega)
    have b3:=ji (B++(bp (crc B)++bp (crc B / 256))) (bp (crc B / 65536)) (by simp only [bG,eo];omega)
    have b4:=ji (B++(bp (crc B)++(bp (crc B / 256)++bp (crc B / 65536)))) (bp (crc B / 16777216)) (by simp only [bG,eo];omega)
    simp only [eH] at b1 b2 b3 b4;go_wp2_with fail;refine (yN _ _ (by rw[iy];unfold maxLen;omega)).mono ?_
    rintro e w5 ⟨rfl,rfl⟩;rw[gS];go_wp2_with fail;refine (lk _ _ (by omega)).mono ?_
    rintro e w6 ⟨rfl,hb6⟩;rw[show ((crc B:Nat):Int).toNat=crc B by omega]
    go_wp2_with fail;refine (lk _ _ (by omega)).mono ?_
    rintro e w7 ⟨rfl,i7⟩;rw[show (((crc B:Nat):Int) / 256).toNat=crc B / 256 by omega]
    go_wp2_with fail;refine (lk _ _ (by omega)).mono ?_
    rintro e w8 ⟨rfl,mn⟩;rw[show (((crc B:Nat):Int) / 65536).toNat=crc B / 65536 by omega]
    go_wp2_with fail;refine (lk _ _ (by omega)).mono ?_
    rintro e w9 ⟨rfl,gT⟩;rw[show (((crc B:Nat):Int) / 16777216).toNat=crc B / 16777216 by omega]
    go_wp2_with fail;go_ret2;have hH := ‹w5.cell? _=_/\w5.cell? _=_/\Below w.heap.size w w5›;refine⟨hH.2.2.trans ((hb6.trans ((i7.trans ((mn.trans (gT.mono mn.size)).mono i7.size)).mono hb6.size)).mono hH.2.2.size), ?_⟩
    rw[hyes.out];rfl
   ·have g3':(bk es).all db=false:=by simpa using g3
    rw[td g1,td g2,Ca g3'];have hE:Hid (eh k [f,t,ep,ba,vo,po,va] ms es=([],1)):=qM (qn fun h=>g3 h.2.2.2);clear q0 q1 q2 q3 q4 q5 q6 q7 q8 q9;go_wp2_with fail;go_ret2;exact⟨wN,pv hE rfl⟩
  ·have g2':ms.all db=false:=by simpa using g2
   rw[td g1,Ca g2'];have hE:Hid (eh k [f,t,ep,ba,vo,po,va] ms es=([],1)):=qM (qn fun h=>g2 h.2.2.1);clear q0 q1 q2 q3 q4 q5 q6 q7 q8 q9;go_wp2_with fail;go_ret2;exact⟨wN,pv hE rfl⟩
 ·have g1':(List.all [f,t,ep,ba,vo,po,va] db)=false:=by simpa using g1
  rw[Ca g1'];have hE:Hid (eh k [f,t,ep,ba,vo,po,va] ms es=([],1)):=qM (qn fun h=>g1 h.2.1);clear q0 q1 q2 q3 q4 q5 q6 q7 q8 q9;go_wp2_with fail;go_ret2;exact⟨wN,pv hE rfl⟩
theorem GD (k f t ep ba vo po va:Int)(mem log:Value)(ms:List Int)(es:List aH)(w:World)(hmem:bJ w mem ms)(dy:eM w log es):Calls prog 166 #[.agg #[.int .i64 k,.int .i64 f,.int .i64 t,.int .i64 ep,.int .i64 ba,.int .i64 vo,.int .i64 po,.int .i64 va,mem,log]] w fun e w'=>Below w.heap.size w w'/\e=.returned (.tuple #[.string (bs (eh k [f,t,ep,ba,vo,po,va] ms es).1),.int .i64 (eh k [f,t,ep,ba,vo,po,va] ms es).2]):=by
 by_cases h:1<=k/\k<=16/\ms.length<=5/\es.length<=24
 ·exact SJ k f t ep ba vo po va mem log ms es w hmem dy h.1 h.2.1 h.2.2.1 h.2.2.2
 ·exact SK k f t ep ba vo po va mem log ms es w hmem dy h
theorem Dk (s:ByteArray)(k:Nat)(h:k<s.size):bn s.data.toList k=s[k].toNat:=by
 unfold bn;have:s.data.toList.getD k 0=s[k]:=by
  rw[List.getD,bU (by simpa using h)]
  rfl
 rw[this]
theorem KP (t:List UInt8)(k:Nat)(h:t.length<=k):bn t k=0:=by
 unfold bn;rw[List.getD,List.getElem?_eq_none h]
 rfl
theorem tF (s:ByteArray)(i:Int)(w:World)(_hs:s.size<=maxLen)(h0:0<=i)(h1:i<=1000000) :
  Calls prog 170 #[.string s,.int .i64 i] w fun e w'=>e=.returned (.int .i64 (bn s.data.toList i.toNat:Nat))/\w'=w:=by
 unfold maxLen at _hs;obtain⟨k,rfl⟩:=Int.eq_ofNat_of_zero_le h0;rw[Int.toNat_natCast];by_cases h:k<s.size
 ·have hb:=Dk s k h
  have H:Hid (bn s.data.toList k=s[k].toNat):=hb;have hb256:=s[k].toNat_lt;clear hb;go_enter func170,ntmps170;go_wp2_with fail;go_ret;exact⟨ni (by rw[H.out]),rfl⟩
 ·have H:Hid (bn s.data.toList k=0):=KP _ _ (by simpa using h)
  go_enter func170,ntmps170;go_wp2_with fail;go_ret;exact⟨ni (by rw[H.out];rfl),rfl⟩
theorem mz (s:ByteArray)(i:Int)(w:World)(hs:s.size<=maxLen)(h0:0<=i)(h1:i<=100000) :
  Calls prog 171 #[.string s,.int .i64 i] w fun e w'=>e=.returned (.int .i64 (bo s.data.toList i.toNat))/\w'=w:=by
 go_enter func171,ntmps171;go_wp2_with fail;refine (tF s i _ hs h0 (by omega)).mono ?_
 rintro e w1 ⟨rfl,rfl⟩;go_wp2_with fail;refine (tF s _ _ hs (by omega) (by omega)).mono ?_
 rintro e w1 ⟨rfl,rfl⟩;have b1:=lC s.data.toList i.toNat;have b2:=lC s.data.toList (i+1).toNat;go_wp2_with fail;go_ret;refine⟨ni ?_,rfl⟩
 unfold bo;rw[show (i+1).toNat=i.toNat+1 by omega]
theorem zc (L:List UInt8)(n:Nat):(bs L).extract 0 n=bs (L.take n):=by
 apply ByteArray.ext;apply Array.toList_inj.1;simp[bs]
theorem zb (L:List UInt8)(n:Nat):(bs L).extract n L.length=bs (L.drop n):=by
 apply ByteArray.ext;apply Array.toList_inj.1;simp[bs];exact jF (by simp)
theorem Hr (l:List UInt8):(bs l).toList=l:=by
 rw[ByteArray.toList_eq,gS]
theorem tO (l m:List UInt8):((bs l).toList == (bs m).toList)=decide (l=m):=by
 rw[Hr,Hr];by_cases h:l=m<;>simp[h]
theorem wg {w W w':World}{cs:Array Value}(hb:Below W.heap.size W w')(hs:W.heap.size=w.heap.size+1)(q:∀ j,W.cell? ⟨w.heap.size,j,none⟩=cs[j]?)(fz:∀ j,W.frozen? ⟨w.heap.size,j,none⟩=false) :
  (∀ j,w'.cell? ⟨w.heap.size,j,none⟩=cs[j]?)/\(∀ j,w'.frozen? ⟨w.heap.size,j,none⟩=false) :=
 ⟨fun j=>(hb.cell (p:=⟨w.heap.size,j,none⟩) (by show w.heap.size<_;omega)).trans (q j),fun j=>(hb.frozen (p:=⟨w.heap.size,j,none⟩) (by show w.heap.size<_;omega)).trans (fz j)⟩
theorem SC (L:List UInt8)(w:World)(h:L.length<21) :
  Calls prog 139 #[.string (bs L)] w fun e w'=>Below w.heap.size w w'/\e=.returned (.tuple #[.agg #[(),(),(),(),(),(),(),(),true,true],.int .i64 1]):=by
 have hs:=iy L;go_enter func139,ntmps139;go_wp2_with fail;exact bodyPost_ret (v:=.tuple #[.agg #[(),(),(),(),(),(),(),(),true,true],.int .i64 1]) (by simp[results,results139,go_sem]) rfl ⟨(Below.refl _ _).alloc (aG _) _,rfl⟩
theorem SE (L T:List UInt8)(w:World)(h:21<=L.length)(hm:L.length<=140737488355328)(hT:T=L.take (L.length-4))(hno:T++h_ T≠L) :
  Calls prog 139 #[.string (bs L)] w fun e w'=>Below w.heap.size w w'/\e=.returned (.tuple #[.agg #[(),(),(),(),(),(),(),(),true,true],.int .i64 2]):=by
 have hs:=iy L;have hx:(bs L).extract 0 (L.length-4)=bs T:=by rw[zc,hT]
 have qZ:T.length<=140737488355328:=by rw[hT,dA];omega
 clear hT;obtain⟨W,hW,hb0,hsz,q,fz⟩:=fI w #[(),(),(),(),(),(),(),(),true,true] 134;have hcl:=wk T;have b1:=ji T (bp (crc T)) (by rw[eo];omega)
 have b2:=ji (T++bp (crc T)) (bp (crc T / 256)) (by simp only [bG,eo];omega)
 have b3:=ji (T++(bp (crc T)++bp (crc T / 256))) (bp (crc T / 65536)) (by simp only [bG,eo];omega)
 have b4:=ji (T++(bp (crc T)++(bp (crc T / 256)++bp (crc T / 65536)))) (bp (crc T / 16777216)) (by simp only [bG,eo];omega)
 simp only [eH] at b1 b2 b3 b4;go_enter func139,ntmps139;go_wp2_with fail;refine (yN _ _ (by rw[iy];unfold maxLen;omega)).mono ?_
 rintro e w5 ⟨rfl,rfl⟩;clear hW;rw[gS];go_wp2_with fail;refine (lk _ _ (by omega)).mono ?_
 rintro e w6 ⟨rfl,hb6⟩;rw[show ((crc T:Nat):Int).toNat=crc T by omega]
 go_wp2_with fail;refine (lk _ _ (by omega)).mono ?_
 rintro e w7 ⟨rfl,i7⟩;rw[show (((crc T:Nat):Int) / 256).toNat=crc T / 256 by omega]
 go_wp2_with fail;refine (lk _ _ (by omega)).mono ?_
 rintro e w8 ⟨rfl,mn⟩;rw[show (((crc T:Nat):Int) / 65536).toNat=crc T / 65536 by omega]
 go_wp2_with fail;refine (lk _ _ (by omega)).mono ?_
 rintro e w9 ⟨rfl,gT⟩;rw[show (((crc T:Nat):Int) / 16777216).toNat=crc T / 16777216 by omega]
 have sA:=hb6.trans ((i7.trans ((mn.trans (gT.mono mn.size)).mono i7.size)).mono hb6.size);obtain⟨q',pS⟩:=wg sA hsz q fz;have hbw:=hb0.trans (sA.mono hb0.size);have hne:((bs (T++(bp (crc T)++(bp (crc T / 256)++(bp (crc T / 65536)++bp (crc T / 16777216)))))).toList == (bs L).toList)=false:=by
  rw[tO];exact ee hno
 clear b1 b2 b3 q fz hsz;go_wp2_with fail;refine bodyPost_ret (v:=.tuple #[.agg #[(),(),(),(),(),(),(),(),true,true],.int .i64 2]) (by simp[results,results139,go_sem,q']) rfl ⟨?_,rfl⟩
 iterate 10 refine Below.setCell ?_ (by exact aG _) _
 exact hbw
def CK (l:List Int):Prop:=∀ x∈l, -9223372036854775808<=x/\x<=9223372036854775807
theorem CK.getD (h:CK l)(i:Nat) : -9223372036854775808<=l.getD i 0/\l.getD i 0<=9223372036854775807:=by
 by_cases hi:i<l.length
 ·exact h _ (by simp[List.getD,List.getElem?_eq_getElem hi])
 ·rw[List.getD,List.getElem?_eq_none (by omega)];simp
end Go.Proofs.YtgieeeeeiggoeaaGreat
