import GoSem.Core.World
namespace Go.Proofs.YtgieeeeeiggoeaaGreat
variable {a i k x y:Int}{hd l mem:List Int}{L T t:List UInt8}
instance:Coe Int Value:=⟨.int .i64⟩
instance(b j:Nat):CoeDep (Nat×Nat) (b,j) Addr:=⟨⟨b,j,none⟩⟩
instance:Coe Nat Addr:=⟨fun b=>⟨b,0,none⟩⟩
instance:Coe Nat Value:=⟨fun b=>.pointer (some ⟨b,0,none⟩)⟩
instance:Coe Unit Value:=⟨fun _=>.int .i64 0⟩
instance:Coe Bool Value:=⟨fun _=>.slice none 0 0⟩
theorem jt:type_of% @decide_eq_true_eq:=@decide_eq_true_eq
theorem eR:type_of% @decide_eq_true:=@decide_eq_true
theorem ee:type_of% @decide_eq_false:=@decide_eq_false
theorem aP:type_of% @And.intro:=@And.intro
theorem js:type_of% @List.cons_append:=@List.cons_append
theorem gK:type_of% @List.mem_cons:=@List.mem_cons
theorem lP:type_of% @List.set_append_right:=@List.set_append_right
theorem jJ:type_of% @List.push_toArray:=@List.push_toArray
theorem je:type_of% @List.take_length:=@List.take_length
theorem fh:type_of% @Nat.zero_add:=@Nat.zero_add
theorem jr:type_of% @List.size_toArray:=@List.size_toArray
theorem iQ:type_of% @List.length_drop:=@List.length_drop
theorem iP:type_of% @List.not_mem_nil:=@List.not_mem_nil
theorem j5:type_of% @Nat.lt_of_lt_of_le:=@Nat.lt_of_lt_of_le
theorem jI:type_of% @List.append_toArray:=@List.append_toArray
theorem jH:type_of% @Array.replicate_zero:=@Array.replicate_zero
theorem jG:type_of% @Array.replicate_succ:=@Array.replicate_succ
theorem gw:type_of% @List.map_append:=@List.map_append
theorem nU:type_of% @List.take_succ_eq_append_getElem:=@List.take_succ_eq_append_getElem
theorem gv:type_of% @Int.le_refl:=@Int.le_refl
theorem fH:type_of% @List.nil_append:=@List.nil_append
theorem fG:type_of% @List.length_nil:=@List.length_nil
theorem fF:type_of% @List.length_map:=@List.length_map
theorem ir:type_of% @List.set_cons_succ:=@List.set_cons_succ
theorem jF:type_of% @List.take_of_length_le:=@List.take_of_length_le
theorem fE:type_of% @List.mem_append:=@List.mem_append
theorem kH:type_of% @List.getElem?_append_right:=@List.getElem?_append_right
theorem fT:type_of% @List.set_cons_zero:=@List.set_cons_zero
theorem fS:type_of% @List.mem_cons_self:=@List.mem_cons_self
theorem fe:type_of% @List.getElem?_map:=@List.getElem?_map
theorem eu:type_of% @List.length_cons:=@List.length_cons
theorem eH:type_of% @List.append_assoc:=@List.append_assoc
theorem iO:type_of% @List.setIfInBounds_toArray:=@List.setIfInBounds_toArray
theorem dA:type_of% @List.length_take:=@List.length_take
theorem dU:type_of% @List.mem_of_getElem?:=@List.mem_of_getElem?
theorem bP:type_of% @Nat.le_trans:=@Nat.le_trans
theorem ew:type_of% @List.getD_eq_getElem?_getD:=@List.getD_eq_getElem?_getD
theorem dg:type_of% @List.mem_singleton:=@List.mem_singleton
theorem dL:type_of% @Array.getElem?_eq_some_iff:=@Array.getElem?_eq_some_iff
theorem dI:type_of% @List.getElem?_eq_some_iff:=@List.getElem?_eq_some_iff
theorem bl:type_of% @Nat.zero_le:=@Nat.zero_le
theorem bG:type_of% @List.length_append:=@List.length_append
theorem bU:type_of% @List.getElem?_eq_getElem:=@List.getElem?_eq_getElem
theorem aG:type_of% @Nat.le_refl:=@Nat.le_refl
theorem aQ {α:Type}{a:Array α}{i:Nat}{x:α}(h:a[i]?=some x):i<a.size:=(dL.1 h).1
def oZ (c:Nat):Nat:=if c % 2=1 then (c / 2) ^^^ 3988292384 else c / 2
def pP : Nat->Nat->Nat
 | 0,c=>c
 | n+1,c=>oZ (pP n c)
def sw (c b:Nat):Nat:=pP 8 (c ^^^ b)
def tL (c:Nat)(l:List UInt8):Nat:=l.foldl (fun c b=>sw c b.toNat) c
def iX (l:List UInt8):Nat:=tL 4294967295 l
def crc (l:List UInt8):Nat:=4294967295-iX l
theorem LL (c:Nat)(h:c<4294967296):oZ c<4294967296:=by
 unfold oZ;split
 ·exact Nat.xor_lt_two_pow (n:=32) (by omega) (by omega)
 ·omega
theorem zi (n c:Nat)(h:c<4294967296):pP n c<4294967296:=by
 induction n with
 | zero=>exact h
 | succ n ih=>exact LL _ ih
theorem LM (c b:Nat)(h:c<4294967296)(hb:b<256):sw c b<4294967296 :=
 zi 8 _ (Nat.xor_lt_two_pow (n:=32) h (by omega))
theorem LN (l:List UInt8)(c:Nat)(h:c<4294967296):tL c l<4294967296:=by
 induction l generalizing c with
 | nil=>exact h
 | cons b l ih=>exact ih _ (LM c _ h b.toNat_lt)
theorem DC (l:List UInt8):iX l<4294967296:=LN l _ (by omega)
theorem LO (c:Nat)(l:List UInt8)(b:UInt8):tL c (l++[b])=sw (tL c l) b.toNat:=by
 unfold tL;rw[List.foldl_append];rfl
theorem DD (l:List UInt8)(b:UInt8):iX (l++[b])=sw (iX l) b.toNat:=LO _ _ _
theorem Ho (s:ByteArray)(k:Nat)(h:k<s.size):s.data.toList.take (k+1)=s.data.toList.take k++[s[k]]:=by
 rw[nU (by simpa using h)];rfl
def jZ (n:Nat):UInt8:=UInt8.ofNat n
def h_ (l:List UInt8):List UInt8:=[jZ (crc l),jZ (crc l / 256),jZ (crc l / 65536),jZ (crc l / 16777216)]
def bs (l:List UInt8):ByteArray:=⟨l.toArray⟩
theorem iy (l:List UInt8):(bs l).size=l.length:=rfl
theorem gS (l:List UInt8):(bs l).data.toList=l:=rfl
theorem za (l m:List UInt8):bs l++bs m=bs (l++m):=by
 apply ByteArray.ext;apply Array.toList_inj.1;simp[bs]
def gX (n:Int):List UInt8:=[jZ ((n+1).toNat / 256),jZ (n+1).toNat]
def db (n:Int):Bool:=decide (-1<=n) && decide (n<=65534)
def bB (l:List Int):List UInt8:=l.flatMap gX
theorem rJ (n:Int):db n=true ↔ -1<=n/\n<=65534:=by simp[db]
theorem A5 (n:Int):(gX n).length=2:=rfl
theorem kG (l:List Int):(bB l).length=2*l.length:=by
 induction l with
 | nil=>rfl
 | cons a l ih =>
  rw[show bB (a :: l)=gX a++bB l from rfl,bG,ih,A5];simp;omega
theorem uR (l m:List Int):bB (l++m)=bB l++bB m:=by
 simp[bB]
theorem uS (n:Int):bB [n]=gX n:=by simp[bB]
theorem mD (l:List Int)(k:Nat)(h:k<l.length):l.take (k+1)=l.take k++[l.getD k 0]:=by
 rw[nU h];simp[List.getD,List.getElem?_eq_getElem h]
structure aH where
 client:Int
 seq:Int
 kind:Int
 key:Int
 value:Int
 deriving DecidableEq
def aH.nums (e:aH):List Int:=[e.client,e.seq,e.kind,e.key,e.value]
def aH.zero : aH:=⟨0,0,0,0,0⟩
def bk (es:List aH):List Int:=es.flatMap aH.nums
theorem kt (es:List aH):(bk es).length=5*es.length:=by
 induction es with
 | nil=>rfl
 | cons a l ih =>
  rw[show bk (a :: l)=a.nums++bk l from rfl,bG,ih];simp[aH.nums];omega
theorem ou (l m:List aH):bk (l++m)=bk l++bk m:=by simp[bk]
theorem qP (e:aH):bk [e]=e.nums:=by simp[bk]
theorem xN (l:List aH)(k:Nat)(h:k<l.length):l.take (k+1)=l.take k++[l.getD k aH.zero]:=by
 rw[nU h];simp[List.getD,List.getElem?_eq_getElem h]
def jD (k:Int)(hd mem:List Int)(es:List aH):Bool :=
 decide (1<=k) && decide (k<=16) && decide (mem.length<=5) && decide (es.length<=24) && hd.all db && mem.all db && (bk es).all db
theorem qp (k:Int)(hd mem:List Int)(es:List aH):jD k hd mem es=true ↔
  (1<=k/\k<=16/\mem.length<=5/\es.length<=24)/\hd.all db=true/\mem.all db=true/\(bk es).all db=true:=by
 unfold jD;simp only [Bool.and_eq_true,jt];constructor
 ·rintro⟨⟨⟨⟨⟨⟨a,b⟩,c⟩,d⟩,e⟩,f⟩,g⟩;exact⟨⟨a,b,c,d⟩,e,f,g⟩
 ·rintro⟨⟨a,b,c,d⟩,e,f,g⟩;exact⟨⟨⟨⟨⟨⟨a,b⟩,c⟩,d⟩,e⟩,f⟩,g⟩
theorem qn {es:List aH}(h:¬ ((1<=k/\k<=16/\mem.length<=5/\es.length<=24)/\hd.all db=true/\mem.all db=true/\(bk es).all db=true)) :
  jD k hd mem es=false:=by
 rw[Bool.eq_false_iff];exact fun h'=>h ((qp _ _ _ _).1 h')
def bp (n:Nat):List UInt8:=[jZ n]
theorem eo (n:Nat):(bp n).length=1:=rfl
def bX (k:Int)(hd mem:List Int)(es:List aH):List UInt8 :=
 bp k.toNat++(bB hd++(bp mem.length++(bB mem++(bp es.length++bB (bk es)))))
def frame (k:Int)(hd mem:List Int)(es:List aH):List UInt8:=bX k hd mem es++h_ (bX k hd mem es)
def eh (k:Int)(hd mem:List Int)(es:List aH):List UInt8 × Int:=if jD k hd mem es then (frame k hd mem es,0) else ([],1)
theorem qM {es:List aH}(h:jD k hd mem es=false):eh k hd mem es=([],1):=by
 unfold eh;rw[h];rfl
theorem qN {es:List aH}(h:jD k hd mem es=true):eh k hd mem es=(frame k hd mem es,0):=by
 unfold eh;rw[if_pos h]
theorem sr (k:Int)(hd mem:List Int)(es:List aH):(bX k hd mem es).length=3+2*hd.length+2*mem.length+10*es.length:=by
 unfold bX;simp only [bG,kG,kt,eo];omega
def bn (t:List UInt8)(i:Nat):Nat:=(t.getD i 0).toNat
theorem lC (t:List UInt8)(i:Nat):bn t i<256:=UInt8.toNat_lt _
def bo (t:List UInt8)(i:Nat):Int:=256*(bn t i:Int)+bn t (i+1)-1
theorem Rz (t:List UInt8)(i:Nat) : -1<=bo t i/\bo t i<=65534:=by
 have h1:=lC t i;have h2:=lC t (i+1);unfold bo;omega
def pa (t:List UInt8)(p:Nat):aH:=⟨bo t p,bo t (p+2),bo t (p+4),bo t (p+6),bo t (p+8)⟩
def eD (t:List UInt8)(p n:Nat):List Int:=(List.range n).map fun i=>bo t (p+2*i)
def kR (t:List UInt8)(p n:Nat):List aH:=(List.range n).map fun i=>pa t (p+10*i)
theorem uT (t:List UInt8)(p n:Nat):(eD t p n).length=n:=by simp[eD]
theorem zm (t:List UInt8)(p n:Nat):(kR t p n).length=n:=by simp[kR]
theorem qt (t:List UInt8)(p n:Nat):eD t p (n+1)=eD t p n++[bo t (p+2*n)]:=by
 simp[eD,List.range_succ]
theorem DN (t:List UInt8)(p n:Nat):kR t p (n+1)=kR t p n++[pa t (p+10*n)]:=by
 simp[kR,List.range_succ]
def fa (t:List UInt8):Int:=bn t 0
def jb (t:List UInt8):List Int:=[bo t 1,bo t 3,bo t 5,bo t 7,bo t 9,bo t 11,bo t 13]
def gu (t:List UInt8):List Int:=eD t 16 (bn t 15)
def fD (t:List UInt8):List aH:=kR t (17+2*bn t 15) (bn t (16+2*bn t 15))
def ld (t:List UInt8):Nat × Nat × Bool :=
 if bn t 15<=5/\16+2*bn t 15<t.length then
  (bn t 15,bn t (16+2*bn t 15),decide (bn t (16+2*bn t 15)<=24) && decide (t.length=17+2*bn t 15+10*bn t (16+2*bn t 15)))
 else (0,0,false)
theorem FR (h:¬ (bn t 15<=5/\16+2*bn t 15<t.length)):ld t=(0,0,false):=by
 unfold ld;rw[if_neg h]
theorem AW (h:bn t 15<=5/\16+2*bn t 15<t.length):ld t =
  (bn t 15,bn t (16+2*bn t 15),decide (bn t (16+2*bn t 15)<=24) && decide (t.length=17+2*bn t 15+10*bn t (16+2*bn t 15))):=by
 unfold ld;rw[if_pos h]
theorem wk (l:List UInt8):crc l<4294967296:=by unfold crc;omega
def j7 (k:Int):Bool:=decide (1<=k) && decide (k<=16)
def kQ (T:List UInt8):Bool:=j7 (bn T 0:Nat) && (ld T).2.2
theorem DJ (h:kQ T=true):j7 (bn T 0:Nat)=true/\bn T 15<=5/\bn T (16+2*bn T 15)<=24/\T.length=17+2*bn T 15+10*bn T (16+2*bn T 15) /\
  ld T=(bn T 15,bn T (16+2*bn T 15),true):=by
 unfold kQ at h;rw[Bool.and_eq_true] at h;by_cases hc:bn T 15<=5/\16+2*bn T 15<T.length
 ·have hm:=AW hc
  have h2:=h.2;rw[hm] at h2;simp only [Bool.and_eq_true,jt] at h2;refine⟨h.1,hc.1,h2.1,h2.2, ?_⟩
  rw[hm];simp[h2.1, <- h2.2]
 ·have h2:=h.2
  rw[FR hc] at h2;cases h2
theorem LU (h:j7 (bn T 0:Nat)=true)(h5:bn T 15<=5)(mi:bn T (16+2*bn T 15)<=24)(hl:T.length=17+2*bn T 15+10*bn T (16+2*bn T 15)):kQ T=true:=by
 unfold kQ;rw[h,Bool.true_and,AW ⟨h5,by omega⟩]
 simp[mi, <- hl]
theorem LS (h:¬ kQ T=true)(hm:(ld T).2.2=true):j7 (bn T 0:Nat)=false:=by
 unfold kQ at h;rw[hm,Bool.and_true] at h
 simpa using h
theorem Qk (b:UInt8):jZ b.toNat=b:=by
 unfold jZ;exact UInt8.ofNat_toNat
theorem uV (T:List UInt8)(p:Nat)(h:p<T.length):bp (bn T p)=(T.drop p).take 1:=by
 unfold bp bn;rw[Qk,List.getD,bU h,List.drop_eq_getElem_cons h];rfl
theorem u9 (T:List UInt8)(p a:Nat):(T.drop p).take a++T.drop (p+a)=T.drop p:=by
 rw[<- List.drop_drop,List.take_append_drop]
theorem RB (T:List UInt8)(p:Nat)(h:p+1<T.length):gX (bo T p)=(T.drop p).take 2:=by
 have h1:=lC T p;have h2:=lC T (p+1);have e:gX (bo T p)=bp (bn T p)++bp (bn T (p+1)):=by
  unfold gX bp bo;have a1:(256*(bn T p:Int)+bn T (p+1)-1+1).toNat=256*bn T p+bn T (p+1):=by omega
  rw[a1,show (256*bn T p+bn T (p+1)) / 256=bn T p by omega]
  have a2:jZ (256*bn T p+bn T (p+1))=jZ (bn T (p+1)):=by
   unfold jZ;apply UInt8.toNat_inj.1;simp only [UInt8.toNat_ofNat'];omega
  rw[a2];rfl
 rw[e,uV T p (by omega),uV T (p+1) h, <- List.drop_drop]
 have:(T.drop p).take 2=(T.drop p).take (1+1):=rfl;rw[this,List.take_add]
theorem A_ (T:List UInt8)(p n:Nat)(h:p+2*n<=T.length):bB (eD T p n)=(T.drop p).take (2*n):=by
 induction n with
 | zero=>simp[eD,bB]
 | succ n ih =>
  rw[qt,uR,uS,ih (by omega),RB T _ (by omega),show 2*(n+1)=2*n+2 by omega,List.take_add,List.drop_drop]
theorem wo (T:List UInt8)(p n:Nat):bk (kR T p n)=eD T p (n*5):=by
 induction n with
 | zero=>rfl
 | succ n ih =>
  rw[DN,ou,qP,ih,show (n+1)*5=n*5+1+1+1+1+1 by omega,qt,qt,qt,qt,qt]
  simp only [eH,pa,aH.nums];rw[show p+2*(n*5)=p+10*n by omega,show p+2*(n*5+1)=p+10*n+2 by omega,show p+2*(n*5+1+1)=p+10*n+4 by omega,show p+2*(n*5+1+1+1)=p+10*n+6 by omega,show p+2*(n*5+1+1+1+1)=p+10*n+8 by omega]
  rfl
theorem xB (T:List UInt8):(gu T).length=bn T 15:=uT _ _ _
theorem xA (T:List UInt8):(fD T).length=bn T (16+2*bn T 15):=zm _ _ _
theorem Bb (T:List UInt8)(p n:Nat):(eD T p n).all db=true:=by
 rw[List.all_eq_true];intro x hx;simp only [eD,List.mem_map] at hx;obtain⟨i,_,rfl⟩:=hx;exact (rJ _).2 (Rz T _)
theorem KM (hl:T.length=17+2*bn T 15+10*bn T (16+2*bn T 15)):bX (fa T) (jb T) (gu T) (fD T)=T:=by
 unfold bX;rw[xB,xA];have e0:(fa T).toNat=bn T 0:=by unfold fa;omega
 have e1:bB (bk (fD T))=T.drop (17+2*bn T 15):=by
  unfold fD;rw[wo,A_ T _ _ (by omega)]
  exact jF (by rw[iQ];omega)
 have e2:bB (gu T)=(T.drop 16).take (2*bn T 15):=A_ T _ _ (by omega)
 have e3:bB (jb T)=(T.drop 1).take 14:=A_ T 1 7 (by omega)
 rw[e0,e1,e2,e3,uV T 0 (by omega),uV T 15 (by omega),uV T (16+2*bn T 15) (by omega)]
 rw[show 17+2*bn T 15=16+2*bn T 15+1 by omega,u9 T (16+2*bn T 15) 1,u9 T 16 (2*bn T 15),u9 T 15 1,u9 T 1 14,u9 T 0 1,List.drop_zero]
theorem rX (l:List UInt8):(h_ l).length=4:=rfl
theorem DI (T L:List UInt8)(hL:T++h_ T=L):kQ T=true↔eh (fa T) (jb T) (gu T) (fD T)=(L,0):=by
 constructor
 ·intro h
  obtain⟨hk,h5,mi,hl,_⟩:=DJ h;have hb:=KM hl;have hok:jD (fa T) (jb T) (gu T) (fD T)=true:=by
   rw[qp];unfold j7 at hk;simp only [Bool.and_eq_true,jt] at hk;refine⟨⟨hk.1,hk.2,by rw[xB];exact h5,by rw[xA];exact mi⟩,Bb T 1 7,Bb T _ _, ?_⟩
   unfold fD;rw[wo];exact Bb T _ _
  rw[qN hok];unfold frame;rw[hb,hL]
 ·intro h
  by_cases hok:jD (fa T) (jb T) (gu T) (fD T)=true
  ·rw[qN hok] at h
   have hf:frame (fa T) (jb T) (gu T) (fD T)=L:=congrArg Prod.fst h;have hlen:(frame (fa T) (jb T) (gu T) (fD T)).length=(T++h_ T).length:=by rw[hf,hL]
   unfold frame at hlen;rw[bG,bG,rX,rX,sr,xB,xA] at hlen;have h7:(jb T).length=7:=rfl;rw[h7] at hlen;obtain⟨⟨k1,k2,k3,k4⟩,_⟩:=(qp _ _ _ _).1 hok;rw[xB] at k3;rw[xA] at k4;refine LU ?_ k3 k4 (by omega)
   unfold j7;have e:fa T=(bn T 0:Nat):=rfl;rw[e] at k1 k2;simp only [Bool.and_eq_true,jt];exact⟨k1,k2⟩
  ·rw[qM (by simpa using hok)] at h
   have h2:(1:Int)=0:=congrArg Prod.snd h;exact absurd h2 (by decide)
theorem T7 (L T:List UInt8)(h:4<=L.length)(hT:T=L.take (L.length-4)):T++h_ T=L↔L.drop (L.length-4)=h_ T:=by
 subst hT;constructor
 ·intro e
  have:=congrArg (List.drop (L.length-4)) e;rw[List.drop_append_of_le_length (by rw[dA];omega),List.drop_of_length_le (by rw[dA];omega),fH] at this
  exact this.symm
 ·intro e
  rw[<- e,List.take_append_drop]
structure kj where
 k:Int
 f:Int
 t:Int
 ep:Int
 ba:Int
 vo:Int
 po:Int
 va:Int
 ms:List Int
 es:List aH
 err:Int
def kj.no (e:Int):kj:=⟨0,0,0,0,0,0,0,0,[],[],e⟩
def kj.yes (T:List UInt8):kj:=⟨fa T,bo T 1,bo T 3,bo T 5,bo T 7,bo T 9,bo T 11,bo T 13,gu T,fD T,0⟩
def cH (L:List UInt8):kj :=
 if L.length<21 then kj.no 1
 else if L.drop (L.length-4)≠h_ (L.take (L.length-4)) then kj.no 2
 else if kQ (L.take (L.length-4)) then kj.yes (L.take (L.length-4))
 else kj.no 1
theorem DF (h:L.length<21):cH L=kj.no 1:=by unfold cH;rw[if_pos h]
theorem DG (h:¬ L.length<21)(h2:L.drop (L.length-4)≠h_ (L.take (L.length-4))):cH L=kj.no 2:=by unfold cH;rw[if_neg h,if_pos h2]
theorem DH (h:¬ L.length<21)(h2:¬ L.drop (L.length-4)≠h_ (L.take (L.length-4)))(h3:¬ kQ (L.take (L.length-4))=true):cH L=kj.no 1:=by unfold cH;rw[if_neg h,if_neg h2,if_neg h3]
theorem zl (h:¬ L.length<21)(h2:¬ L.drop (L.length-4)≠h_ (L.take (L.length-4)))(h3:kQ (L.take (L.length-4))=true):cH L=kj.yes (L.take (L.length-4)):=by unfold cH;rw[if_neg h,if_neg h2,if_pos h3]
theorem tR (a b:List UInt8)(i:Nat)(h:i<a.length):bn (a++b) i=bn a i:=by
 unfold bn;rw[List.getD,List.getElem?_append_left h,List.getD]
theorem wB (a b:List UInt8)(i:Nat):bn (a++b) (a.length+i)=bn b i:=by
 unfold bn;rw[List.getD,kH (by omega),List.getD,Nat.add_sub_cancel_left]
theorem zd (n:Nat)(h:n<256):bn (bp n) 0=n:=by
 unfold bn bp jZ;simp;omega
theorem Rx (n:Int)(h : -1<=n/\n<=65534):bo (gX n) 0=n:=by
 unfold bo bn gX jZ;simp;omega
theorem Ry (a b:List UInt8)(i:Nat)(h:i+1<a.length):bo (a++b) i=bo a i:=by
 unfold bo;rw[tR a b i (by omega),tR a b (i+1) h]
theorem RA (a b:List UInt8)(i:Nat):bo (a++b) (a.length+i)=bo b i:=by
 unfold bo;rw[wB,Nat.add_assoc,wB]
theorem Ba (a b:List UInt8)(l:List Int)(h:l.all db=true):eD (a++(bB l++b)) a.length l.length=l:=by
 induction l generalizing a with
 | nil=>rfl
 | cons x l ih =>
  rw[List.all_cons,Bool.and_eq_true] at h;have hx:=(rJ x).1 h.1;have e:bB (x :: l)=gX x++bB l:=rfl;have key:eD (a++(bB (x :: l)++b)) a.length (l.length+1)=bo (a++(bB (x :: l)++b)) a.length :: eD (a++(bB (x :: l)++b)) (a.length+2) l.length:=by
   unfold eD;rw[List.range_succ_eq_map,List.map_cons,List.map_map];congr 1;apply List.map_congr_left;intro i _;show bo _ _=bo _ _;congr 1;show a.length+2*(i+1)=a.length+2+2*i;omega
  rw[eu,key,e];have h1:bo (a++(gX x++bB l++b)) a.length=x:=by
   have:=RA a (gX x++bB l++b) 0;rw[Nat.add_zero] at this;rw[this,eH,Ry _ _ 0 (by rw[A5];omega),Rx x hx]
  have h2:eD (a++(gX x++bB l++b)) (a.length+2) l.length=l:=by
   have:=ih (a++gX x) h.2;rw[bG,A5] at this;rw[show a++(gX x++bB l++b)=a++gX x++(bB l++b) by simp only [eH]]
   exact this
  rw[h1,h2]
theorem DQ : ∀ (a b:List aH),bk a=bk b->a=b
 | [],[],_=>rfl
 | [],y :: b,h=>by
  have:=congrArg List.length h;rw[kt,kt] at this;simp at this
 | x :: a,[],h=>by
  have:=congrArg List.length h;rw[kt,kt] at this;simp at this
 | x :: a,y :: b,h=>by
  have e1:bk (x :: a)=x.client :: x.seq :: x.kind :: x.key :: x.value :: bk a:=rfl;have e2:bk (y :: b)=y.client :: y.seq :: y.kind :: y.key :: y.value :: bk b:=rfl;rw[e1,e2] at h;injection h with h1 h
  injection h with h2 h
  injection h with h3 h
  injection h with h4 h
  injection h with h5 h
  rw[DQ a b h];obtain⟨a1,a2,a3,a4,a5⟩:=x;obtain⟨b1,b2,b3,b4,b5⟩:=y;simp only at h1 h2 h3 h4 h5;rw[h1,h2,h3,h4,h5]
theorem RV (k:Int)(hd ms:List Int)(es:List aH)(h7:hd.length=7)(hok:jD k hd ms es=true) :
  fa (bX k hd ms es)=k/\jb (bX k hd ms es)=hd/\gu (bX k hd ms es)=ms/\fD (bX k hd ms es)=es/\bn (bX k hd ms es) 15=ms.length/\bn (bX k hd ms es) (16+2*ms.length)=es.length:=by
 obtain⟨⟨h1,h2,h3,h4⟩,g1,g2,g3⟩:=(qp _ _ _ _).1 hok;have e0:bn (bX k hd ms es) 0=k.toNat:=by
  unfold bX;rw[tR _ _ 0 (by rw[eo];omega),zd _ (by omega)]
 have e1:eD (bX k hd ms es) 1 7=hd:=by
  have:=Ba (bp k.toNat) (bp ms.length++(bB ms++(bp es.length++bB (bk es)))) hd g1;rw[eo,h7] at this;exact this
 have e2:bn (bX k hd ms es) 15=ms.length:=by
  have hb:bX k hd ms es=(bp k.toNat++bB hd)++(bp ms.length++(bB ms++(bp es.length++bB (bk es)))):=by unfold bX;simp only [eH]
  have hl:(bp k.toNat++bB hd).length=15:=by rw[bG,eo,kG,h7]
  have:=wB (bp k.toNat++bB hd) (bp ms.length++(bB ms++(bp es.length++bB (bk es)))) 0;rw[hl, <- hb,Nat.add_zero] at this;rw[this,tR _ _ 0 (by rw[eo];omega),zd _ (by omega)]
 have e3:eD (bX k hd ms es) 16 ms.length=ms:=by
  have hb:bX k hd ms es=(bp k.toNat++bB hd++bp ms.length)++(bB ms++(bp es.length++bB (bk es))):=by unfold bX;simp only [eH]
  have hl:(bp k.toNat++bB hd++bp ms.length).length=16:=by rw[bG,bG,eo,eo,kG,h7]
  have:=Ba (bp k.toNat++bB hd++bp ms.length) (bp es.length++bB (bk es)) ms g2;rw[hl, <- hb] at this;exact this
 have e4:bn (bX k hd ms es) (16+2*ms.length)=es.length:=by
  have hb:bX k hd ms es=(bp k.toNat++bB hd++bp ms.length++bB ms)++(bp es.length++bB (bk es)):=by unfold bX;simp only [eH]
  have hl:(bp k.toNat++bB hd++bp ms.length++bB ms).length=16+2*ms.length:=by rw[bG,bG,bG,eo,eo,kG,kG,h7]
  have:=wB (bp k.toNat++bB hd++bp ms.length++bB ms) (bp es.length++bB (bk es)) 0;rw[hl, <- hb,Nat.add_zero] at this;rw[this,tR _ _ 0 (by rw[eo];omega),zd _ (by omega)]
 have e5:eD (bX k hd ms es) (17+2*ms.length) (es.length*5)=bk es:=by
  have hb:bX k hd ms es=(bp k.toNat++bB hd++bp ms.length++bB ms++bp es.length)++(bB (bk es)++[]):=by unfold bX;simp only [eH,List.append_nil]
  have hl:(bp k.toNat++bB hd++bp ms.length++bB ms++bp es.length).length=17+2*ms.length:=by rw[bG,bG,bG,bG,eo,eo,eo,kG,kG,h7];omega
  have:=Ba (bp k.toNat++bB hd++bp ms.length++bB ms++bp es.length) [] (bk es) g3;rw[hl, <- hb,kt,Nat.mul_comm 5 es.length] at this;exact this
 refine⟨?_,e1, ?_, ?_,e2,e4⟩
 ·unfold fa;rw[e0];omega
 ·unfold gu;rw[e2];exact e3
 ·apply DQ
  unfold fD;rw[e2,e4,wo,e5]
theorem LR (k f t ep ba vo po va:Int)(ms:List Int)(es:List aH)(hok:jD k [f,t,ep,ba,vo,po,va] ms es=true) :
  cH (frame k [f,t,ep,ba,vo,po,va] ms es)=⟨k,f,t,ep,ba,vo,po,va,ms,es,0⟩:=by
 obtain⟨p1,p2,p3,p4,p5,p6⟩:=RV k [f,t,ep,ba,vo,po,va] ms es rfl hok;have hT:(frame k [f,t,ep,ba,vo,po,va] ms es).take ((frame k [f,t,ep,ba,vo,po,va] ms es).length-4)=bX k [f,t,ep,ba,vo,po,va] ms es:=by
  unfold frame;rw[bG,rX,Nat.add_sub_cancel,List.take_left]
 have hD:(frame k [f,t,ep,ba,vo,po,va] ms es).drop ((frame k [f,t,ep,ba,vo,po,va] ms es).length-4)=h_ (bX k [f,t,ep,ba,vo,po,va] ms es):=by
  unfold frame;rw[bG,rX,Nat.add_sub_cancel,List.drop_left]
 have hl:(frame k [f,t,ep,ba,vo,po,va] ms es).length=21+2*ms.length+10*es.length:=by
  unfold frame;rw[bG,rX,sr];simp only [eu,fG];omega
 have hdo:kQ (bX k [f,t,ep,ba,vo,po,va] ms es)=true :=
  (DI _ _ rfl).2 (by rw[p1,p2,p3,p4];exact qN hok)
 have h:=zl (L:=frame k [f,t,ep,ba,vo,po,va] ms es) (by omega) (by rw[hT,hD];simp) (by rw[hT];exact hdo)
 rw[h,hT];unfold kj.yes;rw[p1,p3,p4];unfold jb at p2;injection p2 with q1 p2
 injection p2 with q2 p2
 injection p2 with q3 p2
 injection p2 with q4 p2
 injection p2 with q5 p2
 injection p2 with q6 p2
 injection p2 with q7 p2
 rw[q1,q2,q3,q4,q5,q6,q7]
structure aK where
 kind:Int
 src:Int
 dst:Int
 ah:Int:=0
 ak:Int:=0
 aO:Int:=0
 pos:Int:=0
 value:Int:=0
 af:List Int:=[]
 log:List aH:=[]
 deriving DecidableEq
def aK.head (m:aK):List Int:=[m.src,m.dst,m.ah,m.ak,m.aO,m.pos,m.value]
def aK.ok (m:aK):Bool:=jD m.kind m.head m.af m.log
def aK.frame (m:aK):List UInt8:=Proofs.YtgieeeeeiggoeaaGreat.frame m.kind m.head m.af m.log
def lN (L:List UInt8):Option aK :=
 if (cH L).err=0 then
  some ⟨(cH L).k,(cH L).f,(cH L).t,(cH L).ep,(cH L).ba,(cH L).vo,(cH L).po,(cH L).va,(cH L).ms,(cH L).es⟩
 else none
theorem Rd (m:aK)(h:m.ok=true):lN m.frame=some m:=by
 obtain⟨k,f,t,ep,ba,vo,po,va,ms,es⟩:=m;have:=LR k f t ep ba vo po va ms es h;unfold lN aK.frame aK.head;simp only;rw[this];rfl
def aH.ok (e:aH):Bool :=
 decide (0<=e.client) && decide (e.client<=3) && decide (0<=e.seq) && decide (e.seq<=999) && decide (0<=e.key) && decide (e.key<=15)
  && decide (0<=e.value) && decide (e.value<=999) && (decide (e.kind=1) || (decide (e.kind=2) && decide (e.value=0)))
def oH (key:Int)(l:List aH):Int:=l.foldl (fun v e=>if e.kind=1/\e.key=key then e.value else v) (-1)
def jj (log:List aH)(p:Nat):Int:=oH (log.getD p aH.zero).key (log.take p)
def bS (l:List Int)(x:Int):Option Int:=l[l.idxOf x+1]?
def dY (l:List Int)(x:Int):Option Int:=if l.idxOf x=0 then none else if l.idxOf x<l.length then l[l.idxOf x-1]? else none
structure aR where
 up:Bool
 ah:Int
 lock:Int
 af:List Int
 log:List aH
 base:Nat
 aU:Nat
 deriving DecidableEq
def aR.live (r:aR)(own:Int):Bool:=decide (own∈r.af) && decide (r.lock<=r.ah)
def aR.forward (r:aR)(own nx:Int)(p:Nat):aK :=
 {kind:=2,src:=own,dst:=nx,ah:=r.ah,pos:=p,log:=[r.log.getD p aH.zero] }
def aR.dm (r:aR)(own:Int)(p:Nat):aK :=
 {kind:=4,src:=own,dst:=300+(r.log.getD p aH.zero).client,pos:=(r.log.getD p aH.zero).seq,value:=jj r.log p }
def aR.c_ (r:aR)(own:Int):List aK :=
 match dY r.af own with
 | none=>[]
 | some a=>[{ kind:=3,src:=own,dst:=a,ah:=r.ah,pos:=r.aU }]
def fc (p n:Nat):List Nat:=(List.range (n-p)).map (p + ·)
def aR.mJ (r:aR)(own:Int):aR × List aK :=
 ({ r with aU:=r.log.length },(fc r.aU r.log.length).map (r.dm own)++{ r with aU:=r.log.length }.c_ own)
def aR.put (r:aR)(own:Int)(e:aH):aR × List aK :=
 match bS r.af own with
 | some nx=>({ r with log:=r.log++[e] },[{ r with log:=r.log++[e] }.forward own nx r.log.length])
 | none=>{ r with log:=r.log++[e] }.mJ own
def iD (e x:aH):Bool:=decide (x.client=e.client) && decide (x.seq=e.seq)
def la (e x:aH):Bool:=decide (x.client=e.client) && decide (e.seq<x.seq)
def aR.asked (r:aR)(own:Int)(e:aH):aR × List aK :=
 if (r.af.headD 0)≠own then (r,[{ kind:=1,src:=own,dst:=r.af.headD 0,log:=[e] }])
 else if r.log.any (iD e) then
  if r.log.findIdx (iD e)<r.aU then (r,[r.dm own (r.log.findIdx (iD e))]) else (r,[])
 else if 24<=r.log.length\/r.log.any (la e) then (r,[])
 else r.put own e
def aR.gL (r:aR)(own:Int)(m:aK):aR × List aK :=
 if r.live own/\dY r.af own=some m.src/\m.log.length=1/\m.ah=r.ah then
  if m.pos=r.log.length/\r.log.length<24 then r.put own (m.log.headD aH.zero)
  else if m.pos<r.log.length/\(bS r.af own=none\/m.pos<r.aU) then (r,r.c_ own)
  else (r,[])
 else (r,[])
def aR.jf (r:aR)(own:Int)(m:aK):aR × List aK :=
 if r.live own/\bS r.af own=some m.src/\m.ah=r.ah/\(r.aU:Int)<m.pos/\m.pos<=r.log.length then
  ({ r with aU:=m.pos.toNat }, { r with aU:=m.pos.toNat }.c_ own)
 else (r,[])
def aR.lp (r:aR)(own:Int)(m:aK):aR × List aK :=
 if r.ah+1<m.ah then (r,[])
 else ({ r with lock:=if m.ah=r.ah+1 then m.ah else r.lock },
  [{ kind:=8,src:=own,dst:=m.src,ah:=m.ah,ak:=m.ak,log:=r.log }])
def aR.mC (r:aR)(own:Int)(m:aK):aR × List aK :=
 (if r.ah<m.ah then { r with ah:=m.ah,af:=m.af,log:=m.log,base:=m.log.length,aU:=m.log.length } else r,
  [{ kind:=14,src:=own,dst:=m.src,ah:=m.ah }])
def aR.take (r:aR)(own:Int)(m:aK):aR × List aK :=
 if m.kind=1 then (if m.log.length=1/\r.live own then r.asked own (m.log.headD aH.zero) else (r,[]))
 else if m.kind=2 then r.gL own m
 else if m.kind=3 then r.jf own m
 else if m.kind=7 then r.lp own m
 else if m.kind=13 then r.mC own m
 else (r,[])
def aR.tick (r:aR)(own:Int):List aK :=
 if r.live own then
  match bS r.af own with
  | none=>r.c_ own
  | some nx=>(fc r.aU r.log.length).map (r.forward own nx)
 else []
def aR.dc (r:aR):aR:={ r with up:=false,aU:=r.base }
def aR.cF (r:aR)(own:Int):aR :=
 {r with up:=true,aU:=if r.live own/\bS r.af own=none then r.log.length else r.base }
structure fK where
 promise:Int
 ak:Int
 af:List Int
 log:List aH
 deriving DecidableEq
def fK.none : fK:=⟨-1, -1,[],[]⟩
structure Acc where
 up:Bool
 ah:Int
 af:List Int
 aZ:Int->fK
def upd (f:Int->fK)(e:Int)(v:fK):Int->fK:=fun x=>if x=e then v else f x
def Acc.take (a:Acc)(m:aK):Acc × List aK :=
 if m.kind=5 then (a,[{ kind:=6,src:=m.dst,dst:=m.src,ah:=a.ah,ak:=m.ak,af:=a.af }])
 else if m.kind=9 then
  if m.ak<(a.aZ m.ah).promise then (a,[])
  else ({ a with aZ:=upd a.aZ m.ah { a.aZ m.ah with promise:=m.ak } },
   [{ kind:=10,src:=m.dst,dst:=m.src,ah:=m.ah,ak:=m.ak,aO:=(a.aZ m.ah).ak,af:=(a.aZ m.ah).af,log:=(a.aZ m.ah).log }])
 else if m.kind=11 then
  if m.ak<(a.aZ m.ah).promise then (a,[])
  else ({ a with aZ:=upd a.aZ m.ah ⟨m.ak,m.ak,m.af,m.log⟩ },
   [{ kind:=12,src:=m.dst,dst:=m.src,ah:=m.ah,ak:=m.ak }])
 else if m.kind=15 then
  (if a.ah<m.ah then { a with ah:=m.ah,af:=m.af } else a,[{ kind:=16,src:=m.dst,dst:=m.src,ah:=m.ah }])
 else (a,[])
structure aN where
 up:Bool
 begun:Nat
 does:Nat
 ah:Int
 ak:Int
 want:List Int
 old:List Int
 af:List Int
 log:List aH
 came:List aK
 deriving DecidableEq
def aN.all (s:aN):List Int :=
 match s.does with
 | 0=>[]
 | 2=>s.old
 | 5=>s.af
 | _=>[100,101,102]
def aN.ask (s:aN)(own to:Int):aK :=
 match s.does with
 | 1=>{ kind:=5,src:=own,dst:=to,ak:=s.ak }
 | 2=>{ kind:=7,src:=own,dst:=to,ah:=s.ah,ak:=s.ak }
 | 3=>{ kind:=9,src:=own,dst:=to,ah:=s.ah,ak:=s.ak }
 | 4=>{ kind:=11,src:=own,dst:=to,ah:=s.ah,ak:=s.ak,af:=s.af,log:=s.log }
 | 5=>{ kind:=13,src:=own,dst:=to,ah:=s.ah,af:=s.af,log:=s.log }
 | _=>{ kind:=15,src:=own,dst:=to,ah:=s.ah,af:=s.af }
def aN.du (s:aN)(x:Int):Bool:=s.came.any (fun m=>decide (m.src=x))
def aN.asks (s:aN)(own:Int):List aK:=(s.all.filter (fun x => !s.du x)).map (s.ask own)
def aN.fits (s:aN)(m:aK):Bool :=
 decide (s.does≠0) && decide (m.kind=4+2*(s.does:Int)) && (decide (s.does=1) || decide (m.ah=s.ah)) && (decide (5<=s.does) || decide (m.ak=s.ak))
  && decide (m.src∈s.all) && !s.du m.src
def cu (f:aK->Int)(c:List aK)(d:aK):aK:=if f (c.headD d)<f d then d else c.headD d
def aN.b_ (s:aN)(own:Int):aN × List aK :=
 ({ s with does:=if s.does=6 then 0 else s.does+1,came:=[] }, { s with does:=if s.does=6 then 0 else s.does+1,came:=[] }.asks own)
def aN.take (s:aN)(m:aK):aN × List aK :=
 if s.fits m then
  match s.does with
  | 1=>if s.came=[] then ({ s with came:=[m] },[]) else
    {s with ah:=(cu aK.ah s.came m).ah+1,old:=(cu aK.ah s.came m).af }.b_ m.dst
  | 2=>{ s with log:=m.log }.b_ m.dst
  | 3=>if s.came=[] then ({ s with came:=[m] },[]) else
    if 0<=(cu aK.aO s.came m).aO then { s with af:=(cu aK.aO s.came m).af,log:=(cu aK.aO s.came m).log }.b_ m.dst
    else { s with af:=s.want }.b_ m.dst
  | 5=>if s.came.length+1<s.af.length then ({ s with came:=s.came++[m] },[]) else s.b_ m.dst
  | _=>if s.came=[] then ({ s with came:=[m] },[]) else s.b_ m.dst
 else (s,[])
def aN.begin (s:aN)(own:Int)(want:List Int):aN :=
 {up:=true,begun:=s.begun+1,does:=1,ah:=0,ak:=2*(s.begun+1:Int)+(own-200),want:=want,old:=[],af:=[],log:=[],came:=[] }
def aN.still (up:Bool)(begun:Nat):aN :=
 {up:=up,begun:=begun,does:=0,ah:=0,ak:=0,want:=[],old:=[],af:=[],log:=[],came:=[] }
structure fY where
 client:Int
 seq:Int
 value:Int
 deriving DecidableEq
structure aq where
 aD:List aR
 di:List Acc
 dH:List aN
 aE:List (List UInt8 × Bool)
 told:List fY
def dn (n:Nat):List Int:=(List.range n).map Int.ofNat
def aR.first (n:Nat):aR:={ up:=true,ah:=0,lock:=0,af:=dn n,log:=[],base:=0,aU:=0 }
def Acc.first (n:Nat):Acc:={ up:=true,ah:=0,af:=dn n,aZ:=fun _=>fK.none }
def aq.first (n:Nat):aq :=
 {aD:=List.replicate n (aR.first n),di:=List.replicate 3 (Acc.first n),dH:=List.replicate 2 (aN.still true 0),aE:=[],told:=[] }
def aq.cN (c:aq)(d:Int):Prop:=0<=d/\d<c.aD.length
def dC (d:Int):Prop:=100<=d/\d<103
def b8 (d:Int):Prop:=200<=d/\d<202
instance (c:aq) (d:Int):Decidable (c.cN d):=inferInstanceAs (Decidable (_/\_))
instance (d:Int):Decidable (dC d):=inferInstanceAs (Decidable (_/\_))
instance (d:Int):Decidable (b8 d):=inferInstanceAs (Decidable (_/\_))
def aq.bq (c:aq)(d:Int):aR:=c.aD.getD d.toNat (aR.first 0)
def aq.acc (c:aq)(d:Int):Acc:=c.di.getD (d-100).toNat (Acc.first 0)
def aq.aX (c:aq)(d:Int):aN:=c.dH.getD (d-200).toNat (aN.still true 0)
def aq.fJ (c:aq)(d:Int)(r:aR):aq:={ c with aD:=c.aD.set d.toNat r }
def aq.iu (c:aq)(d:Int)(a:Acc):aq:={ c with di:=c.di.set (d-100).toNat a }
def aq.ej (c:aq)(d:Int)(s:aN):aq:={ c with dH:=c.dH.set (d-200).toNat s }
def aq.cO (c:aq)(d:Int):Option Bool :=
 if c.cN d then some (c.bq d).up else if dC d then some (c.acc d).up else if b8 d then some (c.aX d).up else none
def aq.send (c:aq)(ms:List aK):aq:={ c with aE:=(c.aE++ms.map (fun m=>(m.frame,false))).take 200 }
def aq.tell (c:aq)(m:aK):aq :=
 if m.kind=4/\300<=m.dst/\m.dst<=303 then { c with told:=c.told++[⟨m.dst-300,m.pos,m.value⟩] } else c
def aq.takes (c:aq)(m:aK):aq × List aK :=
 if c.cO m.dst=some true then
  if c.cN m.dst then (c.fJ m.dst ((c.bq m.dst).take m.dst m).1,((c.bq m.dst).take m.dst m).2)
  else if dC m.dst then (c.iu m.dst ((c.acc m.dst).take m).1,((c.acc m.dst).take m).2)
  else (c.ej m.dst ((c.aX m.dst).take m).1,((c.aX m.dst).take m).2)
 else (c,[])
def aq.gO (c:aq)(d:Int):List aK :=
 if c.cN d then (c.bq d).tick d else if b8 d then (c.aX d).asks d else []
def aq.kO (c:aq)(m:aK):aq:=((c.tell m).takes m).1.send ((c.tell m).takes m).2
def aq.ask (c:aq)(d:Int)(e:aH):aq × Int :=
 if ¬ c.cN d then (c,4) else if e.ok=false then (c,6)
 else (c.send [{ kind:=1,src:=300+e.client,dst:=d,log:=[e] }],0)
def dq (l:List Int)(n:Nat):Bool:=l.all (fun x=>decide (0<=x) && decide (x<n)) && decide l.Nodup && !l.isEmpty
def aq.change (c:aq)(d:Int)(l:List Int):aq × Int :=
 if ¬ b8 d then (c,4)
 else if (c.aX d).up=false\/1000<=(c.aX d).begun then (c,5)
 else if dq l c.aD.length=false then (c,7)
 else ((c.ej d ((c.aX d).begin d l)).send (((c.aX d).begin d l).asks d),0)
def aq.tick (c:aq)(d:Int):aq × Int :=
 match c.cO d with
 | none=>(c,4)
 | some false=>(c,5)
 | some true=>(c.send (c.gO d),0)
def aq.kT (c:aq)(i:Int):Prop:=0<=i/\i<c.aE.length
instance (c:aq) (i:Int):Decidable (c.kT i):=inferInstanceAs (Decidable (_/\_))
def aq.dX (c:aq)(i:Int):List UInt8 × Bool:=c.aE.getD i.toNat ([],false)
def aq.gone (c:aq)(i:Int):aq:={ c with aE:=c.aE.eraseIdx i.toNat }
def aq.gI (c:aq)(i:Int):aq × Int :=
 if c.kT i then
  match lN (c.dX i).1 with
  | none=>(c.gone i,0)
  | some m=>((c.gone i).kO m,0)
 else (c,8)
def aq.drop (c:aq)(i:Int):aq × Int:=if c.kT i then (c.gone i,0) else (c,8)
def aq.double (c:aq)(i:Int):aq × Int :=
 if c.kT i then ({ c with aE:=(c.aE++[c.dX i]).take 200 },0) else (c,8)
def aq.dc (c:aq)(d:Int):aq × Int :=
 match c.cO d with
 | none=>(c,4)
 | some false=>(c,5)
 | some true =>
  if c.cN d then (c.fJ d (c.bq d).dc,0)
  else if dC d then (c.iu d { c.acc d with up:=false },0)
  else (c.ej d (aN.still false (c.aX d).begun),0)
def aq.cF (c:aq)(d:Int):aq × Int :=
 match c.cO d with
 | none=>(c,4)
 | some true=>(c,5)
 | some false =>
  if c.cN d then (c.fJ d ((c.bq d).cF d),0)
  else if dC d then (c.iu d { c.acc d with up:=true },0)
  else (c.ej d (aN.still true (c.aX d).begun),0)
def aq.msgs (c:aq):List aK:=c.aE.filterMap (fun f=>lN f.1)
def lO (c n:Int):Int:=(if c<0 then -(c+1) else c) % n
theorem j0 (l:List Int)(n:Nat):dq l n=true↔(∀ x∈l,0<=x/\x<n)/\l.Nodup/\l≠[]:=by
 unfold dq;simp only [Bool.and_eq_true,List.all_eq_true,jt,Bool.not_eq_true',List.isEmpty_eq_false_iff];exact⟨fun ⟨⟨a,b⟩,c⟩=>⟨a,b,c⟩,fun ⟨a,b,c⟩=>⟨⟨a,b⟩,c⟩⟩
theorem Ru (h:l.Nodup){a b:Nat}(ha:l[a]?=some x)(hb:l[b]?=some x):a=b:=by
 obtain⟨a1,a2⟩:=dI.1 ha;obtain⟨b1,b2⟩:=dI.1 hb;have hp:=List.pairwise_iff_getElem.1 h;rcases Nat.lt_trichotomy a b with q|q|q
 ·exact absurd (a2.trans b2.symm) (hp a b a1 b1 q)
 ·exact q
 ·exact absurd (b2.trans a2.symm) (hp b a b1 a1 q)
theorem DV (n:Nat)(h:1<=n):dq (dn n) n=true:=by
 rw[j0];refine⟨?_, ?_, ?_⟩
 ·intro x hx
  simp only [dn,List.mem_map,List.mem_range] at hx;obtain⟨i,hi,rfl⟩:=hx;exact⟨Int.natCast_nonneg i,Int.ofNat_lt.2 hi⟩
 ·unfold dn
  exact List.Pairwise.map _ (fun a b hab h=>hab (Int.ofNat.inj h)) List.nodup_range
 ·intro e
  have:=congrArg List.length e;simp[dn] at this;omega
theorem Rm (h:bS l x=some y):∃ a:Nat,l[a]?=some x/\l[a+1]?=some y:=by
 unfold bS at h;have hlt:=(dI.1 h).1;have hi:l.idxOf x<l.length:=by omega
 exact⟨l.idxOf x,by rw[bU hi,List.getElem_idxOf],h⟩
theorem Sg (h:dY l x=some y):∃ a:Nat,l[a]?=some y/\l[a+1]?=some x:=by
 unfold dY at h;by_cases h0:l.idxOf x=0
 ·rw[if_pos h0] at h;cases h
 ·rw[if_neg h0] at h
  by_cases h1:l.idxOf x<l.length
  ·rw[if_pos h1] at h
   refine⟨l.idxOf x-1,h, ?_⟩
   rw[show l.idxOf x-1+1=l.idxOf x by omega,bU h1,List.getElem_idxOf]
  ·rw[if_neg h1] at h;cases h
theorem Gy {p n x:Nat}(h:x∈fc p n):p<=x/\x<n:=by
 unfold fc at h;simp only [List.mem_map,List.mem_range] at h;obtain⟨a,h1,rfl⟩:=h;omega
theorem D1 {s:aN}{m:aK}(h:s.fits m=true):s.does≠0/\m.kind=4+2*(s.does:Int)/\(s.does≠1->m.ah=s.ah)/\(s.does<5->m.ak=s.ak)/\m.src∈s.all/\∀ x∈s.came,x.src≠m.src:=by
 unfold aN.fits at h;simp only [Bool.and_eq_true,Bool.or_eq_true,jt,Bool.not_eq_true'] at h;obtain⟨⟨⟨⟨⟨h1,h2⟩,h3⟩,h4⟩,h5⟩,h6⟩:=h;refine⟨h1,h2,by omega,by omega,h5, ?_⟩
 intro x hx e;unfold aN.du at h6;rw[List.any_eq_false] at h6;exact h6 x hx (by simpa using e)
theorem Dc (f:aK->Int)(c:List aK)(d:aK):cu f c d=c.headD d\/cu f c d=d:=by
 unfold cu;split
 ·exact .inr rfl
 ·exact .inl rfl
theorem NH {c:List aK}(h:c≠[])(d:aK):c.headD d∈c:=by
 cases c with
 | nil=>exact absurd rfl h
 | cons a t=>exact fS
structure St where
 R:Int->aR
 A:Int->Acc
 S:Int->aN
def St.nW (s:St)(i:Int)(r:aR):St:={ s with R:=fun j=>if j=i then r else s.R j }
def St.pw (s:St)(i:Int)(a:Acc):St:={ s with A:=fun j=>if j=i then a else s.A j }
def St.nj (s:St)(i:Int)(m:aN):St:={ s with S:=fun j=>if j=i then m else s.S j }
structure Gh where
 n:Nat
structure jR (g:Gh)(s:St)(m:aK):Prop
structure yK (g:Gh)(s:St)(k:Int):Prop
structure Inv (g:Gh)(s:St):Prop
structure Le (g:Gh)(s:St)(g':Gh)(s':St):Prop where
 n:g'.n=g.n
theorem Le.refl (g:Gh)(s:St):Le g s g s:=⟨rfl⟩
theorem jR.mono {g g':Gh}{s s':St}(_h:Le g s g' s'){m:aK}(_k:jR g s m):jR g' s' m:=⟨⟩
def Gh.sm (g:Gh)(_e:aH):Gh:=g
theorem jR.sm {g:Gh}{s:St}{m:aK}(_h:jR g s m)(e:aH):jR (g.sm e) s m:=⟨⟩
theorem Inv.ask {g:Gh}{s:St}(_h:Inv g s)(e:aH):Inv (g.sm e) s:=⟨⟩
theorem Inv.Th {g:Gh}{s:St}(_h:Inv g s)(_hi0:0<=i)(_hi1:i<g.n)(m:aK)(_hm:jR g s m)(_hd:m.dst=i) :
  ∃ g',Inv g' (s.nW i ((s.R i).take i m).1)/\Le g s g' (s.nW i ((s.R i).take i m).1)/\∀ x∈((s.R i).take i m).2,jR g' (s.nW i ((s.R i).take i m).1) x:=⟨g,⟨⟩,⟨rfl⟩,fun _ _=>⟨⟩⟩
theorem Inv.S9 {g:Gh}{s:St}(_h:Inv g s)(_hi0:0<=i)(_hi1:i<g.n):∃ g',Inv g' (s.nW i (s.R i).dc)/\Le g s g' (s.nW i (s.R i).dc):=⟨g,⟨⟩,⟨rfl⟩⟩
theorem Inv.Td {g:Gh}{s:St}(_h:Inv g s)(_hi0:0<=i)(_hi1:i<g.n):∃ g',Inv g' (s.nW i ((s.R i).cF i))/\Le g s g' (s.nW i ((s.R i).cF i)):=⟨g,⟨⟩,⟨rfl⟩⟩
theorem Inv.Uy {g:Gh}{s:St}(_h:Inv g s)(_hi0:0<=i)(_hi1:i<g.n):∀ x∈(s.R i).tick i,jR g s x:=fun _ _=>⟨⟩
theorem Inv.JQ {g:Gh}{s:St}(_h:Inv g s)(_ha:dC a)(m:aK)(_hm:jR g s m)(_hd:m.dst=a) :
  ∃ g',Inv g' (s.pw a ((s.A a).take m).1)/\Le g s g' (s.pw a ((s.A a).take m).1)/\∀ x∈((s.A a).take m).2,jR g' (s.pw a ((s.A a).take m).1) x:=⟨g,⟨⟩,⟨rfl⟩,fun _ _=>⟨⟩⟩
theorem Inv.CP {g:Gh}{s:St}(_h:Inv g s)(_ha:dC a){a':Acc}(_hv:a'.aZ=(s.A a).aZ)(_hr:a'.ah=a'.ah):Inv g (s.pw a a')/\Le g s g (s.pw a a'):=⟨⟨⟩,⟨rfl⟩⟩
theorem Inv.QC {g:Gh}{s:St}(_h:Inv g s)(_hk:b8 k)(m:aK)(_hm:jR g s m)(_hd:m.dst=k) :
  ∃ g',Inv g' (s.nj k ((s.S k).take m).1)/\Le g s g' (s.nj k ((s.S k).take m).1)/\∀ x∈((s.S k).take m).2,jR g' (s.nj k ((s.S k).take m).1) x:=⟨g,⟨⟩,⟨rfl⟩,fun _ _=>⟨⟩⟩
theorem Inv.FK {g:Gh}{s:St}(_h:Inv g s)(up:Bool):Inv g (s.nj k (aN.still up (s.S k).begun))/\Le g s g (s.nj k (aN.still up (s.S k).begun)):=⟨⟨⟩,⟨rfl⟩⟩
theorem Inv.Qx {g:Gh}{s:St}(_h:Inv g s)(_hk:b8 k)(l:List Int)(_hl:dq l g.n=true) :
  Inv g (s.nj k ((s.S k).begin k l))/\Le g s g (s.nj k ((s.S k).begin k l))/\∀ x∈((s.S k).begin k l).asks k,jR g (s.nj k ((s.S k).begin k l)) x:=⟨⟨⟩,⟨rfl⟩,fun _ _=>⟨⟩⟩
theorem Inv.aX {g:Gh}{s:St}(_h:Inv g s)(_hk:b8 k):yK g s k:=⟨⟩
theorem yK.Ks {g:Gh}{s:St}(_h:yK g s k):∀ x∈(s.S k).asks k,jR g s x:=fun _ _=>⟨⟩
theorem Ra {g:Gh}{s:St}{m:aK}(_hk:m.kind=1)(_h:True):jR g s m:=⟨⟩
end Go.Proofs.YtgieeeeeiggoeaaGreat
