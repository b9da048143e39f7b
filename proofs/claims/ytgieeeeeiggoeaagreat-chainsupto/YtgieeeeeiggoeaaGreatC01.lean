
namespace Go.Proofs.YtgieeeeeiggoeaaGreat
def crcBit (c:Nat):Nat:=if c % 2=1 then (c / 2) ^^^ 3988292384 else c / 2
def crcBits : Nat→Nat→Nat
 | 0,c=>c
 | n+1,c=>crcBit (crcBits n c)
def crcByte (c b:Nat):Nat:=crcBits 8 (c ^^^ b)
def crcFrom (c:Nat)(l:List UInt8):Nat:=l.foldl (fun c b=>crcByte c b.toNat) c
def crcRaw (l:List UInt8):Nat:=crcFrom 4294967295 l
def crc (l:List UInt8):Nat:=4294967295-crcRaw l
theorem crcBit_lt (c:Nat)(h:c<4294967296):crcBit c<4294967296:=by
 unfold crcBit
 split
 ·exact Nat.xor_lt_two_pow (n:=32) (by omega) (by omega)
 ·omega
theorem crcBits_lt (n c:Nat)(h:c<4294967296):crcBits n c<4294967296:=by
 induction n with
 | zero=>exact h
 | succ n ih=>exact crcBit_lt _ ih
theorem crcByte_lt (c b:Nat)(h:c<4294967296)(hb:b<256):crcByte c b<4294967296 :=
 crcBits_lt 8 _ (Nat.xor_lt_two_pow (n:=32) h (by omega))
theorem crcFrom_lt (l:List UInt8)(c:Nat)(h:c<4294967296):crcFrom c l<4294967296:=by
 induction l generalizing c with
 | nil=>exact h
 | cons b l ih=>exact ih _ (crcByte_lt c _ h b.toNat_lt)
theorem crcRaw_lt (l:List UInt8):crcRaw l<4294967296:=crcFrom_lt l _ (by omega)
theorem crcFrom_snoc (c:Nat)(l:List UInt8)(b:UInt8):crcFrom c (l++[b])=crcByte (crcFrom c l) b.toNat:=by
 unfold crcFrom
 rw[List.foldl_append];rfl
theorem crcRaw_snoc (l:List UInt8)(b:UInt8):crcRaw (l++[b])=crcByte (crcRaw l) b.toNat:=crcFrom_snoc _ _ _
theorem take_snoc (s:ByteArray)(k:Nat)(h:k<s.size):s.data.toList.take (k+1)=s.data.toList.take k++[s[k]]:=by
 rw[List.take_succ_eq_append_getElem (by simpa using h)];rfl
def lowByte (n:Nat):UInt8:=UInt8.ofNat n
def sumOf (l:List UInt8):List UInt8:=[lowByte (crc l),lowByte (crc l / 256),lowByte (crc l / 65536),lowByte (crc l / 16777216)]
def bs (l:List UInt8):ByteArray:=⟨l.toArray⟩
theorem bs_size (l:List UInt8):(bs l).size=l.length:=rfl
theorem bs_list (l:List UInt8):(bs l).data.toList=l:=rfl
theorem bs_append (l m:List UInt8):bs l++bs m=bs (l++m):=by
 apply ByteArray.ext
 apply Array.toList_inj.1
 simp[bs]
def numBytes (n:Int):List UInt8:=[lowByte ((n+1).toNat / 256),lowByte (n+1).toNat]
def numOk (n:Int):Bool:=decide (-1≤n) && decide (n≤65534)
def numsBytes (l:List Int):List UInt8:=l.flatMap numBytes
theorem numOk_iff (n:Int):numOk n=true ↔ -1≤n∧n≤65534:=by simp[numOk]
theorem numBytes_length (n:Int):(numBytes n).length=2:=rfl
theorem numsBytes_length (l:List Int):(numsBytes l).length=2*l.length:=by
 induction l with
 | nil=>rfl
 | cons a l ih =>
  rw[show numsBytes (a :: l)=numBytes a++numsBytes l from rfl,List.length_append,ih,numBytes_length]
  simp;omega
theorem numsBytes_append (l m:List Int):numsBytes (l++m)=numsBytes l++numsBytes m:=by
 simp[numsBytes]
theorem numsBytes_one (n:Int):numsBytes [n]=numBytes n:=by simp[numsBytes]
theorem take_snoc_ints (l:List Int)(k:Nat)(h:k<l.length):l.take (k+1)=l.take k++[l.getD k 0]:=by
 rw[List.take_succ_eq_append_getElem h];simp[List.getD,List.getElem?_eq_getElem h]
structure Ent where
 client:Int
 seq:Int
 kind:Int
 key:Int
 value:Int
 deriving DecidableEq
def Ent.nums (e:Ent):List Int:=[e.client,e.seq,e.kind,e.key,e.value]
def Ent.zero : Ent:=⟨0,0,0,0,0⟩
def entsNums (es:List Ent):List Int:=es.flatMap Ent.nums
theorem entsNums_length (es:List Ent):(entsNums es).length=5*es.length:=by
 induction es with
 | nil=>rfl
 | cons a l ih =>
  rw[show entsNums (a :: l)=a.nums++entsNums l from rfl,List.length_append,ih]
  simp[Ent.nums];omega
theorem entsNums_append (l m:List Ent):entsNums (l++m)=entsNums l++entsNums m:=by simp[entsNums]
theorem entsNums_one (e:Ent):entsNums [e]=e.nums:=by simp[entsNums]
theorem take_snoc_ents (l:List Ent)(k:Nat)(h:k<l.length):l.take (k+1)=l.take k++[l.getD k Ent.zero]:=by
 rw[List.take_succ_eq_append_getElem h];simp[List.getD,List.getElem?_eq_getElem h]
def msgOk (k:Int)(hd mem:List Int)(es:List Ent):Bool :=
 decide (1≤k) && decide (k≤16) && decide (mem.length≤5) && decide (es.length≤24) && hd.all numOk && mem.all numOk && (entsNums es).all numOk
theorem msgOk_iff (k:Int)(hd mem:List Int)(es:List Ent):msgOk k hd mem es=true ↔
  (1≤k∧k≤16∧mem.length≤5∧es.length≤24)∧hd.all numOk=true∧mem.all numOk=true∧(entsNums es).all numOk=true:=by
 unfold msgOk
 simp only [Bool.and_eq_true,decide_eq_true_eq]
 constructor
 ·rintro⟨⟨⟨⟨⟨⟨a,b⟩,c⟩,d⟩,e⟩,f⟩,g⟩;exact⟨⟨a,b,c,d⟩,e,f,g⟩
 ·rintro⟨⟨a,b,c,d⟩,e,f,g⟩;exact⟨⟨⟨⟨⟨⟨a,b⟩,c⟩,d⟩,e⟩,f⟩,g⟩
theorem msgOk_false {k:Int}{hd mem:List Int}{es:List Ent}(h:¬ ((1≤k∧k≤16∧mem.length≤5∧es.length≤24)∧hd.all numOk=true∧mem.all numOk=true∧(entsNums es).all numOk=true)) :
  msgOk k hd mem es=false:=by
 rw[Bool.eq_false_iff];exact fun h'=>h ((msgOk_iff _ _ _ _).1 h')
def oneB (n:Nat):List UInt8:=[lowByte n]
theorem oneB_length (n:Nat):(oneB n).length=1:=rfl
def body (k:Int)(hd mem:List Int)(es:List Ent):List UInt8 :=
 oneB k.toNat++(numsBytes hd++(oneB mem.length++(numsBytes mem++(oneB es.length++numsBytes (entsNums es)))))
def frame (k:Int)(hd mem:List Int)(es:List Ent):List UInt8:=body k hd mem es++sumOf (body k hd mem es)
def encOf (k:Int)(hd mem:List Int)(es:List Ent):List UInt8 × Int:=if msgOk k hd mem es then (frame k hd mem es,0) else ([],1)
theorem encOf_no {k:Int}{hd mem:List Int}{es:List Ent}(h:msgOk k hd mem es=false):encOf k hd mem es=([],1):=by
 unfold encOf;rw[h];rfl
theorem encOf_yes {k:Int}{hd mem:List Int}{es:List Ent}(h:msgOk k hd mem es=true):encOf k hd mem es=(frame k hd mem es,0):=by
 unfold encOf;rw[if_pos h]
theorem body_length (k:Int)(hd mem:List Int)(es:List Ent):(body k hd mem es).length=3+2*hd.length+2*mem.length+10*es.length:=by
 unfold body
 simp only [List.length_append,numsBytes_length,entsNums_length,oneB_length]
 omega
def byteAt (t:List UInt8)(i:Nat):Nat:=(t.getD i 0).toNat
theorem byteAt_lt (t:List UInt8)(i:Nat):byteAt t i<256:=UInt8.toNat_lt _
def numAt (t:List UInt8)(i:Nat):Int:=256*(byteAt t i:Int)+byteAt t (i+1)-1
theorem numAt_ok (t:List UInt8)(i:Nat) : -1≤numAt t i∧numAt t i≤65534:=by
 have h1:=byteAt_lt t i
 have h2:=byteAt_lt t (i+1)
 unfold numAt;omega
def entAt (t:List UInt8)(p:Nat):Ent:=⟨numAt t p,numAt t (p+2),numAt t (p+4),numAt t (p+6),numAt t (p+8)⟩
def numsFrom (t:List UInt8)(p n:Nat):List Int:=(List.range n).map fun i=>numAt t (p+2*i)
def entsFrom (t:List UInt8)(p n:Nat):List Ent:=(List.range n).map fun i=>entAt t (p+10*i)
theorem numsFrom_length (t:List UInt8)(p n:Nat):(numsFrom t p n).length=n:=by simp[numsFrom]
theorem entsFrom_length (t:List UInt8)(p n:Nat):(entsFrom t p n).length=n:=by simp[entsFrom]
theorem numsFrom_succ (t:List UInt8)(p n:Nat):numsFrom t p (n+1)=numsFrom t p n++[numAt t (p+2*n)]:=by
 simp[numsFrom,List.range_succ]
theorem entsFrom_succ (t:List UInt8)(p n:Nat):entsFrom t p (n+1)=entsFrom t p n++[entAt t (p+10*n)]:=by
 simp[entsFrom,List.range_succ]
def pKind (t:List UInt8):Int:=byteAt t 0
def pHead (t:List UInt8):List Int:=[numAt t 1,numAt t 3,numAt t 5,numAt t 7,numAt t 9,numAt t 11,numAt t 13]
def pMems (t:List UInt8):List Int:=numsFrom t 16 (byteAt t 15)
def pEnts (t:List UInt8):List Ent:=entsFrom t (17+2*byteAt t 15) (byteAt t (16+2*byteAt t 15))
def measOf (t:List UInt8):Nat × Nat × Bool :=
 if byteAt t 15≤5∧16+2*byteAt t 15<t.length then
  (byteAt t 15,byteAt t (16+2*byteAt t 15),decide (byteAt t (16+2*byteAt t 15)≤24) && decide (t.length=17+2*byteAt t 15+10*byteAt t (16+2*byteAt t 15)))
 else (0,0,false)
theorem measOf_no {t:List UInt8}(h:¬ (byteAt t 15≤5∧16+2*byteAt t 15<t.length)):measOf t=(0,0,false):=by
 unfold measOf;rw[if_neg h]
theorem measOf_in {t:List UInt8}(h:byteAt t 15≤5∧16+2*byteAt t 15<t.length):measOf t =
  (byteAt t 15,byteAt t (16+2*byteAt t 15),decide (byteAt t (16+2*byteAt t 15)≤24) && decide (t.length=17+2*byteAt t 15+10*byteAt t (16+2*byteAt t 15))):=by
 unfold measOf;rw[if_pos h]
theorem crc_lt (l:List UInt8):crc l<4294967296:=by unfold crc;omega
def kindOk (k:Int):Bool:=decide (1≤k) && decide (k≤16)
def decOk (T:List UInt8):Bool:=kindOk (byteAt T 0:Nat) && (measOf T).2.2
theorem decOk_parts {T:List UInt8}(h:decOk T=true):kindOk (byteAt T 0:Nat)=true∧byteAt T 15≤5∧byteAt T (16+2*byteAt T 15)≤24∧T.length=17+2*byteAt T 15+10*byteAt T (16+2*byteAt T 15) ∧
  measOf T=(byteAt T 15,byteAt T (16+2*byteAt T 15),true):=by
 unfold decOk at h
 rw[Bool.and_eq_true] at h
 by_cases hc:byteAt T 15≤5∧16+2*byteAt T 15<T.length
 ·have hm:=measOf_in hc
  have h2:=h.2
  rw[hm] at h2
  simp only [Bool.and_eq_true,decide_eq_true_eq] at h2
  refine⟨h.1,hc.1,h2.1,h2.2, ?_⟩
  rw[hm];simp[h2.1, ← h2.2]
 ·have h2:=h.2
  rw[measOf_no hc] at h2
  cases h2
theorem decOk_mk {T:List UInt8}(h:kindOk (byteAt T 0:Nat)=true)(h5:byteAt T 15≤5)(h24:byteAt T (16+2*byteAt T 15)≤24)(hl:T.length=17+2*byteAt T 15+10*byteAt T (16+2*byteAt T 15)):decOk T=true:=by
 unfold decOk
 rw[h,Bool.true_and,measOf_in ⟨h5,by omega⟩]
 simp[h24, ← hl]
theorem decOk_kind {T:List UInt8}(h:¬ decOk T=true)(hm:(measOf T).2.2=true):kindOk (byteAt T 0:Nat)=false:=by
 unfold decOk at h
 rw[hm,Bool.and_true] at h
 simpa using h
theorem lowByte_toNat (b:UInt8):lowByte b.toNat=b:=by
 unfold lowByte;exact UInt8.ofNat_toNat
theorem oneB_at (T:List UInt8)(p:Nat)(h:p<T.length):oneB (byteAt T p)=(T.drop p).take 1:=by
 unfold oneB byteAt
 rw[lowByte_toNat,List.getD,List.getElem?_eq_getElem h,List.drop_eq_getElem_cons h]
 rfl
theorem chunk (T:List UInt8)(p a:Nat):(T.drop p).take a++T.drop (p+a)=T.drop p:=by
 rw[← List.drop_drop,List.take_append_drop]
theorem numBytes_at (T:List UInt8)(p:Nat)(h:p+1<T.length):numBytes (numAt T p)=(T.drop p).take 2:=by
 have h1:=byteAt_lt T p
 have h2:=byteAt_lt T (p+1)
 have e:numBytes (numAt T p)=oneB (byteAt T p)++oneB (byteAt T (p+1)):=by
  unfold numBytes oneB numAt
  have a1:(256*(byteAt T p:Int)+byteAt T (p+1)-1+1).toNat=256*byteAt T p+byteAt T (p+1):=by omega
  rw[a1,show (256*byteAt T p+byteAt T (p+1)) / 256=byteAt T p by omega]
  have a2:lowByte (256*byteAt T p+byteAt T (p+1))=lowByte (byteAt T (p+1)):=by
   unfold lowByte
   apply UInt8.toNat_inj.1
   simp only [UInt8.toNat_ofNat']
   omega
  rw[a2];rfl
 rw[e,oneB_at T p (by omega),oneB_at T (p+1) h, ← List.drop_drop]
 have:(T.drop p).take 2=(T.drop p).take (1+1):=rfl
 rw[this,List.take_add]
theorem numsBytes_from (T:List UInt8)(p n:Nat)(h:p+2*n≤T.length):numsBytes (numsFrom T p n)=(T.drop p).take (2*n):=by
 induction n with
 | zero=>simp[numsFrom,numsBytes]
 | succ n ih =>
  rw[numsFrom_succ,numsBytes_append,numsBytes_one,ih (by omega),numBytes_at T _ (by omega),show 2*(n+1)=2*n+2 by omega,List.take_add,List.drop_drop]
theorem entsFrom_nums (T:List UInt8)(p n:Nat):entsNums (entsFrom T p n)=numsFrom T p (n*5):=by
 induction n with
 | zero=>rfl
 | succ n ih =>
  rw[entsFrom_succ,entsNums_append,entsNums_one,ih,show (n+1)*5=n*5+1+1+1+1+1 by omega,numsFrom_succ,numsFrom_succ,numsFrom_succ,numsFrom_succ,numsFrom_succ]
  simp only [List.append_assoc,entAt,Ent.nums]
  rw[show p+2*(n*5)=p+10*n by omega,show p+2*(n*5+1)=p+10*n+2 by omega,show p+2*(n*5+1+1)=p+10*n+4 by omega,show p+2*(n*5+1+1+1)=p+10*n+6 by omega,show p+2*(n*5+1+1+1+1)=p+10*n+8 by omega]
  rfl
theorem pMems_length (T:List UInt8):(pMems T).length=byteAt T 15:=numsFrom_length _ _ _
theorem pEnts_length (T:List UInt8):(pEnts T).length=byteAt T (16+2*byteAt T 15):=entsFrom_length _ _ _
theorem numsFrom_ok (T:List UInt8)(p n:Nat):(numsFrom T p n).all numOk=true:=by
 rw[List.all_eq_true];intro x hx;simp only [numsFrom,List.mem_map] at hx
 obtain⟨i,_,rfl⟩:=hx;exact (numOk_iff _).2 (numAt_ok T _)
theorem body_parse {T:List UInt8}(hl:T.length=17+2*byteAt T 15+10*byteAt T (16+2*byteAt T 15)):body (pKind T) (pHead T) (pMems T) (pEnts T)=T:=by
 unfold body
 rw[pMems_length,pEnts_length];have e0:(pKind T).toNat=byteAt T 0:=by unfold pKind;omega
 have e1:numsBytes (entsNums (pEnts T))=T.drop (17+2*byteAt T 15):=by
  unfold pEnts
  rw[entsFrom_nums,numsBytes_from T _ _ (by omega)]
  exact List.take_of_length_le (by rw[List.length_drop];omega)
 have e2:numsBytes (pMems T)=(T.drop 16).take (2*byteAt T 15):=numsBytes_from T _ _ (by omega)
 have e3:numsBytes (pHead T)=(T.drop 1).take 14:=numsBytes_from T 1 7 (by omega)
 rw[e0,e1,e2,e3,oneB_at T 0 (by omega),oneB_at T 15 (by omega),oneB_at T (16+2*byteAt T 15) (by omega)]
 rw[show 17+2*byteAt T 15=16+2*byteAt T 15+1 by omega,chunk T (16+2*byteAt T 15) 1,chunk T 16 (2*byteAt T 15),chunk T 15 1,chunk T 1 14,chunk T 0 1,List.drop_zero]
theorem sumOf_length (l:List UInt8):(sumOf l).length=4:=rfl
theorem decOk_iff (T L:List UInt8)(hL:T++sumOf T=L):decOk T=true↔encOf (pKind T) (pHead T) (pMems T) (pEnts T)=(L,0):=by
 constructor
 ·intro h
  obtain⟨hk,h5,h24,hl,_⟩:=decOk_parts h
  have hb:=body_parse hl
  have hok:msgOk (pKind T) (pHead T) (pMems T) (pEnts T)=true:=by
   rw[msgOk_iff];unfold kindOk at hk
   simp only [Bool.and_eq_true,decide_eq_true_eq] at hk
   refine⟨⟨hk.1,hk.2,by rw[pMems_length];exact h5,by rw[pEnts_length];exact h24⟩,numsFrom_ok T 1 7,numsFrom_ok T _ _, ?_⟩
   unfold pEnts
   rw[entsFrom_nums];exact numsFrom_ok T _ _
  rw[encOf_yes hok];unfold frame
  rw[hb,hL]
 ·intro h
  by_cases hok:msgOk (pKind T) (pHead T) (pMems T) (pEnts T)=true
  ·rw[encOf_yes hok] at h
   have hf:frame (pKind T) (pHead T) (pMems T) (pEnts T)=L:=congrArg Prod.fst h
   have hlen:(frame (pKind T) (pHead T) (pMems T) (pEnts T)).length=(T++sumOf T).length:=by rw[hf,hL]
   unfold frame at hlen
   rw[List.length_append,List.length_append,sumOf_length,sumOf_length,body_length,pMems_length,pEnts_length] at hlen
   have h7:(pHead T).length=7:=rfl
   rw[h7] at hlen
   obtain⟨⟨k1,k2,k3,k4⟩,_⟩:=(msgOk_iff _ _ _ _).1 hok
   rw[pMems_length] at k3
   rw[pEnts_length] at k4
   refine decOk_mk ?_ k3 k4 (by omega)
   unfold kindOk
   have e:pKind T=(byteAt T 0:Nat):=rfl
   rw[e] at k1 k2
   simp only [Bool.and_eq_true,decide_eq_true_eq]
   exact⟨k1,k2⟩
  ·rw[encOf_no (by simpa using hok)] at h
   have h2:(1:Int)=0:=congrArg Prod.snd h
   exact absurd h2 (by decide)
theorem sum_iff (L T:List UInt8)(h:4≤L.length)(hT:T=L.take (L.length-4)):T++sumOf T=L↔L.drop (L.length-4)=sumOf T:=by
 subst hT;constructor
 ·intro e
  have:=congrArg (List.drop (L.length-4)) e
  rw[List.drop_append_of_le_length (by rw[List.length_take];omega),List.drop_of_length_le (by rw[List.length_take];omega),List.nil_append] at this
  exact this.symm
 ·intro e
  rw[← e,List.take_append_drop]
structure Dec where
 k:Int
 f:Int
 t:Int
 ep:Int
 ba:Int
 vo:Int
 po:Int
 va:Int
 ms:List Int
 es:List Ent
 err:Int
def Dec.no (e:Int):Dec:=⟨0,0,0,0,0,0,0,0,[],[],e⟩
def Dec.yes (T:List UInt8):Dec:=⟨pKind T,numAt T 1,numAt T 3,numAt T 5,numAt T 7,numAt T 9,numAt T 11,numAt T 13,pMems T,pEnts T,0⟩
def decOf (L:List UInt8):Dec :=
 if L.length<21 then Dec.no 1
 else if L.drop (L.length-4)≠sumOf (L.take (L.length-4)) then Dec.no 2
 else if decOk (L.take (L.length-4)) then Dec.yes (L.take (L.length-4))
 else Dec.no 1
theorem decOf_a {L:List UInt8}(h:L.length<21):decOf L=Dec.no 1:=by unfold decOf;rw[if_pos h]
theorem decOf_b {L:List UInt8}(h:¬ L.length<21)(h2:L.drop (L.length-4)≠sumOf (L.take (L.length-4))):decOf L=Dec.no 2:=by unfold decOf;rw[if_neg h,if_pos h2]
theorem decOf_c {L:List UInt8}(h:¬ L.length<21)(h2:¬ L.drop (L.length-4)≠sumOf (L.take (L.length-4)))(h3:¬ decOk (L.take (L.length-4))=true):decOf L=Dec.no 1:=by unfold decOf;rw[if_neg h,if_neg h2,if_neg h3]
theorem decOf_d {L:List UInt8}(h:¬ L.length<21)(h2:¬ L.drop (L.length-4)≠sumOf (L.take (L.length-4)))(h3:decOk (L.take (L.length-4))=true):decOf L=Dec.yes (L.take (L.length-4)):=by unfold decOf;rw[if_neg h,if_neg h2,if_pos h3]
theorem getD_append_left (a b:List UInt8)(i:Nat)(h:i<a.length):byteAt (a++b) i=byteAt a i:=by
 unfold byteAt;rw[List.getD,List.getElem?_append_left h,List.getD]
theorem getD_append_right (a b:List UInt8)(i:Nat):byteAt (a++b) (a.length+i)=byteAt b i:=by
 unfold byteAt;rw[List.getD,List.getElem?_append_right (by omega),List.getD,Nat.add_sub_cancel_left]
theorem byteAt_one (n:Nat)(h:n<256):byteAt (oneB n) 0=n:=by
 unfold byteAt oneB lowByte
 simp
 omega
theorem numAt_bytes (n:Int)(h : -1≤n∧n≤65534):numAt (numBytes n) 0=n:=by
 unfold numAt byteAt numBytes lowByte
 simp
 omega
theorem numAt_left (a b:List UInt8)(i:Nat)(h:i+1<a.length):numAt (a++b) i=numAt a i:=by
 unfold numAt;rw[getD_append_left a b i (by omega),getD_append_left a b (i+1) h]
theorem numAt_right (a b:List UInt8)(i:Nat):numAt (a++b) (a.length+i)=numAt b i:=by
 unfold numAt;rw[getD_append_right,Nat.add_assoc,getD_append_right]
theorem numsFrom_bytes (a b:List UInt8)(l:List Int)(h:l.all numOk=true):numsFrom (a++(numsBytes l++b)) a.length l.length=l:=by
 induction l generalizing a with
 | nil=>rfl
 | cons x l ih =>
  rw[List.all_cons,Bool.and_eq_true] at h
  have hx:=(numOk_iff x).1 h.1
  have e:numsBytes (x :: l)=numBytes x++numsBytes l:=rfl
  have key:numsFrom (a++(numsBytes (x :: l)++b)) a.length (l.length+1)=numAt (a++(numsBytes (x :: l)++b)) a.length :: numsFrom (a++(numsBytes (x :: l)++b)) (a.length+2) l.length:=by
   unfold numsFrom
   rw[List.range_succ_eq_map,List.map_cons,List.map_map];congr 1
   apply List.map_congr_left
   intro i _;show numAt _ _=numAt _ _
   congr 1
   show a.length+2*(i+1)=a.length+2+2*i
   omega
  rw[List.length_cons,key,e];have h1:numAt (a++(numBytes x++numsBytes l++b)) a.length=x:=by
   have:=numAt_right a (numBytes x++numsBytes l++b) 0
   rw[Nat.add_zero] at this
   rw[this,List.append_assoc,numAt_left _ _ 0 (by rw[numBytes_length];omega),numAt_bytes x hx]
  have h2:numsFrom (a++(numBytes x++numsBytes l++b)) (a.length+2) l.length=l:=by
   have:=ih (a++numBytes x) h.2
   rw[List.length_append,numBytes_length] at this
   rw[show a++(numBytes x++numsBytes l++b)=a++numBytes x++(numsBytes l++b) by simp only [List.append_assoc]]
   exact this
  rw[h1,h2]
theorem ents_inj : ∀ (a b:List Ent),entsNums a=entsNums b→a=b
 | [],[],_=>rfl
 | [],y :: b,h=>by
  have:=congrArg List.length h
  rw[entsNums_length,entsNums_length] at this
  simp at this
 | x :: a,[],h=>by
  have:=congrArg List.length h
  rw[entsNums_length,entsNums_length] at this
  simp at this
 | x :: a,y :: b,h=>by
  have e1:entsNums (x :: a)=x.client :: x.seq :: x.kind :: x.key :: x.value :: entsNums a:=rfl
  have e2:entsNums (y :: b)=y.client :: y.seq :: y.kind :: y.key :: y.value :: entsNums b:=rfl
  rw[e1,e2] at h
  injection h with h1 h
  injection h with h2 h
  injection h with h3 h
  injection h with h4 h
  injection h with h5 h
  rw[ents_inj a b h];obtain⟨a1,a2,a3,a4,a5⟩:=x;obtain⟨b1,b2,b3,b4,b5⟩:=y;simp only at h1 h2 h3 h4 h5
  rw[h1,h2,h3,h4,h5]
theorem parse_body (k:Int)(hd ms:List Int)(es:List Ent)(h7:hd.length=7)(hok:msgOk k hd ms es=true) :
  pKind (body k hd ms es)=k∧pHead (body k hd ms es)=hd∧pMems (body k hd ms es)=ms∧pEnts (body k hd ms es)=es∧byteAt (body k hd ms es) 15=ms.length∧byteAt (body k hd ms es) (16+2*ms.length)=es.length:=by
 obtain⟨⟨h1,h2,h3,h4⟩,g1,g2,g3⟩:=(msgOk_iff _ _ _ _).1 hok
 have e0:byteAt (body k hd ms es) 0=k.toNat:=by
  unfold body
  rw[getD_append_left _ _ 0 (by rw[oneB_length];omega),byteAt_one _ (by omega)]
 have e1:numsFrom (body k hd ms es) 1 7=hd:=by
  have:=numsFrom_bytes (oneB k.toNat) (oneB ms.length++(numsBytes ms++(oneB es.length++numsBytes (entsNums es)))) hd g1
  rw[oneB_length,h7] at this
  exact this
 have e2:byteAt (body k hd ms es) 15=ms.length:=by
  have hb:body k hd ms es=(oneB k.toNat++numsBytes hd)++(oneB ms.length++(numsBytes ms++(oneB es.length++numsBytes (entsNums es)))):=by unfold body;simp only [List.append_assoc]
  have hl:(oneB k.toNat++numsBytes hd).length=15:=by rw[List.length_append,oneB_length,numsBytes_length,h7]
  have:=getD_append_right (oneB k.toNat++numsBytes hd) (oneB ms.length++(numsBytes ms++(oneB es.length++numsBytes (entsNums es)))) 0
  rw[hl, ← hb,Nat.add_zero] at this
  rw[this,getD_append_left _ _ 0 (by rw[oneB_length];omega),byteAt_one _ (by omega)]
 have e3:numsFrom (body k hd ms es) 16 ms.length=ms:=by
  have hb:body k hd ms es=(oneB k.toNat++numsBytes hd++oneB ms.length)++(numsBytes ms++(oneB es.length++numsBytes (entsNums es))):=by unfold body;simp only [List.append_assoc]
  have hl:(oneB k.toNat++numsBytes hd++oneB ms.length).length=16:=by rw[List.length_append,List.length_append,oneB_length,oneB_length,numsBytes_length,h7]
  have:=numsFrom_bytes (oneB k.toNat++numsBytes hd++oneB ms.length) (oneB es.length++numsBytes (entsNums es)) ms g2
  rw[hl, ← hb] at this
  exact this
 have e4:byteAt (body k hd ms es) (16+2*ms.length)=es.length:=by
  have hb:body k hd ms es=(oneB k.toNat++numsBytes hd++oneB ms.length++numsBytes ms)++(oneB es.length++numsBytes (entsNums es)):=by unfold body;simp only [List.append_assoc]
  have hl:(oneB k.toNat++numsBytes hd++oneB ms.length++numsBytes ms).length=16+2*ms.length:=by rw[List.length_append,List.length_append,List.length_append,oneB_length,oneB_length,numsBytes_length,numsBytes_length,h7]
  have:=getD_append_right (oneB k.toNat++numsBytes hd++oneB ms.length++numsBytes ms) (oneB es.length++numsBytes (entsNums es)) 0
  rw[hl, ← hb,Nat.add_zero] at this
  rw[this,getD_append_left _ _ 0 (by rw[oneB_length];omega),byteAt_one _ (by omega)]
 have e5:numsFrom (body k hd ms es) (17+2*ms.length) (es.length*5)=entsNums es:=by
  have hb:body k hd ms es=(oneB k.toNat++numsBytes hd++oneB ms.length++numsBytes ms++oneB es.length)++(numsBytes (entsNums es)++[]):=by unfold body;simp only [List.append_assoc,List.append_nil]
  have hl:(oneB k.toNat++numsBytes hd++oneB ms.length++numsBytes ms++oneB es.length).length=17+2*ms.length:=by rw[List.length_append,List.length_append,List.length_append,List.length_append,oneB_length,oneB_length,oneB_length,numsBytes_length,numsBytes_length,h7];omega
  have:=numsFrom_bytes (oneB k.toNat++numsBytes hd++oneB ms.length++numsBytes ms++oneB es.length) [] (entsNums es) g3
  rw[hl, ← hb,entsNums_length,Nat.mul_comm 5 es.length] at this
  exact this
 refine⟨?_,e1, ?_, ?_,e2,e4⟩
 ·unfold pKind;rw[e0];omega
 ·unfold pMems;rw[e2];exact e3
 ·apply ents_inj
  unfold pEnts
  rw[e2,e4,entsFrom_nums,e5]
theorem decOf_frame (k f t ep ba vo po va:Int)(ms:List Int)(es:List Ent)(hok:msgOk k [f,t,ep,ba,vo,po,va] ms es=true) :
  decOf (frame k [f,t,ep,ba,vo,po,va] ms es)=⟨k,f,t,ep,ba,vo,po,va,ms,es,0⟩:=by
 obtain⟨p1,p2,p3,p4,p5,p6⟩:=parse_body k [f,t,ep,ba,vo,po,va] ms es rfl hok
 have hT:(frame k [f,t,ep,ba,vo,po,va] ms es).take ((frame k [f,t,ep,ba,vo,po,va] ms es).length-4)=body k [f,t,ep,ba,vo,po,va] ms es:=by
  unfold frame
  rw[List.length_append,sumOf_length,Nat.add_sub_cancel,List.take_left]
 have hD:(frame k [f,t,ep,ba,vo,po,va] ms es).drop ((frame k [f,t,ep,ba,vo,po,va] ms es).length-4)=sumOf (body k [f,t,ep,ba,vo,po,va] ms es):=by
  unfold frame
  rw[List.length_append,sumOf_length,Nat.add_sub_cancel,List.drop_left]
 have hl:(frame k [f,t,ep,ba,vo,po,va] ms es).length=21+2*ms.length+10*es.length:=by
  unfold frame
  rw[List.length_append,sumOf_length,body_length];simp only [List.length_cons,List.length_nil]
  omega
 have hdo:decOk (body k [f,t,ep,ba,vo,po,va] ms es)=true :=
  (decOk_iff _ _ rfl).2 (by rw[p1,p2,p3,p4];exact encOf_yes hok)
 have h:=decOf_d (L:=frame k [f,t,ep,ba,vo,po,va] ms es) (by omega) (by rw[hT,hD];simp) (by rw[hT];exact hdo)
 rw[h,hT];unfold Dec.yes
 rw[p1,p3,p4];unfold pHead at p2
 injection p2 with q1 p2
 injection p2 with q2 p2
 injection p2 with q3 p2
 injection p2 with q4 p2
 injection p2 with q5 p2
 injection p2 with q6 p2
 injection p2 with q7 p2
 rw[q1,q2,q3,q4,q5,q6,q7]
end Go.Proofs.YtgieeeeeiggoeaaGreat
