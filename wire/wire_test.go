package wire

import (
	"encoding/hex"
	"hash/crc32"
	"math"
	"reflect"
	"slices"
	"strings"
	"testing"

	"cordon/api"
)

// plain is a message without lists whose numbers are all 0, but for its kind.
const plain = "01 0001 0001 0001 0001 0001 0001 0001 00 00"

func unhex(t *testing.T, s string) string {
	t.Helper()
	b, err := hex.DecodeString(strings.ReplaceAll(s, " ", ""))
	if err != nil {
		t.Fatal(err)
	}
	return string(b)
}

// summed puts the sum behind a body; it is the library's, not the package's own.
func summed(body string) string {
	c := crc32.ChecksumIEEE([]byte(body))
	return body + string([]byte{byte(c), byte(c >> 8), byte(c >> 16), byte(c >> 24)})
}

// alike holds two messages against each other; no list is like an empty one.
func alike(a, b api.Msg) bool {
	sameLists := slices.Equal(a.Members, b.Members) && slices.Equal(a.Log, b.Log)
	a.Members, a.Log, b.Members, b.Log = nil, nil, nil, nil
	return sameLists && reflect.DeepEqual(a, b)
}

// fullMsg has as much of everything as a message may have.
func fullMsg() api.Msg {
	m := api.Msg{Kind: api.Accept, From: 200, To: 102, Epoch: 300, Ballot: 2001, Vote: 1999, Pos: 24, Value: 999}
	for i := range api.MaxReplicas {
		m.Members = append(m.Members, api.MaxReplicas-1-i)
	}
	for i := range api.MaxLog {
		m.Log = append(m.Log, api.Entry{Client: i % 4, Seq: 40 * i, Kind: 1 + i%2, Key: i % 16, Value: 900 - i})
	}
	return m
}

// checkBoth asks that m and the body stand for each other.
func checkBoth(t *testing.T, m api.Msg, body string) {
	t.Helper()
	want := summed(body)
	if s, e := Encode(m); s != want || e != api.OK {
		t.Errorf("P3: Encode(%+v) = %x, %d, want %x", m, s, e, want)
	}
	if got, e := Decode(want); !alike(got, m) || e != api.OK {
		t.Errorf("P4: Decode(%x) = %+v, %d, want %+v", want, got, e, m)
	}
}

func checkNoBytes(t *testing.T, name string, m api.Msg) {
	t.Helper()
	if s, e := Encode(m); s != "" || e != api.ErrForm {
		t.Errorf("P3: %s: Encode = %x, %d, want ErrForm", name, s, e)
	}
}

func checkNoMsg(t *testing.T, name, s string, want api.Errno) {
	t.Helper()
	if m, e := Decode(s); !alike(m, api.Msg{}) || e != want {
		t.Errorf("P4: %s: Decode = %+v, %d, want %d", name, m, e, want)
	}
}

func TestSum(t *testing.T) {
	if c := checksum("123456789"); c != 0xcbf43926 {
		t.Errorf("P3: the sum of 123456789 is %x", c)
	}
	if s := sumBytes("123456789"); s != "\x26\x39\xf4\xcb" {
		t.Errorf("P3: the low byte of the sum stands first: %x", s)
	}
	for _, s := range []string{"", "\x00", "\xff", "a", strings.Repeat("\x00\xff", 300)} {
		if c := checksum(s); c != crc32.ChecksumIEEE([]byte(s)) {
			t.Errorf("P3: the sum of %x is %x", s, c)
		}
	}
}

func TestExample(t *testing.T) {
	checkBoth(t, api.Msg{Kind: api.Ack, From: 1, To: 0, Epoch: 2, Pos: 3}, unhex(t, "03 0002 0001 0003 0001 0001 0004 0001 00 00"))
}

func TestOrder(t *testing.T) {
	m := api.Msg{Kind: 7, From: 1, To: 2, Epoch: 3, Ballot: 4, Vote: 5, Pos: 6, Value: 7, Members: []int{8, 9}, Log: []api.Entry{{Client: 10, Seq: 11, Kind: 12, Key: 13, Value: 14}, {Client: 259, Seq: 260, Kind: 261, Key: 262, Value: 263}}}
	checkBoth(t, m, unhex(t, "07 0002 0003 0004 0005 0006 0007 0008 02 0009 000a 02 000b 000c 000d 000e 000f 0104 0105 0106 0107 0108"))
}

func TestKinds(t *testing.T) {
	body := unhex(t, plain)
	for kind := range 256 {
		changed := string([]byte{byte(kind)}) + body[1:]
		if kind >= 1 && kind <= 16 {
			checkBoth(t, api.Msg{Kind: kind}, changed)
			continue
		}
		checkNoBytes(t, "a kind that is none", api.Msg{Kind: kind})
		checkNoMsg(t, "a kind that is none", summed(changed), api.ErrForm)
	}
	for _, kind := range []int{-1, 256, 257, 272, math.MinInt, math.MaxInt} {
		checkNoBytes(t, "a kind that is none", api.Msg{Kind: kind})
	}
}

// numberPlaces are all the places of a number but the kind, each with that of its bytes.
func numberPlaces(m *api.Msg) ([]*int, []int) {
	places := []*int{&m.From, &m.To, &m.Epoch, &m.Ballot, &m.Vote, &m.Pos, &m.Value}
	for i := range m.Members {
		places = append(places, &m.Members[i])
	}
	for i := range m.Log {
		e := &m.Log[i]
		places = append(places, &e.Client, &e.Seq, &e.Kind, &e.Key, &e.Value)
	}
	offsets := make([]int, len(places))
	for i := range offsets {
		offsets[i] = 1 + 2*i
		if i >= 7 {
			offsets[i]++
		}
		if i >= 7+len(m.Members) {
			offsets[i]++
		}
	}
	return places, offsets
}

func TestNumbers(t *testing.T) {
	m := fullMsg()
	places, offsets := numberPlaces(&m)
	for i, place := range places {
		kept := *place
		for _, n := range []int{-1, 0, 1, 254, 255, 256, 65533, 65534} {
			*place = n
			s, e := Encode(m)
			if e != api.OK || len(s) != 271 {
				t.Fatalf("P3: number %d is %d: %d bytes, %d", i, n, len(s), e)
			}
			if at := offsets[i]; int(s[at])<<8|int(s[at+1]) != n+1 {
				t.Errorf("P3: number %d is %d: %x", i, n, s[at:at+2])
			}
			checkBoth(t, m, s[:len(s)-4])
		}
		for _, n := range []int{-2, 65535, 65536, -65537, 1 << 40, math.MinInt, math.MaxInt} {
			*place = n
			checkNoBytes(t, "a number out of bounds", m)
		}
		*place = kept
	}
}

func TestListLengths(t *testing.T) {
	for members := range 8 {
		for entries := range 27 {
			m := api.Msg{Kind: api.Sealed, Members: make([]int, members), Log: make([]api.Entry, entries)}
			body := unhex(t, plain[:len(plain)-6])
			body = "\x08" + body[1:] + string([]byte{byte(members)}) + strings.Repeat("\x00\x01", members)
			body += string([]byte{byte(entries)}) + strings.Repeat("\x00\x01", 5*entries)
			if members <= 5 && entries <= 24 {
				checkBoth(t, m, body)
				continue
			}
			checkNoBytes(t, "a list too long", m)
			checkNoMsg(t, "a list too long", summed(body), api.ErrForm)
		}
	}
	checkNoBytes(t, "256 members", api.Msg{Kind: 1, Members: make([]int, 256)})
	checkNoBytes(t, "256 entries", api.Msg{Kind: 1, Log: make([]api.Entry, 256)})
	checkNoBytes(t, "a million of both", api.Msg{Kind: 1, Members: make([]int, 1e6), Log: make([]api.Entry, 1e6)})
}

func TestCountsThatDoNotFit(t *testing.T) {
	m := fullMsg()
	m.Members, m.Log = m.Members[:3], m.Log[:4]
	s, _ := Encode(m)
	body := s[:len(s)-4]
	for _, at := range []int{15, 15 + 1 + 2*3} {
		right := int(body[at])
		for count := range 256 {
			changed := body[:at] + string([]byte{byte(count)}) + body[at+1:]
			if count == right {
				checkBoth(t, m, changed)
				continue
			}
			checkNoMsg(t, "a count that does not fit", summed(changed), api.ErrForm)
		}
	}
}

// TestMemberCountThatEndsTheBody: the count of the entries would stand behind the end.
func TestMemberCountThatEndsTheBody(t *testing.T) {
	body := unhex(t, plain)
	for count := 1; count <= 5; count++ {
		short := body[:15] + string([]byte{byte(count)}) + strings.Repeat("\x00\x01", count)
		for cut := 17; cut <= len(short); cut++ {
			checkNoMsg(t, "no count of entries", summed(short[:cut]), api.ErrForm)
		}
	}
}

func TestCutAndLonger(t *testing.T) {
	s, _ := Encode(fullMsg())
	body := s[:len(s)-4]
	for n := range len(body) {
		checkNoMsg(t, "a body that is cut", summed(body[:n]), api.ErrForm)
	}
	for n := range len(s) {
		want := api.ErrCorrupt
		if n < 21 {
			want = api.ErrForm
		}
		checkNoMsg(t, "a frame that is cut", s[:n], want)
	}
	for _, more := range []string{"\x00", "\x00\x00", "\x00\x01", strings.Repeat("\x00\x01", 5)} {
		checkNoMsg(t, "bytes behind the end", summed(body+more), api.ErrForm)
		checkNoMsg(t, "bytes behind the end", summed(unhex(t, plain)+more), api.ErrForm)
		checkNoMsg(t, "bytes behind the sum", s+more, api.ErrCorrupt)
	}
}

// TestShort: what is short is ErrForm, whatever its sum; from 21 bytes on the sum is asked first.
func TestShort(t *testing.T) {
	for n := range 21 {
		checkNoMsg(t, "too short", strings.Repeat("a", n), api.ErrForm)
		if n >= 4 {
			checkNoMsg(t, "too short, with its sum", summed(strings.Repeat("\x01", n-4)), api.ErrForm)
		}
	}
	checkNoMsg(t, "21 bytes, a wrong sum", strings.Repeat("a", 21), api.ErrCorrupt)
	checkNoMsg(t, "21 bytes, a wrong kind and sum", strings.Repeat("\xff", 21), api.ErrCorrupt)
	checkNoMsg(t, "21 bytes, a wrong kind", summed("\x00"+unhex(t, plain)[1:]), api.ErrForm)
	checkNoMsg(t, "many bytes", strings.Repeat("a", 1e6), api.ErrCorrupt)
	checkNoMsg(t, "many bytes, with their sum", summed(strings.Repeat("\x01", 1e6)), api.ErrForm)
	checkBoth(t, api.Msg{Kind: 1}, unhex(t, plain))
}

func flip(b []byte, bit int) {
	b[bit/8] ^= 1 << (bit % 8)
}

func TestTurnedBits(t *testing.T) {
	b := []byte(summed(unhex(t, plain)))
	bits := 8 * len(b)
	check := func(turned ...int) {
		if m, e := Decode(string(b)); !alike(m, api.Msg{}) || e != api.ErrCorrupt {
			t.Errorf("P4: the bits %v are turned: %+v, %d", turned, m, e)
		}
	}
	for i := range bits {
		flip(b, i)
		check(i)
		for j := range i {
			flip(b, j)
			check(i, j)
			for k := j % 7; k < j; k += 7 {
				flip(b, k)
				check(i, j, k)
				flip(b, k)
			}
			flip(b, j)
		}
		flip(b, i)
	}
}

func TestTurnedBitsOfTheLongest(t *testing.T) {
	s, _ := Encode(fullMsg())
	for i := range 8 * len(s) {
		b := []byte(s)
		for _, bit := range []int{i, (i*31 + 7) % (8 * len(s)), (i*57 + 1001) % (8 * len(s))} {
			flip(b, bit)
			if string(b) != s {
				checkNoMsg(t, "turned bits", string(b), api.ErrCorrupt)
			}
		}
	}
}

// TestAnyBytes: a frame of any bytes with the right sum ends in ErrForm or in the message whose bytes they are.
func TestAnyBytes(t *testing.T) {
	state := uint32(1)
	next := func() uint32 {
		state = state*1664525 + 1013904223
		return state >> 8
	}
	for range 20000 {
		b := make([]byte, next()%300)
		for i := range b {
			b[i] = byte(next() >> 4)
		}
		if len(b) > 16 && next()%2 == 0 {
			b[0], b[15] = byte(next()%18), byte(next()%7)
		}
		s := summed(string(b))
		m, e := Decode(s)
		if e == api.ErrForm && alike(m, api.Msg{}) {
			continue
		}
		if again, e2 := Encode(m); e != api.OK || e2 != api.OK || again != s {
			t.Fatalf("P1, P4: Decode(%x) = %+v, %d", s, m, e)
		}
	}
}
