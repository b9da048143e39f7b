package wire

import (
	"slices"
	"testing"

	"cordon/api"
)

// roomy is a copy of a list with marks in its spare room.
func roomy[T any](list []T, mark T) []T {
	room := slices.Repeat([]T{mark}, len(list)+8)
	copy(room, list)
	return room[:len(list)]
}

// scribble writes into a list and all of its spare room.
func scribble[T any](list []T, mark T) {
	list = list[:cap(list)]
	for i := range list {
		list[i] = mark
	}
}

func whole[T any](list []T) []T {
	return slices.Clone(list[:cap(list)])
}

func all[T any](list []T, holds func(T) bool) bool {
	return !slices.ContainsFunc(list, func(x T) bool { return !holds(x) })
}

func TestEncodeWritesIntoNothing(t *testing.T) {
	bad := fullMsg()
	bad.Log[23].Value = -2
	for _, m := range []api.Msg{fullMsg(), {Kind: 1}, bad, {Kind: 0, Members: []int{1}}} {
		m.Members = roomy(m.Members, 77)
		m.Log = roomy(m.Log, api.Entry{Client: 77, Seq: 77})
		members, log := whole(m.Members), whole(m.Log)
		s, e := Encode(m)
		if !slices.Equal(members, m.Members[:cap(m.Members)]) || !slices.Equal(log, m.Log[:cap(m.Log)]) {
			t.Errorf("P2: Encode wrote into a list, or behind it: %v %v", m.Members[:cap(m.Members)], m.Log[:cap(m.Log)])
		}
		kept := string([]byte(s))
		scribble(m.Members, 5)
		scribble(m.Log, api.Entry{Key: 5})
		if s != kept {
			t.Errorf("P2: what Encode answered (%d) changed with the list that it was handed", e)
		}
	}
}

func TestDecodedListsShareNothing(t *testing.T) {
	want := fullMsg()
	for _, c := range []struct{ members, entries int }{{5, 24}, {5, 0}, {0, 24}, {0, 0}, {1, 1}} {
		want.Members, want.Log = fullMsg().Members[:c.members], fullMsg().Log[:c.entries]
		s, _ := Encode(want)
		first, _ := Decode(s)
		second, _ := Decode(s)
		scribble(first.Members, -7)
		if !slices.Equal(first.Log, want.Log) {
			t.Errorf("P2: writing into Members changed Log of the same answer")
		}
		scribble(first.Log, api.Entry{Client: -7})
		third, _ := Decode(s)
		for _, m := range []api.Msg{second, third} {
			if !alike(m, want) {
				t.Errorf("P2: writing into one answer of Decode changed another: %+v", m)
			}
		}
		isMarked := func(e api.Entry) bool { return e == api.Entry{Client: -7} }
		if !all(first.Members, func(n int) bool { return n == -7 }) || !all(first.Log, isMarked) {
			t.Errorf("P2: a later Decode wrote into an earlier answer: %+v", first)
		}
		if again, _ := Encode(want); again != s {
			t.Errorf("P2: writing into an answer of Decode changed a frame")
		}
	}
}

// TestEmptyAnswersShareNothing: an error's answer has no room to write into that another one could see.
func TestEmptyAnswersShareNothing(t *testing.T) {
	first, _ := Decode("")
	first.Members = append(first.Members, 1)
	first.Log = append(first.Log, api.Entry{Seq: 1})
	second, e := Decode("")
	if e != api.ErrForm || len(second.Members) != 0 || len(second.Log) != 0 || len(first.Members) != 1 || len(first.Log) != 1 {
		t.Errorf("P1, P2: %+v, %d", second, e)
	}
}
