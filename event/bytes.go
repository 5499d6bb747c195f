package event

import (
	"tapestry/api"
	"tapestry/codec"
)

// maxUint is the greatest number without a sign that an event's bytes may have.
const maxUint = 1 << 62

// Encode is an event as bytes.
func Encode(e api.Event) (string, api.Errno) { return Pack([]api.Event{e}) }

// Decode is the event with which bytes begin, and how many they are.
func Decode(s string) (api.Event, int, api.Errno) {
	head, at, err := takeHead(s)
	if err != api.OK {
		return api.Event{}, 0, err
	}
	e := api.Event{Id: int(head[0]), Time: int64(head[1]), Kind: int(head[2])}
	all, has := numbers(&e), Fields(e.Kind)
	if has < 0 {
		return api.Event{}, 0, api.ErrEvent
	}
	for _, n := range all[:has] {
		signed, many, err := codec.TakeInt(s[at:])
		if err != api.OK {
			return api.Event{}, 0, err
		}
		*n = signed
		at += many
	}
	if !Valid(e) {
		return api.Event{}, 0, api.ErrEvent
	}
	return e, at, api.OK
}

// Pack is events, one behind the other, as bytes.
func Pack(l []api.Event) (string, api.Errno) {
	var b []byte
	for _, e := range Of(l) {
		if !Valid(e) {
			return "", api.ErrEvent
		}
		b = putEvent(b, e)
	}
	return string(b), api.OK
}

// Unpack reads them; what is wrong, and where.
func Unpack(s string) ([]api.Event, api.Errno, int) {
	var l []api.Event
	for at := 0; at < len(s); {
		e, many, err := Decode(s[at:])
		if err != api.OK {
			return nil, err, at
		}
		l = append(l, e)
		at += many
	}
	return l, api.OK, 0
}

// putEvent puts an event that may be behind bytes.
func putEvent(b []byte, e api.Event) []byte {
	for _, n := range [...]uint64{uint64(e.Id), uint64(e.Time), uint64(e.Kind)} {
		b = append(b, codec.PutUint(n)...)
	}
	all := numbers(&e)
	for _, n := range all[:Fields(e.Kind)] {
		b = append(b, codec.PutInt(*n)...)
	}
	return b
}

// takeHead is the Id, the Time and the Kind with which bytes begin, and how many they are.
func takeHead(s string) ([3]uint64, int, api.Errno) {
	var head [3]uint64
	at := 0
	for i := range head {
		n, many, err := codec.TakeUint(s[at:])
		if err == api.OK && n > maxUint {
			err = api.ErrEvent
		}
		if err != api.OK {
			return [3]uint64{}, 0, err
		}
		head[i] = n
		at += many
	}
	return head, at, api.OK
}
