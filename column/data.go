package column

import (
	"warp/api"
	"warp/delta"
	"warp/dict"
	"warp/octets"
	"warp/pack"
	"warp/runs"
)

// putSome is the data of values of a kind, none of which is Null, and the encoding that was used.
func putSome(kind uint8, some []api.Value, how uint8) ([]byte, uint8) {
	if kind == api.Text {
		return putTexts(texts(some), how)
	}
	return putNumbers(numbers(some), how)
}

// takeSome is the values of a kind whose data b may be.
func takeSome(kind uint8, b []byte, how uint8) ([]api.Value, api.Errno) {
	var some []api.Value
	if kind == api.Text {
		l, e := takeTexts(b, how)
		for _, s := range l {
			some = append(some, api.Value{Kind: kind, S: s})
		}
		return some, e
	}
	l, e := takeNumbers(b, how)
	for _, n := range l {
		some = append(some, api.Value{Kind: kind, N: n})
	}
	return some, e
}

// numbers is the N of values.
func numbers(some []api.Value) []int {
	l := make([]int, len(some))
	for i, v := range some {
		l[i] = v.N
	}
	return l
}

// texts is the S of values.
func texts(some []api.Value) []string {
	l := make([]string, len(some))
	for i, v := range some {
		l[i] = v.S
	}
	return l
}

// putNumbers is the data of numbers, and the encoding that was used. They are no more than a column has rows, so that runs and frames of them never fail.
func putNumbers(l []int, how uint8) ([]byte, uint8) {
	switch how {
	case api.Runs:
		b, _ := runs.Put(l)
		return b, how
	case api.Frame:
		b, _ := pack.Frame(l)
		return b, how
	case api.Delta:
		if b, e := delta.Put(l); e == api.OK {
			return b, how
		}
		fallthrough
	default:
		return putPlain(l, octets.Int), api.Plain
	}
}

// takeNumbers is the numbers whose data b may be.
func takeNumbers(b []byte, how uint8) ([]int, api.Errno) {
	switch how {
	case api.Plain:
		r := octets.New(b)
		return takePlain(r, r.Int)
	case api.Runs:
		return runs.Take(b)
	case api.Frame:
		return pack.Unframe(b)
	case api.Delta:
		return delta.Take(b)
	}
	return nil, api.ErrCorrupt
}

// putTexts is the data of texts, and the encoding that was used.
func putTexts(l []string, how uint8) ([]byte, uint8) {
	switch how {
	case api.Dict:
		if b, e := putWords(l); e == api.OK {
			return b, how
		}
		fallthrough
	default:
		return putPlain(l, octets.Text), api.Plain
	}
}

// putWords is the words of texts, and which of them each text is.
func putWords(l []string) ([]byte, api.Errno) {
	words, places, e := dict.Of(l)
	if e != api.OK {
		return nil, e
	}
	b, e := dict.Put(words)
	if e != api.OK {
		return nil, e
	}
	framed, e := pack.Frame(places)
	if e != api.OK {
		return nil, e
	}
	return append(b, framed...), api.OK
}

// takeTexts is the texts whose data b may be.
func takeTexts(b []byte, how uint8) ([]string, api.Errno) {
	switch how {
	case api.Plain:
		r := octets.New(b)
		return takePlain(r, r.Text)
	case api.Dict:
		return takeWords(b)
	}
	return nil, api.ErrCorrupt
}

// takeWords is the texts that putWords may turn into b.
func takeWords(b []byte) ([]string, api.Errno) {
	words, rest, e := dict.Take(b)
	if e != api.OK {
		return nil, e
	}
	places, e := pack.Unframe(rest)
	if e != api.OK {
		return nil, e
	}
	var l []string
	for _, place := range places {
		if place < 0 || place >= len(words) {
			return nil, api.ErrCorrupt
		}
		l = append(l, words[place])
	}
	return l, api.OK
}

// putPlain is numbers or texts one by one, each as put appends it.
func putPlain[T int | string](l []T, put func(b []byte, x T) []byte) []byte {
	var b []byte
	for _, x := range l {
		b = append(b, put(nil, x)...)
	}
	return b
}

// takePlain is numbers or texts one by one, as next takes them from r, up to its end.
func takePlain[T int | string](r *octets.Reader, next func() T) ([]T, api.Errno) {
	var l []T
	for r.Left() > 0 {
		l = append(l, next())
	}
	return l, r.End()
}
