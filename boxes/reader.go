package boxes

// Reader takes boxes one behind the other. When one is not what is due, all that is taken behind it is empty, and it is never done: so it is enough to ask that once, at the end.
type Reader struct {
	rest   []byte
	failed bool
}

// Read gives a reader of the boxes in data.
func Read(data []byte) Reader {
	return Reader{rest: data}
}

// ReadList gives a reader of what is in data's one list.
func ReadList(data []byte) Reader {
	whole := Read(data)
	in := whole.List()
	in.Need(whole.Done())
	return in
}

// Need fails, unless what was taken is what it must be.
func (r *Reader) Need(ok bool) {
	if !ok {
		*r = Reader{failed: true}
	}
}

// Empty tells whether no box is left.
func (r *Reader) Empty() bool {
	return len(r.rest) == 0
}

// Done tells whether every box was what was due, and none is left.
func (r *Reader) Done() bool {
	return !r.failed && r.Empty()
}

// Text takes a text. It is a part of what is read, no copy.
func (r *Reader) Text() []byte {
	return r.take(Text)
}

// List takes a list, and gives a reader of it.
func (r *Reader) List() Reader {
	in := r.take(List)
	return Reader{rest: in, failed: r.failed}
}

// TakeNumbers takes as many numbers as there are places for them.
func TakeNumbers[T Integer](r *Reader, places ...*T) {
	for _, place := range places {
		v, ok := ReadNumber[T](r.take(Number))
		r.Need(ok)
		*place = v
	}
}

func (r *Reader) take(due byte) []byte {
	tag, in, rest, ok := Cut(r.rest)
	if !ok || tag != due {
		r.Need(false)
		return nil
	}
	r.rest = rest
	return in
}
