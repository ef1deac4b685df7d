package world

import "bollard/fs"

// Files is the file system that a world stands on now: by it tests look at what lies there, and lay what coming back has to mend.
func (w *World) Files() *fs.FS { return w.files }
