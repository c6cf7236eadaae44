"""A disk: files, and a book of rows; it may be allowed only so many more writes."""

from parcelmend.errors import Fallen


class Disk:
    def __init__(self):
        self.files = {}
        self.book = []
        # How many writes are left; None is any number.
        self.left = None

    def files_now(self):
        files = {}
        for path, lines in self.files.items():
            files[path] = list(lines)
        return files

    def book_now(self):
        return list(self.book)

    def put(self, path, lines):
        self.take_write()
        self.files[path] = list(lines)

    def erase(self, path):
        self.take_write()
        if path in self.files:
            self.files.pop(path)

    def note(self, kind, text):
        self.take_write()
        self.book.append((kind, text))

    def allow(self, many):
        self.left = many

    def take_write(self):
        if self.left is None:
            return
        if self.left < 1:
            raise Fallen("no write is left")
        self.left = self.left - 1
